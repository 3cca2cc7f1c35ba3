import PyProof.Rows.All
import Wide.All
import OpenK.AllK
import Wide.FinOn
import Lean
import PyProof.EqAt
import PyProof.EqKinds
import PyProof.TupleCall
import PySem.Challenge.RW_sunstore_k42_whole_no_plan_under_a_floor
set_option Elab.async false
set_option linter.all false
set_option maxRecDepth 100000
namespace L2
open PySem PySem.Spec PyProof.Rows

/-- a key: an int or a str -/
noncomputable abbrev Key := Sum Int Str
noncomputable def keyIs : Key → Value → Bool
  | .inl k, v => Value.isInt k v
  | .inr x, v => Value.isStrOf x v
noncomputable def keyH (w : World) : Key → Int
  | .inl k => hashInt k
  | .inr x => hashStr w x
theorem keyIs_shape : ∀ {k : Key} {v : Value}, keyIs k v = true → (∃ i t, k = Sum.inl i ∧ v = Value.int i t) ∨ (∃ x t, k = Sum.inr x ∧ v = Value.str x t)
  | .inl i, v, h => by
    obtain ⟨t, e⟩ := Value.isInt_shape (k := i) (v := v) h
    exact .inl ⟨i, t, rfl, e⟩
  | .inr x, v, h => by
    obtain ⟨t, e⟩ := Value.isStrOf_shape (x := x) (v := v) h
    exact .inr ⟨x, t, rfl, e⟩
theorem key_ll (a b : Int) : decide ((Sum.inl a : Key) = Sum.inl b) = (a == b) := by
  by_cases e : a = b
  · subst e; simp
  · have h : ¬ (Sum.inl a : Key) = Sum.inl b := fun q => e (Sum.inl.inj q)
    rw [decide_eq_false h]
    exact (beq_eq_false_iff_ne.mpr e).symm
theorem key_rr (a b : Str) : decide ((Sum.inr a : Key) = Sum.inr b) = decide (a = b) := by
  by_cases e : a = b
  · subst e; simp
  · have h : ¬ (Sum.inr a : Key) = Sum.inr b := fun q => e (Sum.inr.inj q)
    rw [decide_eq_false h, decide_eq_false e]
theorem key_lr (a : Int) (b : Str) : decide ((Sum.inl a : Key) = Sum.inr b) = false := decide_eq_false (fun q => nomatch q)
theorem key_rl (a : Str) (b : Int) : decide ((Sum.inr a : Key) = Sum.inl b) = false := decide_eq_false (fun q => nomatch q)

noncomputable def mixKind (prog : Program) (w : World) : PySem.KeyKind prog w Key where
  is := keyIs
  hash := keyH w
  inj := fun v a b ha hb => by
    rcases keyIs_shape ha with ⟨i, t, rfl, rfl⟩ | ⟨x, t, rfl, rfl⟩
    · rcases keyIs_shape hb with ⟨j, u, rfl, e⟩ | ⟨y, u, rfl, e⟩
      · injection e with e1 _; rw [e1]
      · exact nomatch e
    · rcases keyIs_shape hb with ⟨j, u, rfl, e⟩ | ⟨y, u, rfl, e⟩
      · exact nomatch e
      · injection e with e1 _; rw [e1]
  byValue := fun k v h => by
    rcases keyIs_shape h with ⟨i, t, rfl, rfl⟩ | ⟨x, t, rfl, rfl⟩ <;> rfl
  pyHash := fun hv h => by
    rcases keyIs_shape hv with ⟨i, t, rfl, rfl⟩ | ⟨x, t, rfl, rfl⟩
    · exact wpAny_pyHash_int h
    · exact wpAny_pyHash_str h
  eqBool := fun hu hv h => by
    rcases keyIs_shape hu with ⟨i, t, rfl, rfl⟩ | ⟨x, t, rfl, rfl⟩
    · rcases keyIs_shape hv with ⟨j, u, rfl, rfl⟩ | ⟨y, u, rfl, rfl⟩
      · rw [key_ll] at h; exact wpAny_eqBool_int h
      · rw [key_lr] at h; exact SeqAt.EqAt.int_str i t y u _ _ _ _ h
    · rcases keyIs_shape hv with ⟨j, u, rfl, rfl⟩ | ⟨y, u, rfl, rfl⟩
      · rw [key_rl] at h; exact SeqAt.EqAt.str_int x t j u _ _ _ _ h
      · rw [key_rr] at h; exact wpAny_eqBool_str h
  «strs» := fun k x t v h => by
    rcases keyIs_shape h with ⟨i, u, rfl, e⟩ | ⟨y, u, rfl, e⟩
    · exact nomatch e
    · injection e with e1 _
      subst e1
      cases v <;> rfl

end L2

namespace L2
open PySem PySem.Spec PyProof.Rows

/-- a value, without the heap -/
inductive V where
  | non | bl (b : Bool) | int (i : Int) | str (x : Str) | byt (b : Array UInt8) | flt (b : UInt64) | ref (a : Addr) | ty (n : String)
  deriving DecidableEq

noncomputable def RelV : V → Value → Prop
  | .non, u => u = Value.none
  | .bl b, u => u = Value.bool b
  | .int i, u => ∃ t, u = Value.int i t
  | .str x, u => ∃ t, u = Value.str x t
  | .byt b, u => ∃ t, u = Value.bytes b t
  | .flt b, u => ∃ t, u = Value.float b t
  | .ref a, u => u = Value.ref a
  | .ty n, u => u = Value.type n

noncomputable abbrev Vals : List V → List Value → Prop := Paired RelV
theorem Vals.length {xs : List V} {us : List Value} (r : Vals xs us) : xs.length = us.length := Paired.length r
theorem Vals.get : ∀ {xs : List V} {us : List Value} {i : Nat} {x : V}, Vals xs us → xs[i]? = some x → ∃ u, us[i]? = some u ∧ RelV x u
  | _, _, _, _, .nil, e => by simp at e
  | _, _, 0, _, .cons r _, e => by simp at e; subst e; exact ⟨_, rfl, r⟩
  | _, _, i + 1, x, .cons _ t, e => by
    obtain ⟨u, h1, h2⟩ := Vals.get (i := i) (x := x) t (by simpa using e)
    exact ⟨u, by simpa using h1, h2⟩
theorem Vals.set {x : V} {u : Value} (r : RelV x u) : ∀ {xs : List V} {us : List Value} (i : Nat), Vals xs us → Vals (xs.set i x) (us.set i u)
  | _, _, _, .nil => .nil
  | _, _, 0, .cons _ t => .cons r t
  | _, _, i + 1, .cons q t => .cons q (Vals.set r i t)
theorem Vals.append : ∀ {xs ys : List V} {us ws : List Value}, Vals xs us → Vals ys ws → Vals (xs ++ ys) (us ++ ws)
  | _, _, _, _, .nil, s => s
  | _, _, _, _, .cons r t, s => .cons r (Vals.append t s)
theorem Vals.take : ∀ {xs : List V} {us : List Value} (n : Nat), Vals xs us → Vals (xs.take n) (us.take n)
  | _, _, 0, _ => .nil
  | _, _, _ + 1, .nil => .nil
  | _, _, n + 1, .cons r t => .cons r (Vals.take n t)
theorem Vals.drop : ∀ {xs : List V} {us : List Value} (n : Nat), Vals xs us → Vals (xs.drop n) (us.drop n)
  | _, _, 0, r => r
  | _, _, _ + 1, .nil => .nil
  | _, _, n + 1, .cons _ t => Vals.drop n t
theorem Vals.none_of : ∀ {xs : List V} {us : List Value} {i : Nat}, Vals xs us → xs[i]? = none → us[i]? = none := fun {xs us i} r e => by
  have h1 := r.length
  have h2 : xs.length ≤ i := List.getElem?_eq_none_iff.mp e
  exact List.getElem?_eq_none_iff.mpr (by omega)

noncomputable def RelO : Option V → Option Value → Prop
  | some v, some u => RelV v u
  | none, none => True
  | _, _ => False
noncomputable def KV {κ : Type} : List (κ × V) → List (κ × Value) → Prop := Paired fun (p : κ × V) (q : κ × Value) => p.1 = q.1 ∧ RelV p.2 q.2

/-- a key of a dict (00_mix): an int or a text -/
noncomputable def kV : Key → V
  | .inl i => .int i
  | .inr x => .str x

/-- what stands at a tracked address -/
inductive HO where
  /-- a list -/
  | lst (xs : List V)
  /-- a tuple (never changes) -/
  | tup (xs : List V)
  /-- a dict whose keys are ints and texts; one whose keys are tuples of ints and texts (the empty one is both) -/
  | dK (kvs : List (Key × V)) | dT (kvs : List (List Key × V))
  /-- a set of ints: its members, its size -/
  | set (S : Int → Bool) (n : Nat)
  /-- an instance of the class at C, its dict at dx, its attributes -/
  | ins (C dx : Addr) (fs : List (Str × V))
  /-- the dict of the instance at x -/
  | own (x : Addr)
  /-- the dict of an exception -/
  | xd (fs : List (Str × V))
  /-- a bound method, f of x -/
  | met (f x : Addr)
  /-- a range object lo, lo + 1, .. below hi -/
  | rng (lo hi : Int)
  /-- a thing that is known to the object (the script; a dict while a loop walks it): read, never written while it is so -/
  | frz (o : Obj) (u : HO)
  /-- a code object's table -/
  | tbl (ps : Array Value)
  /-- any other thing, by what is true of its one object (a def of one's own: SetO a S n := HO.ext fun h => ..) -/
  | ext (φ : Heap → Prop)

noncomputable abbrev Hp := Addr → Option HO
noncomputable def upd (H : Hp) (a : Addr) (o : HO) : Hp := fun b => if b = a then some o else H b
theorem upd_same {H : Hp} {a : Addr} {o : HO} : upd H a o a = some o := by unfold upd; rw [if_pos rfl]
theorem upd_ne {H : Hp} {a b : Addr} {o : HO} (h : b ≠ a) : upd H a o b = H b := by unfold upd; rw [if_neg h]
theorem ne_of_none {H : Hp} {a b : Addr} {o : HO} (h : H a = some o) (h' : H b = none) : a ≠ b := by
  intro e; subst e; rw [h] at h'; cases h'

section
variable (P : Program) (w : World)
noncomputable def ObjOk (H : Hp) (h : Heap) (a : Addr) : HO → Prop
  | .lst xs => xs.length ≤ sizeLine ∧ ∃ (its : List Value) (n : Nat), Vals xs its ∧ h.get? a = some { cls := .type "list", data := .seq its.toArray n }
  | .tup xs => xs.length ≤ sizeLine ∧ ∃ its : List Value, Vals xs its ∧ IsTup h a its.toArray
  | .dK kvs => kvs.length ≤ sizeLine ∧ (a == sysModules) = false ∧ ∃ vs, KV kvs vs ∧ h.DictOf (mixKind P w) a vs
  | .dT kvs => kvs.length ≤ sizeLine ∧ (a == sysModules) = false ∧ ∃ xs : List (List Key × Addr × Value),
      Paired (fun (p : List Key × V) (q : List Key × Addr × Value) => p.1 = q.1 ∧ H q.2.1 = some (.tup (p.1.map kV)) ∧ RelV p.2 q.2.2) kvs xs ∧
      ∃ o es ep, h.get? a = some o ∧ o.ExactDict ∧ o.data = .dict es ep ∧ es.toList = xs.map (entryOfKey (tupleKind (mixKind P w))) ∧ (xs.map (·.1)).Nodup
  | .set S n => h.SetOf (intKind P w) a S n
  | .ins C dx fs => H dx = some (.own a) ∧ fs.length ≤ 1000 ∧ dx ≠ a ∧ h.get? a = some (PySem.W.instObj C dx) ∧
      ∃ mA, h.Ns1 dx mA ∧ (∀ f, RelO (fs.lookup f) (mA f)) ∧ PySem.Within mA (fs.map (·.1))
  | .own _ => ∃ o, h.get? a = some o
  | .xd fs => ∃ mA, h.Ns1 a mA ∧ ∀ f, RelO (fs.lookup f) (mA f)
  | .rng lo hi => ∃ t u v, h.get? a = some { cls := .type "range", data := .fields #[.int lo t, .int hi u, .int 1 v] }
  | .frz o u => h.get? a = some o ∧ ObjOk H h a u
  | .tbl ps => h.get? a = some { cls := .none, data := .fields ps }
  | .met f x => h.get? a = some (PySem.W.methodObj (.ref f) (.ref x))
  | .ext φ => φ h ∧ (∃ o, h.get? a = some o) ∧ ∀ h1 h2 : Heap, φ h1 → (∀ o, h1.get? a = some o → h2.get? a = some o) → φ h2
/-- the abstract heap is held -/
noncomputable def HOk (H : Hp) (h : Heap) : Prop := ∀ a o, H a = some o → ObjOk P w H h a o
end

section
variable {P : Program} {w : World} {H H' : Hp} {h h' : Heap} {a : Addr} {o : HO}
theorem ObjOk.lt (x : ObjOk P w H h a o) : a < h.objs.size := by
  cases o with
  | lst xs => obtain ⟨_, _, _, _, e⟩ := x; exact Heap.lt_size e
  | tup xs => obtain ⟨_, _, _, p⟩ := x; exact p.lt
  | dK kvs => obtain ⟨_, _, _, _, o, _, _, e, _⟩ := x; exact Heap.lt_size e
  | dT kvs => obtain ⟨_, _, _, _, o, _, _, e, _⟩ := x; exact Heap.lt_size e
  | set S n => obtain ⟨o, _, _, _, e, _⟩ := x; exact Heap.lt_size e
  | ins C dx fs => obtain ⟨_, _, _, e, _⟩ := x; exact Heap.lt_size e
  | own y => obtain ⟨_, e⟩ := x; exact Heap.lt_size e
  | xd fs => obtain ⟨_, ⟨_, _, _, e, _⟩, _⟩ := x; exact Heap.lt_size e
  | rng lo hi => obtain ⟨_, _, _, e⟩ := x; exact Heap.lt_size e
  | frz ob u => obtain ⟨e, _⟩ := x; exact Heap.lt_size e
  | tbl ps => exact Heap.lt_size (show h.get? a = some _ from x)
  | met f y => exact Heap.lt_size (show h.get? a = some _ from x)
  | ext φ => obtain ⟨_, ⟨_, e⟩, _⟩ := x; exact Heap.lt_size e
theorem Paired.mapP {α β : Type} {F G : α → β → Prop} : ∀ {l₁ : List α} {l₂ : List β}, Paired F l₁ l₂ → (∀ a b, F a b → G a b) → Paired G l₁ l₂
  | _, _, .nil, _ => .nil
  | _, _, .cons r t, f => .cons (f _ _ r) (Paired.mapP t f)
/-- what an object's description leans on: its own object, its own dict, the tuples -/
theorem ObjOk.stay (x : ObjOk P w H h a o) (k : ∀ b u, (b = a ∨ H b = some (.own a)) → h.get? b = some u → h'.get? b = some u)
    (ho : ∀ b, H b = some (.own a) → H' b = some (.own a)) (ht : ∀ b xs, H b = some (.tup xs) → H' b = some (.tup xs)) : ObjOk P w H' h' a o := by
  induction o with
  | lst xs => obtain ⟨z, its, n, r, e⟩ := x; exact ⟨z, its, n, r, k _ _ (.inl rfl) e⟩
  | tup xs => obtain ⟨z, its, r, ob, e, c⟩ := x; exact ⟨z, its, r, ob, k _ _ (.inl rfl) e, c⟩
  | dK kvs => obtain ⟨z, y, vs, r, ob, es, ep, e, c⟩ := x; exact ⟨z, y, vs, r, ob, es, ep, k _ _ (.inl rfl) e, c⟩
  | dT kvs =>
    obtain ⟨z, y, xs, r, ob, es, ep, e, c⟩ := x
    exact ⟨z, y, xs, Paired.mapP r fun p q z => ⟨z.1, ht _ _ z.2.1, z.2.2⟩, ob, es, ep, k _ _ (.inl rfl) e, c⟩
  | set S n => obtain ⟨ob, es, ep, t, e, c⟩ := x; exact ⟨ob, es, ep, t, k _ _ (.inl rfl) e, c⟩
  | ins C dx fs =>
    obtain ⟨d, z, ne, e, mA, ⟨od, es, ep, e2, c⟩, r⟩ := x
    exact ⟨ho _ d, z, ne, k _ _ (.inl rfl) e, mA, ⟨od, es, ep, k _ _ (.inr d) e2, c⟩, r⟩
  | own y => obtain ⟨ob, e⟩ := x; exact ⟨ob, k _ _ (.inl rfl) e⟩
  | xd fs => obtain ⟨mA, ⟨od, es, ep, e, c⟩, r⟩ := x; exact ⟨mA, ⟨od, es, ep, k _ _ (.inl rfl) e, c⟩, r⟩
  | rng lo hi => obtain ⟨t, u, v, e⟩ := x; exact ⟨t, u, v, k _ _ (.inl rfl) e⟩
  | frz ob u ih => obtain ⟨e, q⟩ := x; exact ⟨k _ _ (.inl rfl) e, ih q⟩
  | tbl ps =>
    have e : h.get? a = some { cls := .none, data := .fields ps } := x
    show h'.get? a = some { cls := .none, data := .fields ps }
    exact k a _ (.inl rfl) e
  | met f y =>
    have e : h.get? a = some (PySem.W.methodObj (.ref f) (.ref y)) := x
    show h'.get? a = some (PySem.W.methodObj (.ref f) (.ref y))
    exact k a _ (.inl rfl) e
  | ext φ => obtain ⟨p, ⟨o, e⟩, st⟩ := x; exact ⟨st _ _ p fun o q => k _ _ (.inl rfl) q, ⟨o, k _ _ (.inl rfl) e⟩, st⟩
theorem HOk.lt (x : HOk P w H h) (e : H a = some o) : a < h.objs.size := (x a o e).lt
theorem HOk.fresh (x : HOk P w H h) (e : h.objs.size ≤ a) : H a = none := by
  cases q : H a with
  | none => rfl
  | some u => exact absurd (Nat.lt_of_lt_of_le (x.lt q) e) (Nat.lt_irrefl _)
/-- every object of the heap is kept -/
theorem HOk.kept (x : HOk P w H h) (k : ∀ b u, h.get? b = some u → h'.get? b = some u) : HOk P w H h' := fun a o e =>
  (x a o e).stay (fun b u _ q => k b u q) (fun _ q => q) fun _ _ q => q
/-- a new object is laid and tracked -/
theorem HOk.laid (x : HOk P w H h) (k : ∀ b u, h.get? b = some u → h'.get? b = some u) (hp : h.objs.size ≤ a) (new : ObjOk P w (upd H a o) h' a o) : HOk P w (upd H a o) h' := fun b u e => by
  have hn := x.fresh hp
  by_cases hb : b = a
  · subst hb; rw [upd_same] at e; cases e; exact new
  · rw [upd_ne hb] at e
    exact (x b u e).stay (fun c v _ q => k c v q) (fun c q => by rw [upd_ne (ne_of_none q hn)]; exact q) fun c xs q => by rw [upd_ne (ne_of_none q hn)]; exact q
end

/-- what may be read as u: it is u, or a known u -/
noncomputable def Rd (H : Hp) (a : Addr) (u : HO) : Prop := H a = some u ∨ ∃ o, H a = some (.frz o u)
theorem Rd.of {H : Hp} {a : Addr} {u : HO} (h : H a = some u) : Rd H a u := .inl h
theorem Rd.ok {P : Program} {w : World} {H : Hp} {h : Heap} {a : Addr} {u : HO} (r : Rd H a u) (x : HOk P w H h) : ObjOk P w H h a u := by
  rcases r with r | ⟨o, r⟩
  · exact x a u r
  · obtain ⟨_, q⟩ := x a _ r
    exact q
/-- what may be written -/
noncomputable def Mut : Option HO → Prop
  | some (.lst _) => True
  | some (.dK _) => True
  | some (.dT _) => True
  | some (.set _ _) => True
  | some (.ins _ _ _) => True
  | some (.ext _) => True
  | _ => False
section
variable {P : Program} {w : World} {H : Hp} {h h' : Heap} {x e : Addr} {o' : HO}
/-- the object at e is changed: x itself, or the dict of the instance x -/
theorem HOk.write (ok : HOk P w H h) (mu : Mut (H x)) (he : e = x ∨ H e = some (.own x)) (k : ∀ b u, b ≠ e → h.get? b = some u → h'.get? b = some u) (heo : ∃ u, h'.get? e = some u)
    (new : ObjOk P w (upd H x o') h' x o') : HOk P w (upd H x o') h' := fun b u q => by
  have nown : ∀ c y, H c = some (.own y) → c ≠ x := fun c y r z => by subst z; rw [r] at mu; exact mu
  have ntup : ∀ c xs, H c = some (.tup xs) → c ≠ x := fun c xs r z => by subst z; rw [r] at mu; exact mu
  by_cases hb : b = x
  · subst hb; rw [upd_same] at q; cases q; exact new
  · rw [upd_ne hb] at q
    by_cases hbe : b = e
    · have q' : H b = some (.own x) := by
        rcases he with z | z
        · exact absurd (hbe.trans z) hb
        · rw [hbe]; exact z
      rw [q] at q'; cases q'
      obtain ⟨v, hv⟩ := heo
      exact ⟨v, by rw [hbe]; exact hv⟩
    · refine (ok b u q).stay (fun c v hc r => k c v ?_ r) (fun c r => by rw [upd_ne (nown c b r)]; exact r) fun c xs r => by rw [upd_ne (ntup c xs r)]; exact r
      rcases hc with rfl | hc
      · exact hbe
      · rintro rfl
        rcases he with z | z
        · exact nown c b hc z
        · rw [hc] at z; cases z; exact hb rfl
end

structure Un (fs ex : List Addr) (H H' : Hp) (h h' : Heap) : Prop where
  keep : ∀ b o, h.get? b = some o → H b = none → b ∉ fs → b ∉ ex → h'.get? b = some o
  slot : ∀ b o, h.get? b = some o → H b = none → b ∈ fs → b ∉ ex → ∃ sl, h'.get? b = some { o with slots := sl }
  free : ∀ b o, h.get? b = some o → H b = none → b ∉ ex → H' b = none
  there : ∀ b o, h.get? b = some o → b ∉ ex → ∃ o', h'.get? b = some o'
  tups : ∀ b xs, H b = some (.tup xs) → H' b = some (.tup xs)
  frzs : ∀ b o u, H b = some (.frz o u) → H' b = some (.frz o u)
  tbls : ∀ b ps, H b = some (.tbl ps) → ∃ more, H' b = some (.tbl (ps ++ more))
section
variable {fs fs' ex ex' : List Addr} {H H1 H2 : Hp} {h h1 h2 h' : Heap} {a x e : Addr} {o : HO}
theorem Un.any (u : Un fs ex H H1 h h1) {b : Addr} {ob : Obj} (q : h.get? b = some ob) (n : H b = none) (hx : b ∉ ex) : ∃ sl, h1.get? b = some { ob with slots := sl } := by
  by_cases hb : b ∈ fs
  · exact u.slot b ob q n hb hx
  · exact ⟨ob.slots, u.keep b ob q n hb hx⟩
theorem Un.trans (a : Un fs ex H H1 h h1) (b : Un fs ex H1 H2 h1 h2) : Un fs ex H H2 h h2 where
  keep := fun c ob q n hc hx => b.keep c ob (a.keep c ob q n hc hx) (a.free c ob q n hx) hc hx
  slot := fun c ob q n hc hx => by
    obtain ⟨sl, e1⟩ := a.slot c ob q n hc hx
    obtain ⟨sl', e2⟩ := b.slot c _ e1 (a.free c ob q n hx) hc hx
    exact ⟨sl', e2⟩
  free := fun c ob q n hx => by
    obtain ⟨o', e1⟩ := a.there c ob q hx
    exact b.free c o' e1 (a.free c ob q n hx) hx
  there := fun c ob q hx => by
    obtain ⟨o', e1⟩ := a.there c ob q hx
    exact b.there c o' e1 hx
  tups := fun c xs q => b.tups c xs (a.tups c xs q)
  frzs := fun c ob xs q => b.frzs c ob xs (a.frzs c ob xs q)
  tbls := fun c ps q => by
    obtain ⟨m1, e1⟩ := a.tbls c ps q
    obtain ⟨m2, e2⟩ := b.tbls c _ e1
    exact ⟨m1 ++ m2, by rw [e2, Array.append_assoc]⟩
theorem Un.kept (k : ∀ b u, h.get? b = some u → h'.get? b = some u) : Un fs ex H H h h' :=
  ⟨fun b ob q _ _ _ => k b ob q, fun b ob q _ _ _ => ⟨ob.slots, k b ob q⟩, fun _ _ _ n _ => n, fun b ob q _ => ⟨ob, k b ob q⟩, fun _ _ q => q, fun _ _ _ q => q, fun _ ps q => ⟨#[], by rw [q]; simp⟩⟩
theorem Un.refl : Un fs ex H H h h := Un.kept fun _ _ q => q
theorem Un.laid (k : ∀ b u, h.get? b = some u → h'.get? b = some u) (hp : h.objs.size ≤ a) (hn : H a = none) : Un fs ex H (upd H a o) h h' where
  keep := fun b u q _ _ _ => k b u q
  slot := fun b u q _ _ _ => ⟨u.slots, k b u q⟩
  free := fun b u q n _ => by rw [upd_ne (Nat.ne_of_lt (Nat.lt_of_lt_of_le (Heap.lt_size q) hp))]; exact n
  there := fun b u q _ => ⟨u, k b u q⟩
  tups := fun b xs q => by rw [upd_ne (ne_of_none q hn)]; exact q
  frzs := fun b u xs q => by rw [upd_ne (ne_of_none q hn)]; exact q
  tbls := fun b ps q => ⟨#[], by rw [upd_ne (ne_of_none q hn), q]; simp⟩
theorem Un.write (mu : Mut (H x)) (he : e = x ∨ H e = some (.own x)) (k : ∀ b u, b ≠ e → h.get? b = some u → h'.get? b = some u) (heo : ∃ u, h'.get? e = some u) : Un fs ex H (upd H x o) h h' := by
  have hx : ∀ b, H b = none → b ≠ x := fun b n z => by subst z; rw [n] at mu; exact mu
  have hb : ∀ b, H b = none → b ≠ e := fun b n z => by
    subst z
    rcases he with r | r
    · exact hx b n r
    · rw [n] at r; cases r
  have hm : ∀ b u, H b = some u → ¬ Mut (some u) → b ≠ x := fun b u q nm z => by subst z; rw [q] at mu; exact nm mu
  refine ⟨fun b u q n _ _ => k b u (hb b n) q, fun b u q n _ _ => ⟨u.slots, k b u (hb b n) q⟩, fun b u q n _ => by rw [upd_ne (hx b n)]; exact n, fun b u q _ => ?_,
    fun b xs q => by rw [upd_ne (hm b _ q fun z => z)]; exact q, fun b u xs q => by rw [upd_ne (hm b _ q fun z => z)]; exact q, fun b ps q => ⟨#[], by rw [upd_ne (hm b _ q fun z => z), q]; simp⟩⟩
  by_cases hbe : b = e
  · subst hbe; exact heo
  · exact ⟨u, k b u hbe q⟩
theorem Un.mono (u : Un fs ex H H1 h h1) (hs : ∀ b ∈ fs, b ∈ fs') (hx : ∀ b ∈ ex, b ∈ ex') : Un fs' ex' H H1 h h1 :=
  ⟨fun b ob q n hb he => u.keep b ob q n (fun z => hb (hs b z)) fun z => he (hx b z), fun _ _ q n _ he => u.any q n fun z => he (hx _ z), fun b ob q n he => u.free b ob q n fun z => he (hx b z), fun b ob q he => u.there b ob q fun z => he (hx b z), u.tups, u.frzs, u.tbls⟩
end

noncomputable def trk (h : Heap) (H : Hp) : List Addr := (List.range h.objs.size).filter fun a => (H a).isSome
noncomputable def hidT (h : Heap) (H : Hp) : Heap := PySem.W.hideAll h (trk h H)
theorem hidT_size (h : Heap) (H : Hp) : (hidT h H).objs.size = h.objs.size := PySem.W.hideAll_size _ _
theorem hidT_get {h : Heap} {H : Hp} {b : Addr} {o : Obj} (e : h.get? b = some o) (n : H b = none) : (hidT h H).get? b = some o :=
  PySem.W.hideAll_get _ e fun hm => by
    have q : (H b).isSome = true := (List.mem_filter.mp hm).2
    rw [n] at q; simp at q
theorem of_hidT {h : Heap} {H : Hp} {b : Addr} {o : Obj} (e : (hidT h H).get? b = some o) : h.get? b = some o ∧ H b = none := by
  have e' : h.get? b = some o := PySem.W.of_hideAll (trk h H) e
  refine ⟨e', ?_⟩
  cases q : H b with
  | none => rfl
  | some x =>
    have hm : b ∈ trk h H := List.mem_filter.mpr ⟨List.mem_range.mpr (Heap.lt_size e'), by simp [q]⟩
    have z : (hidT h H).get? b = none := PySem.W.hideAll_none (trk h H) hm
    rw [z] at e; cases e

noncomputable def allNews (g h : Heap) (L : Addr) : List (Addr × Obj) := (List.range h.objs.size).filterMap fun a => if a = L ∨ (g.get? a).isSome = true then none else (h.get? a).map fun o => (a, o)
noncomputable def rest (g h : Heap) (L d : Addr) : List (Addr × Obj) := (allNews g h L).filter fun p => decide (p.1 ≠ d)
end L2

namespace L2
open PySem PySem.Spec PyProof.Rows

/-- the module's facts, over the base: the heap at the law's entry without what is tracked there -/
structure Mod (K : PySem.W.Frag) (mg : Str → Option Value) (base : Heap) : Prop where
  kin : K.In base
  glob : base.Ns mainGlobals mg
  blt : ∃ mb, base.Ns builtinsNs mb ∧ ∀ x : Str, x ≠ "__name__" → mb x = bootBuiltins x
  nolimit : base.NoLimit

/-- the context: a def's body (or a comprehension's block) running. base: fixed through the whole law; s₀, H₀: the entry; outer: the frames whose slots others may change (a def's callers); stack: all frames that run;
   ex: iterators that were made ahead of the entry and are walked here (a comprehension's); fn: the names whose cells were made at the entry (a def: all; a comprehension's block: its own); calm: not within an except suite; pn: pins that every state bears; xe: what is wanted of an exception that leaves the code -/
structure Cx where
  prog : Program
  w : World
  K : PySem.W.Frag
  mg : Str → Option Value
  base : Heap
  A : Around
  N : List Str
  s₀ : Shared
  H₀ : Hp
  env : Env
  outer : List Env
  stack : List Env
  ex : List Addr
  fn : Str → Bool
  calm : Bool
  pn : List (Addr × Obj)
  xe : Value → Shared → Prop
/-- the callers' frames -/
noncomputable def frs (l : List Env) : List Addr := l.filterMap (·.frame)
noncomputable abbrev Cx.fs (X : Cx) : List Addr := frs X.outer

noncomputable def Vis (sc : Scope) (x : Str) : Prop := sc.names.lookup x = some .local ∨ sc.names.lookup x = some .cell ∨ sc.names.lookup x = some .free
noncomputable def Loc (sc : Scope) (x : Str) : Prop := sc.names.lookup x = some .local ∨ sc.names.lookup x = some .cell
noncomputable def Look (env : Env) (h : Heap) (m : Str → Option Value) (x : Str) (u : Value) : Prop :=
  (env.kindOf x = some .local ∧ m x = some u) ∨ ((env.kindOf x = some .cell ∨ env.kindOf x = some .free) ∧ ∃ c, env.cells.lookup x = some c ∧ h.IsCell c (some u))

structure Cx.Ok (X : Cx) : Prop where
  mod : Mod X.K X.mg X.base
  kind : X.env.scope.kind = .function
  glob : X.env.globals = mainGlobals
  blt : X.env.builtins = builtinsNs
  above : X.s₀.heap.objs.size ≤ X.env.locals
  inj : ∀ x y c, X.env.cells.lookup x = some c → X.env.cells.lookup y = some c → x = y
  has : ∀ x, (X.env.kindOf x = some .cell ∨ X.env.kindOf x = some .free) → ∃ c, X.env.cells.lookup x = some c
  cab : ∀ x c, X.fn x = true → X.env.cells.lookup x = some c → X.s₀.heap.objs.size ≤ c
  hd : X.calm = true → X.A.handled = none
  frames : X.A.frames = some X.stack
  stk : X.stack = X.outer ∨ (X.stack = X.env :: X.outer ∧ X.env.frame = some X.env.locals)
  exf : ∀ b ∈ X.ex, b ≠ X.env.locals ∧ ∀ x c, X.env.cells.lookup x = some c → c ≠ b
  bs : ∀ b o, X.base.get? b = some o → X.s₀.heap.get? b = some o ∧ X.H₀ b = none
  bsz : X.base.objs.size ≤ X.s₀.heap.objs.size
  noex : ∀ b o, X.base.get? b = some o → b ∉ X.ex
  exfs : ∀ b ∈ X.ex, b ∉ X.fs
  funs : X.s₀.heap.FunFrames X.base X.outer
  frf : ∀ b ∈ X.fs, X.H₀ b = none

structure Inv (X : Cx) (pins : List (Addr × Obj)) (σ : List (Option V)) (H : Hp) (s : Shared) : Prop where
  ok : X.Ok
  os : s.os = X.s₀.os
  bare : AllBare s.gens
  base : Un X.fs X.ex X.H₀ H X.s₀.heap s.heap
  loc : ∃ m, s.heap.Ns X.env.locals m ∧ ∀ (i : Nat) (x : Str) (v : V), X.N[i]? = some x → σ[i]? = some (some v) → Vis X.env.scope x → ∃ u, RelV v u ∧ Look X.env s.heap m x u
  cell : ∀ x c, X.env.cells.lookup x = some c → ∃ v, s.heap.IsCell c v
  free : H X.env.locals = none
  freeC : ∀ x c, X.env.cells.lookup x = some c → H c = none
  pin : ∀ p ∈ X.pn ++ pins, s.heap.get? p.1 = some p.2 ∧ H p.1 = none ∧ p.1 ≠ X.env.locals ∧ p.1 ∉ X.fs ∧ ∀ v, p.2.data ≠ .cell v
  hok : HOk X.prog X.w H s.heap
  len : σ.length = X.N.length

section
variable {X : Cx} {pins : List (Addr × Obj)} {σ : List (Option V)} {H H' : Hp} {s : Shared} {h' : Heap}

theorem Cx.Ok.nofr (ok : X.Ok) {b : Addr} {o : Obj} (e : X.base.get? b = some o) : b ∉ X.fs := fun hb => by
  have := (ok.funs.mem hb).1
  rw [e] at this; cases this
theorem Inv.bs (I : Inv X pins σ H s) : ∀ b o, X.base.get? b = some o → s.heap.get? b = some o ∧ H b = none := fun b o e =>
  ⟨I.base.keep b o (I.ok.bs b o e).1 (I.ok.bs b o e).2 (I.ok.nofr e) (I.ok.noex b o e), I.base.free b o (I.ok.bs b o e).1 (I.ok.bs b o e).2 (I.ok.noex b o e)⟩
theorem Inv.bk (I : Inv X pins σ H s) : ∀ b o, X.base.get? b = some o → s.heap.get? b = some o := fun b o e => (I.bs b o e).1
theorem Inv.mod (I : Inv X pins σ H s) : Mod X.K X.mg X.base := I.ok.mod
theorem Inv.kIn (I : Inv X pins σ H s) : X.K.In s.heap := I.ok.mod.kin.keeps I.bk
theorem Inv.nolimit (I : Inv X pins σ H s) : s.heap.NoLimit := I.ok.mod.nolimit.keeps I.bk
/-- the frame over the base: for OpenK's rules (K.In X.base is I.mod.kin) -/
theorem Inv.fr (I : Inv X pins σ H s) : ∃ m, Fr X.base X.env.locals s.heap m :=
  let ⟨m, hn, _⟩ := I.loc
  ⟨m, hn, I.bk, Nat.le_trans I.ok.bsz I.ok.above⟩
theorem Inv.lt (I : Inv X pins σ H s) : X.env.locals < s.heap.objs.size := let ⟨_, hn, _⟩ := I.loc; hn.lt
theorem Inv.sz (I : Inv X pins σ H s) : X.s₀.heap.objs.size ≤ s.heap.objs.size := Nat.le_trans I.ok.above (Nat.le_of_lt I.lt)
theorem Inv.nofs (I : Inv X pins σ H s) {a : Addr} (h : s.heap.objs.size ≤ a) : a ∉ X.fs := fun hb => by
  obtain ⟨_, o, ho, _⟩ := I.ok.funs.mem hb
  exact absurd (Nat.lt_of_lt_of_le (Heap.lt_size ho) (Nat.le_trans I.sz h)) (Nat.lt_irrefl _)
theorem Inv.cne (I : Inv X pins σ H s) : ∀ x c, X.env.cells.lookup x = some c → c ≠ X.env.locals := fun x c e z => by
  obtain ⟨v, o, ho, hd⟩ := I.cell x c e
  obtain ⟨m, ⟨o', es, ep, ho', hd', _⟩, _⟩ := I.loc
  rw [z, ho'] at ho; cases ho; rw [hd'] at hd; cases hd
theorem Inv.funs (I : Inv X pins σ H s) : s.heap.FunFrames X.base X.outer := by
  have all : ∀ (l : List Env), (∀ b ∈ frs l, b ∈ X.fs) → X.s₀.heap.FunFrames X.base l → s.heap.FunFrames X.base l := by
    intro l
    induction l with
    | nil => intro _ _; trivial
    | cons env r ih =>
      intro hs hl
      obtain ⟨hk, ⟨L, o, hf, hn, ho, hd⟩, hr⟩ := hl
      have hL : L ∈ X.fs := hs L (by unfold frs; rw [List.filterMap_cons, hf]; exact List.mem_cons_self)
      obtain ⟨sl, e⟩ := I.base.slot L o ho (I.ok.frf L hL) hL fun z => I.ok.exfs L z hL
      exact ⟨hk, ⟨L, _, hf, hn, e, hd⟩, ih (fun b hb => hs b (by unfold frs; rw [List.filterMap_cons, hf]; exact List.mem_cons_of_mem _ hb)) hr⟩
  exact all X.outer (fun _ hb => hb) I.ok.funs

/-- the frames that run, for a call -/
theorem Inv.stack (I : Inv X pins σ H s) : s.heap.FunFrames X.base X.stack := by
  rcases I.ok.stk with e | ⟨e, hf⟩
  · rw [e]; exact I.funs
  · rw [e]
    obtain ⟨m, hn, _⟩ := I.loc
    refine .cons (by rw [I.ok.kind]; decide) hf hn ?_ I.funs
    exact Heap.get?_none_of_le (Nat.le_trans I.ok.bsz I.ok.above)
theorem Inv.stkSub (I : Inv X pins σ H s) : ∀ b ∈ frs X.stack, b ∈ X.env.locals :: X.fs := fun b hb => by
  rcases I.ok.stk with e | ⟨e, hf⟩
  · rw [e] at hb; exact List.mem_cons_of_mem _ hb
  · rw [e] at hb
    unfold frs at hb
    rw [List.filterMap_cons, hf] at hb
    exact hb
theorem Inv.stkFree (I : Inv X pins σ H s) : ∀ b ∈ frs X.stack, H b = none := fun b hb => by
  rcases List.mem_cons.mp (I.stkSub b hb) with e | hb
  · rw [e]; exact I.free
  · obtain ⟨_, o, ho, _⟩ := I.ok.funs.mem hb
    exact I.base.free b o ho (I.ok.frf b hb) fun z => I.ok.exfs b z hb

/-- THE STEP: the untracked objects but the frame and the records at ch are kept (the callers' frames up to slots), the frame's map is kept, the new abstract heap is held -/
theorem Inv.step {g' : Array GenState} {t' : Nat} {d' : Drawn} {ch : List Addr} (I : Inv X pins σ H s)
    (hch : ∀ b ∈ ch, (b ∈ X.ex ∨ X.s₀.heap.objs.size ≤ b) ∧ b ≠ X.env.locals ∧ (∀ x c, X.env.cells.lookup x = some c → c ≠ b) ∧ ∀ p ∈ X.pn ++ pins, p.1 ≠ b)
    (keep : ∀ b o, b ≠ X.env.locals → b ∉ X.fs → b ∉ ch → s.heap.get? b = some o → H b = none → h'.get? b = some o)
    (slot : ∀ b o, b ≠ X.env.locals → b ∈ X.fs → b ∉ ch → s.heap.get? b = some o → H b = none → ∃ sl, h'.get? b = some { o with slots := sl }) (free : ∀ b o, b ∉ ch → s.heap.get? b = some o → H b = none → H' b = none)
    (there : ∀ b o, b ∉ ch → s.heap.get? b = some o → ∃ o', h'.get? b = some o')
    (tups : ∀ b xs, H b = some (.tup xs) → H' b = some (.tup xs)) (frzs : ∀ b o u, H b = some (.frz o u) → H' b = some (.frz o u)) (tbls : ∀ b ps, H b = some (.tbl ps) → ∃ more, H' b = some (.tbl (ps ++ more)))
    (ns : ∀ m, s.heap.Ns X.env.locals m → h'.Ns X.env.locals m) (hok : HOk X.prog X.w H' h') (hg : AllBare g') :
    Inv X pins σ H' { s with heap := h', gens := g', drawn := d', toks := t' } := by
  have neL : ∀ b o, X.s₀.heap.get? b = some o → b ≠ X.env.locals := fun b o e => Nat.ne_of_lt (Nat.lt_of_lt_of_le (Heap.lt_size e) I.ok.above)
  have neC : ∀ b o, X.s₀.heap.get? b = some o → b ∉ X.ex → b ∉ ch := fun b o e hx hb => by
    rcases (hch b hb).1 with z | z
    · exact hx z
    · exact absurd (Nat.lt_of_lt_of_le (Heap.lt_size e) z) (Nat.lt_irrefl _)
  have cellK : ∀ x c, X.env.cells.lookup x = some c → ∀ v, s.heap.IsCell c v → h'.IsCell c v := fun x c e v ⟨o, ho, hd⟩ => by
    have nch : c ∉ ch := fun z => (hch c z).2.2.1 x c e rfl
    by_cases hc : c ∈ X.fs
    · obtain ⟨sl, q⟩ := slot c o (I.cne x c e) hc nch ho (I.freeC x c e)
      exact ⟨_, q, hd⟩
    · exact ⟨o, keep c o (I.cne x c e) hc nch ho (I.freeC x c e), hd⟩
  refine ⟨I.ok, I.os, hg, ⟨fun b o e n hb hx => ?_, fun b o e n hb hx => ?_, fun b o e n hx => ?_, fun b o e hx => ?_, fun b xs e => tups b xs (I.base.tups b xs e), fun b o xs e => frzs b o xs (I.base.frzs b o xs e), fun b ps e => ?_⟩, ?_, fun x c e => ?_, ?_, fun x c e => ?_, fun p hp => ?_, hok, I.len⟩
  · exact keep b o (neL b o e) hb (neC b o e hx) (I.base.keep b o e n hb hx) (I.base.free b o e n hx)
  · obtain ⟨sl, e1⟩ := I.base.slot b o e n hb hx
    obtain ⟨sl', e2⟩ := slot b _ (neL b o e) hb (neC b o e hx) e1 (I.base.free b o e n hx)
    exact ⟨sl', e2⟩
  · obtain ⟨o', e1⟩ := I.base.there b o e hx
    exact free b o' (neC b o e hx) e1 (I.base.free b o e n hx)
  · obtain ⟨o', e1⟩ := I.base.there b o e hx
    exact there b o' (neC b o e hx) e1
  · obtain ⟨m1, e1⟩ := I.base.tbls b ps e
    obtain ⟨m2, e2⟩ := tbls b _ e1
    exact ⟨m1 ++ m2, by rw [e2, Array.append_assoc]⟩
  · obtain ⟨m, hn, hl⟩ := I.loc
    refine ⟨m, ns m hn, fun i x v e1 e2 e3 => ?_⟩
    obtain ⟨u, r, l⟩ := hl i x v e1 e2 e3
    refine ⟨u, r, ?_⟩
    rcases l with l | ⟨k, c, e, z⟩
    · exact .inl l
    · exact .inr ⟨k, c, e, cellK x c e _ z⟩
  · obtain ⟨v, z⟩ := I.cell x c e
    exact ⟨v, cellK x c e v z⟩
  · obtain ⟨m, ⟨o, _, _, ho, _⟩, _⟩ := I.loc
    exact free _ o (fun z => (hch _ z).2.1 rfl) ho I.free
  · obtain ⟨v, o, ho, hd⟩ := I.cell x c e
    exact free c o (fun z => (hch c z).2.2.1 x c e rfl) ho (I.freeC x c e)
  · obtain ⟨e, n, ne, nf, d⟩ := I.pin p hp
    have nch : p.1 ∉ ch := fun z => (hch p.1 z).2.2.2 p hp rfl
    exact ⟨keep p.1 p.2 ne nf nch e n, free p.1 p.2 nch e n, ne, nf, d⟩
/-- .. where the frame's own object is kept too -/
theorem Inv.un {t' : Nat} (I : Inv X pins σ H s) (u : Un X.fs [] H H' s.heap h') (hok : HOk X.prog X.w H' h') : Inv X pins σ H' { s with heap := h', toks := t' } := by
  obtain ⟨m, ⟨o, es, ep, ho, r⟩, _⟩ := id I.loc
  obtain ⟨sl, hL⟩ := u.any ho I.free (by simp)
  exact I.step (g' := s.gens) (d' := s.drawn) (ch := []) (fun _ z => nomatch z) (fun b o _ hb _ e n => u.keep b o e n hb (by simp)) (fun b o _ hb _ e n => u.slot b o e n hb (by simp)) (fun b o _ e n => u.free b o e n (by simp)) (fun b o _ e => u.there b o e (by simp)) u.tups u.frzs u.tbls (fun m' hm => by
    obtain ⟨o', es', ep', ho', r'⟩ := hm
    rw [ho] at ho'; cases ho'
    exact ⟨_, es', ep', hL, r'⟩) hok I.bare
/-- behind a call (or a comprehension's block): the slots of this frame may have changed too, the records at ch may have turned -/
theorem Inv.call {g' : Array GenState} {t' : Nat} {d' : Drawn} {ch : List Addr} (I : Inv X pins σ H s) (u : Un (frs X.stack) ch H H' s.heap h') (hok : HOk X.prog X.w H' h') (hg : AllBare g')
    (hch : ∀ b ∈ ch, (b ∈ X.ex ∨ X.s₀.heap.objs.size ≤ b) ∧ b ≠ X.env.locals ∧ (∀ x c, X.env.cells.lookup x = some c → c ≠ b) ∧ ∀ p ∈ X.pn ++ pins, p.1 ≠ b) :
    Inv X pins σ H' { s with heap := h', gens := g', drawn := d', toks := t' } := by
  obtain ⟨m, ⟨o, es, ep, ho, r⟩, _⟩ := id I.loc
  obtain ⟨sl, hL⟩ := u.any ho I.free fun z => (hch _ z).2.1 rfl
  exact I.step (ch := ch) hch (fun b o hL hb hc e n => u.keep b o e n (fun z => (List.mem_cons.mp (I.stkSub b z)).elim hL hb) hc) (fun b o _ _ hc e n => u.any e n hc) (fun b o hc e n => u.free b o e n hc) (fun b o hc e => u.there b o e hc) u.tups u.frzs u.tbls (fun m' hm => by
    obtain ⟨o', es', ep', ho', r'⟩ := hm
    rw [ho] at ho'; cases ho'
    exact ⟨_, es', ep', hL, r'⟩) hok hg
/-- an untracked record of ours (an iterator) has turned -/
theorem Inv.turned {t' : Nat} {it : Addr} (I : Inv X pins σ H s) (k : ∀ b o, b ≠ it → s.heap.get? b = some o → h'.get? b = some o) (hn : H it = none) (hL : it ≠ X.env.locals)
    (h1 : it ∈ X.ex ∨ X.s₀.heap.objs.size ≤ it) (h2 : ∀ x c, X.env.cells.lookup x = some c → c ≠ it) (h3 : ∀ p ∈ X.pn ++ pins, p.1 ≠ it) : Inv X pins σ H { s with heap := h', toks := t' } := by
  have nit : ∀ b u, H b = some u → b ≠ it := fun b u e z => by rw [z, hn] at e; cases e
  refine I.step (g' := s.gens) (d' := s.drawn) (ch := [it]) (fun b hb => ?_) (fun b o _ _ hc e _ => k b o (fun z => hc (by simp [z])) e) (fun b o _ _ hc e _ => ⟨o.slots, k b o (fun z => hc (by simp [z])) e⟩) (fun _ _ _ _ n => n)
    (fun b o hc e => ⟨o, k b o (fun z => hc (by simp [z])) e⟩) (fun _ _ e => e) (fun _ _ _ e => e) (fun b ps e => ⟨#[], by rw [e]; simp⟩) (fun m hm => ?_) (fun b u e => ?_) I.bare
  · have e : b = it := by simpa using hb
    subst e
    exact ⟨h1, hL, h2, h3⟩
  · obtain ⟨o, es, ep, ho, r⟩ := hm
    exact ⟨o, es, ep, k _ o (Ne.symm hL) ho, r⟩
  · refine (I.hok b u e).stay (fun c v hc q => k c v ?_ q) (fun _ q => q) fun _ _ q => q
    rcases hc with z | z
    · rw [z]; exact nit b u e
    · exact nit c _ z
theorem Inv.tok (I : Inv X pins σ H s) (t : Nat) : Inv X pins σ H { s with toks := t } := I.un (h' := s.heap) (t' := t) Un.refl I.hok
/-- all objects kept -/
theorem Inv.kept {t' : Nat} (I : Inv X pins σ H s) (k : ∀ b u, s.heap.get? b = some u → h'.get? b = some u) : Inv X pins σ H { s with heap := h', toks := t' } := I.un (Un.kept k) (I.hok.kept k)
/-- a new object laid and tracked -/
theorem Inv.laid {a : Addr} {o : HO} {t' : Nat} (I : Inv X pins σ H s) (k : ∀ b u, s.heap.get? b = some u → h'.get? b = some u) (hp : s.heap.objs.size ≤ a) (new : ObjOk X.prog X.w (upd H a o) h' a o) :
    Inv X pins σ (upd H a o) { s with heap := h', toks := t' } := I.un (Un.laid k hp (I.hok.fresh hp)) (I.hok.laid k hp new)
/-- an object written -/
theorem Inv.write {x e : Addr} {o : HO} {t' : Nat} (I : Inv X pins σ H s) (mu : Mut (H x)) (he : e = x ∨ H e = some (.own x)) (k : ∀ b u, b ≠ e → s.heap.get? b = some u → h'.get? b = some u) (heo : ∃ u, h'.get? e = some u)
    (new : ObjOk X.prog X.w (upd H x o) h' x o) : Inv X pins σ (upd H x o) { s with heap := h', toks := t' } := I.un (Un.write mu he k heo) (I.hok.write mu he k heo new)
/-- forgetting slots, pins -/
theorem Inv.weak {σ' : List (Option V)} (I : Inv X pins σ H s) (hl : σ'.length = σ.length) (w : ∀ (i : Nat) v, σ'[i]? = some (some v) → σ[i]? = some (some v)) : Inv X pins σ' H s :=
  ⟨I.ok, I.os, I.bare, I.base, let ⟨m, hn, hl'⟩ := I.loc; ⟨m, hn, fun i x v e1 e2 e3 => hl' i x v e1 (w i v e2) e3⟩, I.cell, I.free, I.freeC, I.pin, I.hok, hl.trans I.len⟩
theorem Inv.pins_of {pins' : List (Addr × Obj)} (I : Inv X pins σ H s) (h : ∀ p ∈ pins', s.heap.get? p.1 = some p.2 ∧ H p.1 = none ∧ p.1 ≠ X.env.locals ∧ p.1 ∉ X.fs ∧ ∀ v, p.2.data ≠ .cell v) : Inv X pins' σ H s :=
  ⟨I.ok, I.os, I.bare, I.base, I.loc, I.cell, I.free, I.freeC, fun p hp => (List.mem_append.mp hp).elim (fun z => I.pin p (List.mem_append_left _ z)) (h p), I.hok, I.len⟩

theorem nodup_ix {N : List Str} (hN : N.Nodup) {i j : Nat} {x : Str} (a : N[i]? = some x) (b : N[j]? = some x) : i = j := by
  obtain ⟨h1, e1⟩ := List.getElem?_eq_some_iff.mp a
  obtain ⟨h2, e2⟩ := List.getElem?_eq_some_iff.mp b
  exact (List.getElem_inj hN).mp (e1.trans e2.symm)

/-- a name is stored; what changed -/
theorem store_ok2 {M : Model} {A : Around} {E : Value → Shared → Prop} {i : Nat} {x : Str} {v : V} {u : Value} {Q : Unit → Shared → Prop} (I : Inv X pins σ H s) (hN : X.N.Nodup) (hi : X.N[i]? = some x) (hx : Loc X.env.scope x) (r : RelV v u)
    (h : ∀ s', Inv X pins (σ.set i (some v)) H s' → (∃ a, Heap.SameBut a s.heap s'.heap ∧ (a = X.env.locals ∨ X.env.cells.lookup x = some a)) → Q () s') (hf : X.fn x = true ∨ X.env.scope.names.lookup x = some .local := by first | exact .inl rfl | exact .inr rfl | assumption) : wpAny M A (storeName X.env x u) Q E s := by
  obtain ⟨m, hn, hl⟩ := id I.loc
  have hcls : (X.env.scope.kind == .class || (X.env.scope.kind == .module && X.env.locals != X.env.globals)) = false := by rw [I.ok.kind]; rfl
  have hiσ : i < σ.length := by rw [I.len]; exact (List.getElem?_eq_some_iff.mp hi).1
  have cne := I.cne
  have tracked : ∀ {a : Addr} {h' : Heap}, (∃ o, s.heap.get? a = some o ∧ H a = none) → Heap.SameBut a s.heap h' → HOk X.prog X.w H h' := fun {a h'} ha hs b ob e => by
    obtain ⟨_, _, hfree⟩ := ha
    refine (I.hok b ob e).stay (fun c w' hc q => (hs.2 c ?_).trans q) (fun _ q => q) fun _ _ q => q
    rintro rfl
    rcases hc with rfl | hc
    · rw [hfree] at e; cases e
    · rw [hfree] at hc; cases hc
  rcases hx with hk | hk
  · refine wpAny_storeName_local hk hn (fun h' hn' hs => ?_) hcls
    obtain ⟨oL, _, _, hoL, _⟩ := id hn
    refine h _ ⟨I.ok, I.os, I.bare, ⟨fun b o e n hb hx => ?_, fun b o e n hb hx => ?_, I.base.free, fun b o e hx => ?_, I.base.tups, I.base.frzs, I.base.tbls⟩, ⟨_, hn', fun j y v' e1 e2 e3 => ?_⟩, fun y c e => ?_, I.free, I.freeC, fun p hp => ?_, tracked ⟨oL, hoL, I.free⟩ hs, by simpa using I.len⟩ ⟨_, hs, .inl rfl⟩
    · exact (hs.2 b (Nat.ne_of_lt (Nat.lt_of_lt_of_le (Heap.lt_size e) I.ok.above))).trans (I.base.keep b o e n hb hx)
    · obtain ⟨sl, e1⟩ := I.base.slot b o e n hb hx
      exact ⟨sl, (hs.2 b (Nat.ne_of_lt (Nat.lt_of_lt_of_le (Heap.lt_size e) I.ok.above))).trans e1⟩
    · obtain ⟨o', e1⟩ := I.base.there b o e hx
      exact ⟨o', (hs.2 b (Nat.ne_of_lt (Nat.lt_of_lt_of_le (Heap.lt_size e) I.ok.above))).trans e1⟩
    · by_cases hj : j = i
      · subst hj
        rw [hi] at e1; cases e1
        rw [List.getElem?_set_self hiσ] at e2
        cases e2
        exact ⟨u, r, .inl ⟨hk, by simp⟩⟩
      · rw [List.getElem?_set_ne (Ne.symm hj)] at e2
        obtain ⟨u', r', q⟩ := hl j y v' e1 e2 e3
        refine ⟨u', r', ?_⟩
        rcases q with ⟨k, e⟩ | ⟨k, c, e, z⟩
        · refine .inl ⟨k, ?_⟩
          have : y ≠ x := fun e => hj (nodup_ix hN e1 (e ▸ hi))
          simp [this, e]
        · exact .inr ⟨k, c, e, z.sameBut hs (cne y c e)⟩
    · obtain ⟨w', z⟩ := I.cell y c e
      exact ⟨w', z.sameBut hs (cne y c e)⟩
    · obtain ⟨e, n, ne, nf, d⟩ := I.pin p hp
      exact ⟨(hs.2 p.1 ne).trans e, n, ne, nf, d⟩
  · have hfn : X.fn x = true := by
      rcases hf with z | z
      · exact z
      · rw [z] at hk; cases hk
    obtain ⟨c, hc⟩ := I.ok.has x (.inl hk)
    obtain ⟨w', z⟩ := I.cell x c hc
    refine wpAny_storeName_cell I.ok.kind hk hc z (fun h' hc' hs => ?_)
    obtain ⟨oc, hoc, hocd⟩ := id z
    refine h { s with heap := h' } ⟨I.ok, I.os, I.bare, ⟨fun b o e n hb hx => ?_, fun b o e n hb hx => ?_, I.base.free, fun b o e hx => ?_, I.base.tups, I.base.frzs, I.base.tbls⟩, ⟨m, hn.sameBut hs (Ne.symm (cne x c hc)), fun j y v' e1 e2 e3 => ?_⟩, fun y c' e => ?_, I.free, I.freeC, fun p hp => ?_, tracked ⟨oc, hoc, I.freeC x c hc⟩ hs, by simpa using I.len⟩ ⟨c, hs, .inr hc⟩
    · exact (hs.2 b (Nat.ne_of_lt (Nat.lt_of_lt_of_le (Heap.lt_size e) (I.ok.cab x c hfn hc)))).trans (I.base.keep b o e n hb hx)
    · obtain ⟨sl, e1⟩ := I.base.slot b o e n hb hx
      exact ⟨sl, (hs.2 b (Nat.ne_of_lt (Nat.lt_of_lt_of_le (Heap.lt_size e) (I.ok.cab x c hfn hc)))).trans e1⟩
    · obtain ⟨o', e1⟩ := I.base.there b o e hx
      exact ⟨o', (hs.2 b (Nat.ne_of_lt (Nat.lt_of_lt_of_le (Heap.lt_size e) (I.ok.cab x c hfn hc)))).trans e1⟩
    · by_cases hj : j = i
      · subst hj
        rw [hi] at e1; cases e1
        rw [List.getElem?_set_self hiσ] at e2
        cases e2
        exact ⟨u, r, .inr ⟨.inl hk, c, hc, hc'⟩⟩
      · rw [List.getElem?_set_ne (Ne.symm hj)] at e2
        obtain ⟨u', r', q⟩ := hl j y v' e1 e2 e3
        refine ⟨u', r', ?_⟩
        rcases q with q | ⟨k, c', e, z'⟩
        · exact .inl q
        · refine .inr ⟨k, c', e, z'.sameBut hs ?_⟩
          rintro rfl
          exact hj (nodup_ix hN e1 (I.ok.inj _ _ _ e hc ▸ hi))
    · by_cases hcc : c' = c
      · subst hcc; exact ⟨_, hc'⟩
      · obtain ⟨w2, z2⟩ := I.cell y c' e
        exact ⟨w2, z2.sameBut hs hcc⟩
    · obtain ⟨e, n, ne, nf, d⟩ := I.pin p hp
      refine ⟨(hs.2 p.1 ?_).trans e, n, ne, nf, d⟩
      intro q
      rw [q, hoc] at e
      have q' : oc = p.2 := Option.some.inj e
      exact d w' (by rw [← q']; exact hocd)
theorem store_ok {M : Model} {A : Around} {E : Value → Shared → Prop} {i : Nat} {x : Str} {v : V} {u : Value} {Q : Unit → Shared → Prop} (I : Inv X pins σ H s) (hN : X.N.Nodup) (hi : X.N[i]? = some x) (hx : Loc X.env.scope x) (r : RelV v u)
    (h : ∀ s', Inv X pins (σ.set i (some v)) H s' → Q () s') (hf : X.fn x = true ∨ X.env.scope.names.lookup x = some .local := by first | exact .inl rfl | exact .inr rfl | assumption) : wpAny M A (storeName X.env x u) Q E s :=
  store_ok2 I hN hi hx r (fun s' I' _ => h s' I') hf
/-- behind a call or a block, the state as it is -/
theorem Inv.call' {s' : Shared} {ch : List Addr} (I : Inv X pins σ H s) (ho : s'.os = s.os) (u : Un (frs X.stack) ch H H' s.heap s'.heap) (hok : HOk X.prog X.w H' s'.heap) (hg : AllBare s'.gens)
    (hch : ∀ b ∈ ch, (b ∈ X.ex ∨ X.s₀.heap.objs.size ≤ b) ∧ b ≠ X.env.locals ∧ (∀ x c, X.env.cells.lookup x = some c → c ≠ b) ∧ ∀ p ∈ X.pn ++ pins, p.1 ≠ b) : Inv X pins σ H' s' := by
  obtain ⟨h', g', d', t', o'⟩ := s'
  have e : o' = s.os := ho
  subst e
  exact I.call (g' := g') (t' := t') (d' := d') u hok hg hch
end

/-- an exception: its class, its own dict's address (where it has one), the abstract heap behind it -/
noncomputable abbrev XK := Value → Option Addr → Hp → Prop
noncomputable abbrev St := List (Option V)
noncomputable abbrev VK := V → Hp → Prop
/-- an expression's reading; a test's; an argument list's -/
noncomputable abbrev TE := St → Hp → VK → Prop
noncomputable abbrev TT := St → Hp → (Bool → Hp → Prop) → Prop
noncomputable abbrev TA := St → Hp → (List V → Hp → Prop) → Prop
/-- what is wanted behind a statement -/
structure Ends where
  nx : St → Hp → Prop
  rt : VK
  bk : St → Hp → Prop := fun _ _ => False
  ct : St → Hp → Prop := fun _ _ => False
noncomputable abbrev TS := Ends → St → Hp → Prop

noncomputable def EP (X : Cx) (pins : List (Addr × Obj)) (σ : St) (Q : VK) (u : Value) (s' : Shared) : Prop := ∃ v H', Inv X pins σ H' s' ∧ RelV v u ∧ Q v H'
noncomputable def TP (X : Cx) (pins : List (Addr × Obj)) (σ : St) (Q : Bool → Hp → Prop) (b : Bool) (s' : Shared) : Prop := ∃ H', Inv X pins σ H' s' ∧ Q b H'
noncomputable def AP (X : Cx) (pins : List (Addr × Obj)) (σ : St) (Q : List V → Hp → Prop) (us : List Value) (s' : Shared) : Prop := ∃ vs H', Inv X pins σ H' s' ∧ Vals vs us ∧ Q vs H'
noncomputable def SP (X : Cx) (pins : List (Addr × Obj)) (D : Ends) (f : Flow) (s' : Shared) : Prop :=
  match f with
  | .next => ∃ σ' H', Inv X pins σ' H' s' ∧ D.nx σ' H'
  | .brk => ∃ σ' H', Inv X pins σ' H' s' ∧ D.bk σ' H'
  | .cont => ∃ σ' H', Inv X pins σ' H' s' ∧ D.ct σ' H'
  | .ret u => ∃ v σ' H', Inv X pins σ' H' s' ∧ RelV v u ∧ D.rt v H'

noncomputable def PE (X : Cx) (e : Expr) (t : TE) : Prop :=
  ∀ (pins : List (Addr × Obj)) (s : Shared) (σ : St) (H : Hp) (Q : VK), Inv X pins σ H s → t σ H Q → wpAny (model X.prog X.w) X.A (eval e X.env) (EP X pins σ Q) X.xe s
noncomputable def PT (X : Cx) (e : Expr) (t : TT) : Prop :=
  ∀ (pins : List (Addr × Obj)) (s : Shared) (σ : St) (H : Hp) (Q : Bool → Hp → Prop), Inv X pins σ H s → t σ H Q → wpAny (model X.prog X.w) X.A (isTrue e X.env (eval e X.env)) (TP X pins σ Q) X.xe s
/-- a test whatever its 'whole' is (and, or) -/
noncomputable def PW (X : Cx) (e : Expr) (t : TT) : Prop :=
  ∀ (whole : Sem Value) (pins : List (Addr × Obj)) (s : Shared) (σ : St) (H : Hp) (Q : Bool → Hp → Prop), Inv X pins σ H s → t σ H Q → wpAny (model X.prog X.w) X.A (isTrue e X.env whole) (TP X pins σ Q) X.xe s
theorem PW.pt {X : Cx} {e : Expr} {t : TT} (h : PW X e t) : PT X e t := h _
/-- an argument list (no star), from the left -/
noncomputable def PA (X : Cx) (es : List Expr) (t : TA) : Prop :=
  ∀ (pos : Pos) (pins : List (Addr × Obj)) (s : Shared) (σ : St) (H : Hp) (Q : List V → Hp → Prop), Inv X pins σ H s → t σ H Q → wpAny (model X.prog X.w) X.A (spliced (backTo pos (starEach es X.env))) (AP X pins σ Q) X.xe s
noncomputable def PS (X : Cx) (st : Stmt) (t : TS) : Prop :=
  ∀ (pins : List (Addr × Obj)) (s : Shared) (σ : St) (H : Hp) (D : Ends), Inv X pins σ H s → t D σ H → wpAny (model X.prog X.w) X.A (exec st X.env) (SP X pins D) X.xe s
noncomputable def PSs (X : Cx) (st : List Stmt) (t : TS) : Prop :=
  ∀ (pins : List (Addr × Obj)) (s : Shared) (σ : St) (H : Hp) (D : Ends), Inv X pins σ H s → t D σ H → wpAny (model X.prog X.w) X.A (execs st X.env) (SP X pins D) X.xe s
/-- weaken the end -/
theorem thn {α : Type} {t : Sem α} {Q Q' : α → Shared → Prop} {M : Model} {A : Around} {E : Value → Shared → Prop} {s : Shared} (h : wpAny M A t Q E s) (hQ : ∀ a s, Q a s → Q' a s) : wpAny M A t Q' E s := wpAny_mono h hQ fun _ _ x => x
end L2

namespace L2
open PySem PySem.Spec PyProof.Rows
section
variable {X : Cx}

noncomputable def tVar (i : Nat) : TE := fun σ H Q => ∃ v, σ[i]? = some (some v) ∧ Q v H
noncomputable def tC (v : V) : TE := fun _ H Q => Q v H
theorem pe_var {i : Nat} {x : Str} {pos : Pos} (hN : X.N[i]? = some x) (hv : Vis X.env.scope x) (hd : (x == ("__debug__" : Str)) = false := by decide) (hcd : (x == ("__classdict__" : Str)) = false := by decide) : PE X (.Name x pos) (tVar i) := by
  intro pins s σ H Q I h
  obtain ⟨v, e, h⟩ := h
  obtain ⟨m, hn, hl⟩ := I.loc
  obtain ⟨u, r, l⟩ := hl i x v hN e hv
  have fin : EP X pins σ Q u s := ⟨v, H, I, r, h⟩
  rcases l with ⟨hk, hm⟩ | ⟨hk, c, hc, hcell⟩
  · exact wpAny_Name (wpAny_loadName_local I.ok.kind hk hn hm fin) hd
  · rcases hk with hk | hk
    · exact wpAny_Name (wpAny_loadName_cell I.ok.kind hk hc hcell fin) hd
    · exact wpAny_Name (wpAny_loadName_free I.ok.kind hk hc hcell fin hcd) hd
theorem pe_int {i j pos} : PE X (.Constant (.int i) j pos) (tC (.int i)) := fun _ _ _ H _ I h => wpAny_Constant_int ⟨.int i, H, I.tok _, ⟨_, rfl⟩, h⟩
theorem pe_bl {b j pos} : PE X (.Constant (.bool b) j pos) (tC (.bl b)) := fun _ _ _ H _ I h => Constant_bool ⟨.bl b, H, I, rfl, h⟩
theorem pe_non {j pos} : PE X (.Constant .none j pos) (tC .non) := fun _ _ _ H _ I h => Constant_none ⟨.non, H, I, rfl, h⟩
theorem pe_str {x j pos} : PE X (.Constant (.str x) j pos) (tC (.str x)) := fun _ _ _ H _ I h => Calls.Constant_str ⟨.str x, H, I.tok _, ⟨_, rfl⟩, h⟩

/-- a global name of the def -/
noncomputable def Gl (X : Cx) (x : Str) : Prop := X.env.kindOf x = some .globalImplicit
theorem ld_glob {E : Value → Shared → Prop} {pins : List (Addr × Obj)} {s : Shared} {σ : St} {H : Hp} {x : Str} {u : Value} {pos : Pos} {Q : Value → Shared → Prop} (I : Inv X pins σ H s) (hg : Gl X x) (hm : X.mg x = some u) (h : Q u s)
    (hd : (x == ("__debug__" : Str)) = false := by decide) : wpAny (model X.prog X.w) X.A (eval (.Name x pos) X.env) Q E s :=
  Calls.Name_function_global I.ok.kind hg (Calls.loadGlobal_global (by rw [I.ok.glob]; exact I.mod.glob.keeps I.bk) hm h) hd
theorem ld_blt {E : Value → Shared → Prop} {pins : List (Addr × Obj)} {s : Shared} {σ : St} {H : Hp} {x : Str} {u : Value} {pos : Pos} {Q : Value → Shared → Prop} (I : Inv X pins σ H s) (hg : Gl X x) (hm : X.mg x = none) (hv : bootBuiltins x = some u) (h : Q u s)
    (hn : x ≠ "__name__" := by decide) (hd : (x == ("__debug__" : Str)) = false := by decide) : wpAny (model X.prog X.w) X.A (eval (.Name x pos) X.env) Q E s := by
  obtain ⟨mb, h1, h2⟩ := I.mod.blt
  exact Calls.Name_function_global I.ok.kind hg (Calls.loadGlobal_builtin (by rw [I.ok.glob]; exact I.mod.glob.keeps I.bk) hm (by rw [I.ok.blt]; exact h1.keeps I.bk) ((h2 x hn).trans hv) h) hd
/-- a module's constant, a class, a function, as a value -/
theorem pe_glob {x : Str} {v : V} {u : Value} {pos : Pos} (hg : Gl X x) (hm : X.mg x = some u) (r : RelV v u) (hd : (x == ("__debug__" : Str)) = false := by decide) : PE X (.Name x pos) (tC v) :=
  fun _ _ _ H _ I h => ld_glob I hg hm ⟨v, H, I, r, h⟩ hd
variable {a b : Expr} {ta tb : TE} {pos : Pos}
/-- a comparison as a value, as a test -/
noncomputable def tB (t : TE) : TT := fun σ H Q => t σ H fun x H1 => ∃ c, x = .bl c ∧ Q c H1
/-- an expression whose value is a bool, as a test -/
theorem pt_val {e : Expr} {t : TE} (h : PE X e t) (he : ∀ whole, isTrue e X.env whole = (do let v ← whole; standAt e.pos; holding [v] (truthy v)) := by intro _; rfl) : PT X e (tB t) := by
  intro pins s σ H Q I hw
  refine isTrue_plain (thn (h pins s σ H _ I hw) fun v s1 ⟨x, H1, I1, r1, q1⟩ => ?_) (he _)
  obtain ⟨d, rfl, q⟩ := q1
  cases r1
  exact wpAny_truthy_bool ⟨H1, I1, q⟩

variable {tA tB' : TT} {rest : List Expr}
noncomputable def tAnd (t u : TT) : TT := fun σ H Q => t σ H fun c H1 => if c = true then u σ H1 Q else Q false H1
noncomputable def tOr (t u : TT) : TT := fun σ H Q => t σ H fun c H1 => if c = true then Q true H1 else u σ H1 Q
noncomputable def tNot (t : TT) : TT := fun σ H Q => t σ H fun c H1 => Q (!c) H1
theorem pw_and1 (ha : PT X a tA) : PW X (.BoolOp .And [a] pos) tA := by
  intro wh pins s σ H Q I h
  refine isTrue_and (thn (ha pins s σ H Q I h) fun c s1 e => ?_)
  cases c with
  | true => exact isTrue_and_nil e
  | false => exact e
theorem pw_and (ha : PT X a tA) (hb : PW X (.BoolOp .And (b :: rest) pos) tB') : PW X (.BoolOp .And (a :: b :: rest) pos) (tAnd tA tB') := by
  intro wh pins s σ H Q I h
  refine isTrue_and (thn (ha pins s σ H _ I h) fun c s1 ⟨H1, I1, q1⟩ => ?_)
  cases c with
  | true => exact hb wh pins s1 σ H1 Q I1 q1
  | false => exact ⟨H1, I1, q1⟩
/-- .. as values (bools) -/
noncomputable def tAndV (ta tb : TE) : TE := fun σ H Q => ta σ H fun x H1 => ∃ c, x = .bl c ∧ if c = true then tb σ H1 Q else Q (.bl false) H1
noncomputable def tOrV (ta tb : TE) : TE := fun σ H Q => ta σ H fun x H1 => ∃ c, x = .bl c ∧ if c = true then Q (.bl true) H1 else tb σ H1 Q
noncomputable def tNotV (ta : TE) : TE := fun σ H Q => ta σ H fun x H1 => ∃ c, x = .bl c ∧ Q (.bl (!c)) H1
/-- a if t else b -/
noncomputable def tIf (t : TT) (ta tb : TE) : TE := fun σ H Q => t σ H fun c H1 => if c = true then ta σ H1 Q else tb σ H1 Q
end
end L2

namespace L2
open PySem PySem.Spec PyProof.Rows

noncomputable def SqL (K : PySem.W.Frag) (H : Hp) (a : Addr) (xs : List V) : Prop :=
  Rd H a (.lst xs) ∨
    ∃ (o : Obj) (its : Array Value) (n : Nat), K.lookup a = some o ∧ o.cls = .type "list" ∧ o.dict = none ∧ o.data = .seq its n ∧ its.size ≤ sizeLine ∧ Vals xs its.toList
noncomputable def SqT (K : PySem.W.Frag) (H : Hp) (a : Addr) (xs : List V) : Prop :=
  Rd H a (.tup xs) ∨
    ∃ (o : Obj) (its : Array Value) (n : Nat), K.lookup a = some o ∧ o.cls = .type "tuple" ∧ o.data = .seq its n ∧ its.size ≤ sizeLine ∧ Vals xs its.toList
noncomputable def absV : Value → Option V
  | .none => some .non
  | .bool b => some (.bl b)
  | .int i _ => some (.int i)
  | .str x _ => some (.str x)
  | .bytes b _ => some (.byt b)
  | .float b _ => some (.flt b)
  | .ref a => some (.ref a)
  | .type n => some (.ty n)
  | _ => none
theorem RelV.abs {x : V} {u : Value} (r : RelV x u) : absV u = some x := by
  cases x with
  | non => cases r; rfl
  | bl _ => cases r; rfl
  | int _ => obtain ⟨t, rfl⟩ := r; rfl
  | str _ => obtain ⟨t, rfl⟩ := r; rfl
  | byt _ => obtain ⟨t, rfl⟩ := r; rfl
  | flt _ => obtain ⟨t, rfl⟩ := r; rfl
  | ref _ => cases r; rfl
  | ty _ => cases r; rfl
theorem RelV.inj {x y : V} {u : Value} (r : RelV x u) (q : RelV y u) : x = y := Option.some.inj (r.abs.symm.trans q.abs)
theorem Vals.inj : ∀ {xs ys : List V} {us : List Value}, Vals xs us → Vals ys us → xs = ys
  | _, _, _, .nil, .nil => rfl
  | _, _, _, .cons r t, .cons r' t' => by rw [r.inj r', Vals.inj t t']
section
variable {X : Cx} {pins : List (Addr × Obj)} {σ : St} {H : Hp} {s : Shared} {a : Addr} {xs ys : List V}
theorem SqL.of {K : PySem.W.Frag} (h : H a = some (.lst xs)) : SqL K H a xs := .inl (.inl h)
theorem SqT.of {K : PySem.W.Frag} (h : H a = some (.tup xs)) : SqT K H a xs := .inl (.inl h)
theorem Inv.list (I : Inv X pins σ H s) (h : SqL X.K H a xs) : ∃ its : List Value, Vals xs its ∧ PlainL s.heap a its.toArray ∧ xs.length ≤ sizeLine := by
  rcases h with h | ⟨o, its, n, hk, hc, hd, hs, hz, r⟩
  · obtain ⟨z, its, n, r, e⟩ := h.ok I.hok
    exact ⟨its, r, ⟨_, n, e, rfl, rfl, rfl⟩, z⟩
  · refine ⟨its.toList, r, ⟨o, n, I.kIn a o hk, hc, hd, by simpa using hs⟩, ?_⟩
    have e := r.length
    simp only [Array.length_toList] at e
    omega
theorem Inv.tuple (I : Inv X pins σ H s) (h : SqT X.K H a xs) : ∃ its : List Value, Vals xs its ∧ IsTup s.heap a its.toArray ∧ xs.length ≤ sizeLine := by
  rcases h with h | ⟨o, its, n, hk, hc, hs, hz, r⟩
  · obtain ⟨z, its, r, p⟩ := h.ok I.hok
    exact ⟨its, r, p, z⟩
  · refine ⟨its.toList, r, ⟨o, I.kIn a o hk, hc, n, by simpa using hs⟩, ?_⟩
    have e := r.length
    simp only [Array.length_toList] at e
    omega
theorem Inv.list_inj (I : Inv X pins σ H s) (h : SqL X.K H a xs) (h' : SqL X.K H a ys) : xs = ys := by
  obtain ⟨its, r, ⟨o, n, e, _, _, d⟩, _⟩ := I.list h
  obtain ⟨its', r', ⟨o', n', e', _, _, d'⟩, _⟩ := I.list h'
  rw [e] at e'; cases e'
  rw [d] at d'
  injection d' with d1 _
  have : its = its' := by simpa using congrArg Array.toList d1
  subst this
  exact r.inj r'
theorem Inv.tuple_inj (I : Inv X pins σ H s) (h : SqT X.K H a xs) (h' : SqT X.K H a ys) : xs = ys := by
  obtain ⟨its, r, ⟨o, e, _, n, d⟩, _⟩ := I.tuple h
  obtain ⟨its', r', ⟨o', e', _, n', d'⟩, _⟩ := I.tuple h'
  rw [e] at e'; cases e'
  rw [d] at d'
  injection d' with d1 _
  have : its = its' := by simpa using congrArg Array.toList d1
  subst this
  exact r.inj r'
end

noncomputable abbrev Cx.wish (X : Cx) (E : Value → Shared → Prop) : Cx := { X with xe := E }
/-- no exception leaves -/
noncomputable abbrev Cx.nox (X : Cx) : Cx := X.wish fun _ _ => False
theorem Cx.Ok.wish {X : Cx} (ok : X.Ok) (E : Value → Shared → Prop) : (X.wish E).Ok :=
  ⟨ok.mod, ok.kind, ok.glob, ok.blt, ok.above, ok.inj, ok.has, ok.cab, ok.hd, ok.frames, ok.stk, ok.exf, ok.bs, ok.bsz, ok.noex, ok.exfs, ok.funs, ok.frf⟩
theorem Cx.Ok.unwish {X : Cx} {E : Value → Shared → Prop} (ok : (X.wish E).Ok) : X.Ok :=
  ⟨ok.mod, ok.kind, ok.glob, ok.blt, ok.above, ok.inj, ok.has, ok.cab, ok.hd, ok.frames, ok.stk, ok.exf, ok.bs, ok.bsz, ok.noex, ok.exfs, ok.funs, ok.frf⟩
section
variable {X : Cx} {pins : List (Addr × Obj)} {σ : St} {H : Hp} {s : Shared} {E : Value → Shared → Prop}
theorem Inv.wish (I : Inv X pins σ H s) (E : Value → Shared → Prop) : Inv (X.wish E) pins σ H s := ⟨I.ok.wish E, I.os, I.bare, I.base, I.loc, I.cell, I.free, I.freeC, I.pin, I.hok, I.len⟩
theorem Inv.unwish (I : Inv (X.wish E) pins σ H s) : Inv X pins σ H s := ⟨I.ok.unwish, I.os, I.bare, I.base, I.loc, I.cell, I.free, I.freeC, I.pin, I.hok, I.len⟩
theorem SP.unwish {D : Ends} {f : Flow} {s' : Shared} (h : SP (X.wish E) pins D f s') : SP X pins D f s' := by
  cases f with
  | next => obtain ⟨σ', H', I, q⟩ := h; exact ⟨σ', H', I.unwish, q⟩
  | brk => obtain ⟨σ', H', I, q⟩ := h; exact ⟨σ', H', I.unwish, q⟩
  | cont => obtain ⟨σ', H', I, q⟩ := h; exact ⟨σ', H', I.unwish, q⟩
  | ret u => obtain ⟨v, σ', H', I, r, q⟩ := h; exact ⟨v, σ', H', I.unwish, r, q⟩
theorem PE.nox {e : Expr} {t : TE} (h : PE X.nox e t) : PE X e t := fun pins s σ H Q I hw =>
  wpAny_mono (h pins s σ H Q (I.wish _) hw) (fun _ _ ⟨v, H', I', r, q⟩ => ⟨v, H', I'.unwish, r, q⟩) fun _ _ z => False.elim z
theorem PT.nox {e : Expr} {t : TT} (h : PT X.nox e t) : PT X e t := fun pins s σ H Q I hw =>
  wpAny_mono (h pins s σ H Q (I.wish _) hw) (fun _ _ ⟨H', I', q⟩ => ⟨H', I'.unwish, q⟩) fun _ _ z => False.elim z
theorem PSs.nox {st : List Stmt} {t : TS} (h : PSs X.nox st t) : PSs X st t := fun pins s σ H D I hw =>
  wpAny_mono (h pins s σ H D (I.wish _) hw) (fun _ _ q => q.unwish) fun _ _ z => False.elim z
end

section
variable {X : Cx} {st : Stmt} {rest : List Stmt} {t u : TS} {e : Expr} {te : TE} {pos : Pos}
noncomputable def tNext : TS := fun D σ H => D.nx σ H
noncomputable def tSeq (t u : TS) : TS := fun D σ H => t { D with nx := u D } σ H
theorem pss_nil : PSs X [] tNext := fun _ _ σ H _ I h => wpAny_execs_nil ⟨σ, H, I, h⟩
theorem pss_cons (h1 : PS X st t) (h2 : PSs X rest u) : PSs X (st :: rest) (tSeq t u) := by
  intro pins s σ H D I h
  refine wpAny_execs_cons (thn (h1 pins s σ H { D with nx := u D } I h) fun f s1 q => ?_)
  cases f with
  | next =>
    obtain ⟨σ', H', I', q⟩ := q
    exact h2 pins s1 σ' H' D I' q
  | ret v => exact q
  | brk => exact q
  | cont => exact q
theorem pss_one (h1 : PS X st t) : PSs X [st] t := by
  intro pins s σ H D I h
  refine wpAny_execs_cons (thn (h1 pins s σ H D I h) fun f s1 q => ?_)
  cases f with
  | next => exact wpAny_execs_nil q
  | ret v => exact q
  | brk => exact q
  | cont => exact q
/-- in a def's body nothing is shown -/
theorem Inv.quiet {pins : List (Addr × Obj)} {σ : St} {H : Hp} {s : Shared} (I : Inv X pins σ H s) : interactive X.env = false := by simp [interactive, I.ok.kind]
/-- an expression whose value is dropped -/
noncomputable def tDrop (te : TE) : TS := fun D σ H => te σ H fun _ H1 => D.nx σ H1
theorem ps_expr (he : PE X e te) (hs : swapsWith e none pos.line X.env = pure false := by rfl) : PS X (.Expr e pos) (tDrop te) := by
  intro pins s σ H D I h
  exact wpAny_Expr_any (thn (he pins s σ H _ I h) fun v s1 ⟨x, H1, I1, r1, q1⟩ => ⟨σ, H1, I1, q1⟩) I.quiet hs
noncomputable def tRet (te : TE) : TS := fun D σ H => te σ H D.rt
theorem ps_ret (he : PE X e te) : PS X (.Return (some e) pos) (tRet te) := by
  intro pins s σ H D I h
  exact wpAny_Return_some (thn (he pins s σ H _ I h) fun v s1 ⟨x, H1, I1, r1, q1⟩ => ⟨x, σ, H1, I1, r1, q1⟩)
noncomputable def tIfS (c : TT) (t u : TS) : TS := fun D σ H => c σ H fun b H1 => if b = true then t D σ H1 else u D σ H1
theorem ps_if {c : Expr} {a b : List Stmt} {tc : TT} (hc : PT X c tc) (ha : PSs X a t) (hb : PSs X b u) : PS X (.If c a b pos) (tIfS tc t u) := by
  intro pins s σ H D I h
  refine wpAny_If (thn (hc pins s σ H _ I h) fun d s1 ⟨H1, I1, q1⟩ => ?_)
  cases d with
  | true => exact ha pins s1 σ H1 D I1 q1
  | false => exact hb pins s1 σ H1 D I1 q1
/-- code that the proof never comes to -/
noncomputable def tNever : TS := fun _ _ _ => False
theorem ps_never : PS X st tNever := fun _ _ _ _ _ _ h => h.elim
end

noncomputable abbrev TG := V → St → Hp → (St → Hp → Prop) → Prop
noncomputable abbrev TGs := List V → St → Hp → (St → Hp → Prop) → Prop
noncomputable def PG (X : Cx) (target : Expr) (t : TG) : Prop :=
  ∀ (pins : List (Addr × Obj)) (s : Shared) (σ : St) (H : Hp) (v : V) (u : Value) (Q : St → Hp → Prop), Inv X pins σ H s → RelV v u → t v σ H Q →
    wpAny (model X.prog X.w) X.A (assign target X.env u) (fun _ s' => ∃ σ' H', Inv X pins σ' H' s' ∧ Q σ' H') X.xe s
/-- several targets, one after another -/
noncomputable def PGs (X : Cx) (ts : List Expr) (t : TGs) : Prop :=
  ∀ (pins : List (Addr × Obj)) (s : Shared) (σ : St) (H : Hp) (vs : List V) (us : List Value) (Q : St → Hp → Prop), Inv X pins σ H s → Vals vs us → t vs σ H Q →
    wpAny (model X.prog X.w) X.A (assignInOrder ((assignEach ts X.env).map (·.2)) us) (fun _ s' => ∃ σ' H', Inv X pins σ' H' s' ∧ Q σ' H') X.xe s
/-- o[i] = v, by values -/
noncomputable abbrev TSet := V → V → V → Hp → (Hp → Prop) → Prop
noncomputable def PSet (X : Cx) (t : TSet) : Prop :=
  ∀ (pins : List (Addr × Obj)) (s : Shared) (σ : St) (H : Hp) (o i v : V) (ov iv u : Value) (Q : Hp → Prop), Inv X pins σ H s → RelV o ov → RelV i iv → RelV v u → t o i v H Q →
    wpAny (model X.prog X.w) X.A (setItem ov iv u) (fun _ s' => ∃ H', Inv X pins σ H' s' ∧ Q H') X.xe s
section
variable {X : Cx} {pos : Pos}
noncomputable def gName (i : Nat) : TG := fun v σ H Q => Q (σ.set i (some v)) H
theorem pg_name {i : Nat} {x : Str} (hN : X.N.Nodup) (hi : X.N[i]? = some x) (hx : Loc X.env.scope x) (hf : X.fn x = true ∨ X.env.scope.names.lookup x = some .local := by first | exact .inl rfl | exact .inr rfl | assumption) : PG X (.Name x pos) (gName i) := by
  intro pins s σ H v u Q I r h
  exact wpAny_assign_Name (store_ok I hN hi hx r (fun s' I' => ⟨_, H, I', h⟩) hf)
noncomputable def gNil : TGs := fun vs σ H Q => vs = [] ∧ Q σ H
noncomputable def gCons (t : TG) (u : TGs) : TGs := fun vs σ H Q => ∃ v r, vs = v :: r ∧ t v σ H fun σ' H' => u r σ' H' Q
theorem pgs_nil : PGs X [] gNil := by
  intro pins s σ H vs us Q I r h
  obtain ⟨e, h⟩ := h
  subst e
  cases r
  exact assignInOrder_nil ⟨σ, H, I, h⟩
theorem pgs_cons {e : Expr} {es : List Expr} {t : TG} {u : TGs} (h1 : PG X e t) (h2 : PGs X es u)
    (hs : (assignEach (e :: es) X.env).map (·.2) = assign e X.env :: (assignEach es X.env).map (·.2) := by rfl) : PGs X (e :: es) (gCons t u) := by
  intro pins s σ H vs us Q I r h
  obtain ⟨v, vr, e1, h⟩ := h
  subst e1
  cases r with
  | cons r rr =>
    rw [hs]
    refine assignInOrder_cons (thn (h1 pins s σ H _ _ _ I r h) fun _ s1 ⟨σ1, H1, I1, q1⟩ => ?_)
    exact h2 pins s1 σ1 H1 _ _ Q I1 rr q1
/-- (a, b, ..) = a tuple of that length -/
noncomputable def gTup (K : PySem.W.Frag) (n : Nat) (t : TGs) : TG := fun v σ H Q => ∃ a xs, v = .ref a ∧ SqT K H a xs ∧ xs.length = n ∧ t xs σ H Q
theorem pg_tup {es : List Expr} {k : Nat} {t : TGs} {n : Nat} (hc : X.calm = true) (h : PGs X es t)
    (hn : (assignEach es X.env).length = n := by rfl) (hst : (assignEach es X.env).findIdx? (·.1) = none := by rfl) : PG X (.Tuple es k pos) (gTup X.K n t) := by
  intro pins s σ H v u Q I r hw
  obtain ⟨a, xs, e1, hq, hl, hw⟩ := hw
  subst e1
  cases r
  obtain ⟨its, rv, ht, hz⟩ := I.tuple hq
  refine assign_Tuple_tuple (I.ok.hd hc) ht (by simp [hn, ← hl, rv.length]) hst fun h' hx => ?_
  have I1 : Inv X pins σ H { s with heap := h' } := I.kept (t' := s.toks) fun b o e => hx b o (Nat.ne_of_lt (Heap.lt_size e)) e
  exact h pins _ σ H xs _ Q I1 (by simpa using rv) hw
/-- o[i] = .. -/
noncomputable def gSub (to ti : TE) (t : TSet) : TG := fun v σ H Q => to σ H fun o H1 => ti σ H1 fun i H2 => t o i v H2 fun H3 => Q σ H3
theorem pg_sub {o i : Expr} {to ti : TE} {t : TSet} (ho : PE X o to) (hi : PE X i ti) (hs : PSet X t)
    (ha : ∀ v, assign (.Subscript o i pos) X.env v = (do
      let ov ← holding [v] (eval o X.env)
      let iv ← holding [v, ov] (eval i X.env)
      standAt pos
      holding [v, ov, iv] (setItem ov iv v)
      release [v, ov, iv] []) := by intro _; rfl) : PG X (.Subscript o i pos) (gSub to ti t) := by
  intro pins s σ H v u Q I r h
  rw [ha]
  refine wpAny_bind (wpAny_holding (thn (ho pins s σ H _ I h) fun ov s1 ⟨x, H1, I1, r1, q1⟩ => ?_))
  refine wpAny_bind (wpAny_holding (thn (hi pins s1 σ H1 _ I1 q1) fun iv s2 ⟨y, H2, I2, r2, q2⟩ => ?_))
  refine wpAny_bind (wpAny_standAt (wpAny_bind (wpAny_holding (thn (hs pins s2 σ H2 x y v ov iv u _ I2 r1 r2 r q2) fun _ s3 ⟨H3, I3, q3⟩ => ?_))))
  exact wpAny_release ⟨σ, H3, I3, q3⟩
/-- target = value -/
noncomputable def tAsg (te : TE) (g : TG) : TS := fun D σ H => te σ H fun x H1 => g x σ H1 D.nx
theorem ps_asg {tg e : Expr} {te : TE} {g : TG} (he : PE X e te) (hg : PG X tg g) (hs : swapsWithSole [tg] e pos.line X.env = pure false := by rfl) (hw : swappedStores [tg] e X.env = pure none := by rfl)
    (h1 : (assignEach [tg] X.env).map (·.2) = [assign tg X.env] := by rfl) : PS X (.Assign [tg] e pos) (tAsg te g) := by
  intro pins s σ H D I h
  refine wpAny_Assign_stores (thn (he pins s σ H _ I h) fun v s1 ⟨x, H1, I1, r1, q1⟩ => ?_) hs hw
  rw [h1]
  exact thn (hg pins s1 σ H1 x v _ I1 r1 q1) fun _ s2 q => q
/-- name = value -/
theorem ps_set {i : Nat} {x : Str} {e : Expr} {te : TE} {pos' : Pos} (hN : X.N.Nodup) (hi : X.N[i]? = some x) (hx : Loc X.env.scope x) (he : PE X e te) (hs : swapsWith e (some (.Name x pos')) pos.line X.env = pure false := by rfl) (hf : X.fn x = true ∨ X.env.scope.names.lookup x = some .local := by first | exact .inl rfl | exact .inr rfl | assumption) :
    PS X (.Assign [.Name x pos'] e pos) (tAsg te (gName i)) := by
  intro pins s σ H D I h
  refine wpAny_Assign_Name (thn (he pins s σ H _ I h) fun v s1 ⟨y, H1, I1, r1, q1⟩ => ?_) hs
  exact store_ok I1 hN hi hx r1 (fun s2 I2 => ⟨_, H1, I2, q1⟩) hf
/-- a, b = x, y with plain local names: stored from the right; the pair itself is not tracked (the opening rows as in PyProof/Rows/TupAssign.lean:23) -/
noncomputable def tPar (i j : Nat) (ta : TA) : TS := fun D σ H => ta σ H fun vs H1 => ∃ v w, vs = [v, w] ∧ D.nx ((σ.set i (some v)).set j (some w)) H1
end

section
variable {X : Cx} {pos : Pos}
/-- the invariant W with its measure -/
noncomputable def tWhile (c : TT) (tb : TS) : TS := fun D σ H => ∃ W : Nat → St → Hp → Prop, (∃ m, W m σ H) ∧ ∀ m σ H, W m σ H →
  c σ H fun b H1 => if b = true then ∃ N : St → Hp → Prop, (∀ σ' H', N σ' H' → ∃ m', m' < m ∧ W m' σ' H') ∧ tb { D with nx := N, ct := N, bk := D.nx } σ H1 else D.nx σ H1
theorem ps_while {c : Expr} {body : List Stmt} {tc : TT} {tb : TS} (hp : PassesOwn (model X.prog X.w) X.A X.env X.xe) (hc : PT X c tc) (hb : PSs X body tb) : PS X (.While c body [] pos) (tWhile tc tb) := by
  intro pins s σ H D I h
  obtain ⟨W, ⟨m0, w0⟩, turn⟩ := h
  refine wpAny_While (codeAny_whileLoop (fun n s' => ∃ σ' H', Inv X pins σ' H' s' ∧ W n σ' H') ?_ m0 ⟨σ, H, I, w0⟩)
  rintro n s1 ⟨σ1, H1, I1, w1⟩
  refine wpAny_passesOwn hp (thn (hc pins s1 σ1 H1 _ I1 (turn n σ1 H1 w1)) fun b s2 ⟨H2, I2, q2⟩ => ?_)
  cases b with
  | true =>
    obtain ⟨N, hN, q2⟩ := q2
    rw [if_pos rfl]
    refine wpAny_passesOwn hp (thn (hb pins s2 σ1 H2 _ I2 q2) fun f s3 q3 => ?_)
    cases f with
    | next =>
      obtain ⟨σ3, H3, I3, n3⟩ := q3
      obtain ⟨m', hm, w3⟩ := hN σ3 H3 n3
      exact ⟨m', hm, σ3, H3, I3, w3⟩
    | cont =>
      obtain ⟨σ3, H3, I3, n3⟩ := q3
      obtain ⟨m', hm, w3⟩ := hN σ3 H3 n3
      exact ⟨m', hm, σ3, H3, I3, w3⟩
    | brk => exact q3
    | ret v => exact q3
  | false =>
    rw [if_neg Bool.false_ne_true]
    exact wpAny_execs_nil ⟨σ1, H2, I2, q2⟩
end

/-- at turn i: it yields x (the heap may grow), or it stops -/
structure It where
  go : Nat → Hp → Prop
  yld : Nat → Hp → V → Hp → Prop
  stop : Nat → Hp → Prop
/-- the iterator's own objects may turn: they are not the frame's, not pinned, younger than the entry (or a comprehension's own) -/
noncomputable def FpOk (X : Cx) (pins : List (Addr × Obj)) (H : Hp) (b : Addr) : Prop :=
  H b = none ∧ b ≠ X.env.locals ∧ b ∉ X.fs ∧ (b ∈ X.ex ∨ X.s₀.heap.objs.size ≤ b) ∧ (∀ x c, X.env.cells.lookup x = some c → c ≠ b) ∧ ∀ p ∈ X.pn ++ pins, p.1 ≠ b
theorem Inv.fpOk {X : Cx} {pins : List (Addr × Obj)} {σ : St} {H H' : Hp} {s : Shared} {b : Addr} (I : Inv X pins σ H s) (hb : s.heap.objs.size ≤ b) (hn : H' b = none) : FpOk X pins H' b := by
  refine ⟨hn, Nat.ne_of_gt (Nat.lt_of_lt_of_le I.lt hb), I.nofs hb, .inr (Nat.le_trans I.sz hb), fun x c e z => ?_, fun p hp z => ?_⟩
  · obtain ⟨v, q⟩ := I.cell x c e
    exact absurd (Nat.lt_of_lt_of_le q.lt (by rw [z]; exact hb)) (Nat.lt_irrefl _)
  · exact absurd (Nat.lt_of_lt_of_le (Heap.lt_size (I.pin p hp).1) (by rw [z]; exact hb)) (Nat.lt_irrefl _)
structure Turn (P : Program) (w : World) (K : PySem.W.Frag) (tg : Expr) (J : It) (fp : List Addr) (it : Addr) (tn : Nat → Heap → Prop) : Prop where
  mem : it ∈ fp
  obj : ∀ i h, tn i h → ∀ b ∈ fp, ∃ o, h.get? b = some o ∧ ∀ v, o.data ≠ .cell v
  keep : ∀ i h h', tn i h → (∀ b ∈ fp, ∀ o, h.get? b = some o → h'.get? b = some o) → tn i h'
  item : ∀ (X : Cx), X.prog = P → X.w = w → X.K = K → X.calm = true → ∀ (i : Nat) (pins : List (Addr × Obj)) (s : Shared) (σ : St) (H : Hp) (E : Value → Shared → Prop), Inv X pins σ H s → (∀ b ∈ fp, FpOk X pins H b) → tn i s.heap → J.go i H →
    wpAny (model P w) X.A (pyNext (.ref it)) (fun r s1 => ∃ u, r = some u ∧
      wpAny (model P w) X.A (letOwnedTupleGo tg (.ref it) u) (fun _ s2 => ∃ x H', Inv X pins σ H' s2 ∧ RelV x u ∧ J.yld i H x H' ∧ tn (i + 1) s2.heap ∧ ∀ b ∈ fp, H' b = none) E s1) E s
  done : ∀ (X : Cx), X.prog = P → X.w = w → X.K = K → X.calm = true → ∀ (i : Nat) (pins : List (Addr × Obj)) (s : Shared) (σ : St) (H : Hp) (E : Value → Shared → Prop), Inv X pins σ H s → (∀ b ∈ fp, FpOk X pins H b) → tn i s.heap → J.stop i H →
    wpAny (model P w) X.A (pyNext (.ref it)) (fun r s1 => r = none ∧ Inv X pins σ H s1) E s
  self : ∀ (A : Around) (i : Nat) (s : Shared) (Q : Value → Shared → Prop) (E : Value → Shared → Prop), tn i s.heap → Q (.ref it) s → wpAny (model P w) A (pyIter (.ref it)) Q E s
noncomputable abbrev TI := St → Hp → (It → Hp → Prop) → Prop
/-- an iterator has come -/
noncomputable def PIE (X : Cx) (pins : List (Addr × Obj)) (σ : St) (tg : Expr) (R : It → Hp → Prop) (itv : Value) (s2 : Shared) : Prop :=
  ∃ (it : Addr) (fp : List Addr) (tn : Nat → Heap → Prop) (J : It) (H' : Hp), itv = .ref it ∧ Inv X pins σ H' s2 ∧ Turn X.prog X.w X.K tg J fp it tn ∧ tn 0 s2.heap ∧ (∀ b ∈ fp, FpOk X pins H' b) ∧ R J H'
noncomputable def PI (X : Cx) (tg iter : Expr) (wi : TI) : Prop :=
  ∀ (pins : List (Addr × Obj)) (s : Shared) (σ : St) (H : Hp) (R : It → Hp → Prop), Inv X pins σ H s → wi σ H R →
    wpAny (model X.prog X.w) X.A (eval iter X.env) (fun v s1 => wpAny (model X.prog X.w) X.A (pyIter v) (PIE X pins σ tg R) X.xe s1) X.xe s

/-- the step ahead of the store is nothing for an iterator that keeps no tuple -/
theorem go_of {M : Model} {A : Around} {E : Value → Shared → Prop} {s : Shared} {tg : Expr} {it : Addr} {u : Value} {o : Obj} {n : String} {vs : Array Value} {Q : Unit → Shared → Prop} (ho : s.heap.get? it = some o) (hc : o.cls = .type n) (hd : o.data = .fields vs)
    (hn : ["enumerate", "zip", "dict_itemiterator", "dict_reverseitemiterator", "odict_iterator", "itertools.zip_longest", "itertools.pairwise"].contains n = false) (hQ : Q () s) : wpAny M A (letOwnedTupleGo tg (.ref it) u) Q E s := by
  unfold letOwnedTupleGo
  cases tg <;> first
    | exact wpAny_pure hQ
    | (cases u <;> first
        | exact wpAny_pure hQ
        | (refine wpAny_bind (wpAny_load ho ?_)
           rw [hc, hd]
           show wpAny M A (if (["enumerate", "zip", "dict_itemiterator", "dict_reverseitemiterator", "odict_iterator", "itertools.zip_longest", "itertools.pairwise"].contains n && vs[0]? == some (rawInt _)) = true then _ else _) Q E s
           rw [if_neg (by intro h; rw [hn, Bool.false_and] at h; cases h)]
           exact wpAny_pure hQ))

/-- the list at a, as it stands at each turn (a loop may append to it) -/
noncomputable def Itl (K : PySem.W.Frag) (a : Addr) : It :=
  ⟨fun i H => ∃ xs x, SqL K H a xs ∧ xs[i]? = some x, fun i H x H' => H' = H ∧ ∀ xs, SqL K H a xs → xs[i]? = some x, fun i H => ∃ xs, SqL K H a xs ∧ xs.length ≤ i⟩
noncomputable def Itt (K : PySem.W.Frag) (a : Addr) : It :=
  ⟨fun i H => ∃ xs x, SqT K H a xs ∧ xs[i]? = some x, fun i H x H' => H' = H ∧ ∀ xs, SqT K H a xs → xs[i]? = some x, fun i H => ∃ xs, SqT K H a xs ∧ xs.length ≤ i⟩
/-- lo, lo + 1, .. (n of them) -/
noncomputable def Itr (lo : Int) (n : Nat) : It := ⟨fun i _ => i < n, fun i H x H' => H' = H ∧ x = .int (lo + i), fun i _ => n ≤ i⟩
theorem turn_list {P : Program} {w : World} {K : PySem.W.Frag} {tg : Expr} (a it : Addr) : Turn P w K tg (Itl K a) [it] it (fun i h => h.IsListIter it a i) where
  mem := by simp
  obj := fun i h st b hb => by
    have e : b = it := by simpa using hb
    subst e
    obtain ⟨o, e, c, d⟩ := st
    exact ⟨o, e, fun v z => by rw [d] at z; cases z⟩
  keep := fun i h h' st k => st.at fun o e => k it (by simp) o e
  item := by
    intro X hP hw hK hc i pins s σ H E I hf st hg
    subst hP hw hK
    obtain ⟨xs, x, hq, hx⟩ := hg
    obtain ⟨its, rv, p, hz⟩ := I.list hq
    obtain ⟨u, hu, ru⟩ := rv.get hx
    obtain ⟨f0, f1, f2, f3, f4, f5⟩ := hf it (by simp)
    refine wpAny_pyNext_list_item st p.isList (x := u) (by simpa using hu) fun h' st' sb => ?_
    have I1 : Inv X pins σ H { s with heap := h' } := I.turned (t' := s.toks) (fun b o hb e => (sb.2 b hb).trans e) f0 f1 f3 f4 f5
    obtain ⟨o, e, c, d⟩ := id st'
    exact ⟨u, rfl, go_of (s := { s with heap := h' }) e c d (by decide) ⟨x, H, I1, ru, ⟨rfl, fun ys hy => by rw [I.list_inj hy hq]; exact hx⟩, st', fun b hb => (hf b hb).1⟩⟩
  done := by
    intro X hP hw hK hc i pins s σ H E I hf st hg
    subst hP hw hK
    obtain ⟨xs, hq, hx⟩ := hg
    obtain ⟨its, rv, p, hz⟩ := I.list hq
    obtain ⟨f0, f1, f2, f3, f4, f5⟩ := hf it (by simp)
    have hl := rv.length
    exact wpAny_pyNext_list_end (I.ok.hd hc) st p.isList (by simp; omega) fun h' eb => ⟨rfl, I.turned (t' := s.toks) (fun b o hb e => eb b o hb e) f0 f1 f3 f4 f5⟩
  self := fun _ _ _ _ _ st h => wpAny_pyIter_listiter st h
theorem turn_tuple {P : Program} {w : World} {K : PySem.W.Frag} {tg : Expr} (a it : Addr) : Turn P w K tg (Itt K a) [it] it (fun i h => h.IsTupleIter it a i) where
  mem := by simp
  obj := fun i h st b hb => by
    have e : b = it := by simpa using hb
    subst e
    obtain ⟨o, e, c, d⟩ := st
    exact ⟨o, e, fun v z => by rw [d] at z; cases z⟩
  keep := fun i h h' st k => st.at fun o e => k it (by simp) o e
  item := by
    intro X hP hw hK hc i pins s σ H E I hf st hg
    subst hP hw hK
    obtain ⟨xs, x, hq, hx⟩ := hg
    obtain ⟨its, rv, p, hz⟩ := I.tuple hq
    obtain ⟨u, hu, ru⟩ := rv.get hx
    obtain ⟨f0, f1, f2, f3, f4, f5⟩ := hf it (by simp)
    refine wpAny_pyNext_tuple_item st (show s.heap.IsTuple a its.toArray from p) (x := u) (by simpa using hu) fun h' st' sb => ?_
    have I1 : Inv X pins σ H { s with heap := h' } := I.turned (t' := s.toks) (fun b o hb e => (sb.2 b hb).trans e) f0 f1 f3 f4 f5
    obtain ⟨o, e, c, d⟩ := id st'
    exact ⟨u, rfl, go_of (s := { s with heap := h' }) e c d (by decide) ⟨x, H, I1, ru, ⟨rfl, fun ys hy => by rw [I.tuple_inj hy hq]; exact hx⟩, st', fun b hb => (hf b hb).1⟩⟩
  done := by
    intro X hP hw hK hc i pins s σ H E I hf st hg
    subst hP hw hK
    obtain ⟨xs, hq, hx⟩ := hg
    obtain ⟨its, rv, p, hz⟩ := I.tuple hq
    obtain ⟨f0, f1, f2, f3, f4, f5⟩ := hf it (by simp)
    have hl := rv.length
    exact wpAny_pyNext_tuple_end (I.ok.hd hc) st (show s.heap.IsTuple a its.toArray from p) (by simp; omega) fun h' eb => ⟨rfl, I.turned (t' := s.toks) (fun b o hb e => eb b o hb e) f0 f1 f3 f4 f5⟩
  self := fun _ _ _ _ _ st h => wpAny_pyIter_tupleiter st h
theorem turn_range {P : Program} {w : World} {K : PySem.W.Frag} {tg : Expr} (it : Addr) (lo : Int) (n : Nat) : Turn P w K tg (Itr lo n) [it] it (fun i h => IsRangeIter h it (lo + (i : Nat) * 1) ((n : Int) - (i : Nat)) 1) where
  mem := by simp
  obj := fun i h st b hb => by
    have e : b = it := by simpa using hb
    subst e
    exact ⟨_, st, fun v z => by
      have z' : Data.fields _ = Data.cell v := z
      cases z'⟩
  keep := fun i h h' st k => k it (by simp) _ st
  item := by
    intro X hP hw hK hc i pins s σ H E I hf st hg
    subst hP hw hK
    obtain ⟨f0, f1, f2, f3, f4, f5⟩ := hf it (by simp)
    have W := Walks.range (prog := X.prog) (w := X.w) (I.ok.hd hc) it lo 1 n
    refine W.item i s _ _ hg st fun v h' tk hv st' kk => ?_
    obtain ⟨t, rfl⟩ := hv
    have I1 : Inv X pins σ H { s with heap := h', toks := tk } := I.turned (fun b o hb e => kk b o (by simpa using hb) e) f0 f1 f3 f4 f5
    refine ⟨_, rfl, go_of (s := { s with heap := h', toks := tk }) (n := "range_iterator") st' rfl rfl (by decide) ⟨.int (lo + i), H, I1, ⟨t, ?_⟩, ⟨rfl, rfl⟩, st', fun b hb => (hf b hb).1⟩⟩
    rw [Int.mul_one]
  done := by
    intro X hP hw hK hc i pins s σ H E I hf st hg
    subst hP hw hK
    obtain ⟨f0, f1, f2, f3, f4, f5⟩ := hf it (by simp)
    exact wpAny_pyNext_range_end (I.ok.hd hc) st (by have : n ≤ i := hg; omega) fun h' eb => ⟨rfl, I.turned (t' := s.toks) (fun b o hb e => eb b o hb e) f0 f1 f3 f4 f5⟩
  self := fun _ _ _ _ _ st h => wpAny_pyIter_rangeiter st h
end L2

namespace L2
open PySem PySem.Spec PyProof.Rows
section
variable {X : Cx} {tg : Expr}
/-- a range object just made, walked -/
theorem range_it {pins : List (Addr × Obj)} {σ : St} {H : Hp} {s : Shared} {R : It → Hp → Prop} {E : Value → Shared → Prop} {lo hi : Int} {t u v : Tok} {tk : Nat} (I : Inv X pins σ H s) (h1 : -(2 ^ 62) ≤ lo) (h2 : lo < 2 ^ 62) (h3 : -(2 ^ 62) ≤ hi) (h4 : hi < 2 ^ 62)
    (q : R (Itr lo (hi - lo).toNat) H) : wpAny (model X.prog X.w) X.A (pyIter (.ref s.heap.objs.size)) (PIE X pins σ tg R) E { s with heap := s.heap.push { cls := .type "range", data := .fields #[.int lo t, .int hi u, .int 1 v] }, toks := tk } := by
  refine wpAny_pyIter_range (IsRange.new ..) (small_one h1 h2 h3 h4) ?_
  have I1 : Inv X pins σ H { s with heap := s.heap.push { cls := .type "range", data := .fields #[.int lo t, .int hi u, .int 1 v] }, toks := tk } := I.kept fun b o e => Heap.get?_push_of_some _ e
  refine ⟨(s.heap.push { cls := .type "range", data := .fields #[.int lo t, .int hi u, .int 1 v] }).objs.size, [(s.heap.push { cls := .type "range", data := .fields #[.int lo t, .int hi u, .int 1 v] }).objs.size], _, _, H, rfl,
    I1.kept (t' := tk) fun b o e => Heap.get?_push_of_some _ e, turn_range _ lo (hi - lo).toNat, ?_, fun b hb => ?_, q⟩
  · have e1 : lo + ((0 : Nat) : Int) * 1 = lo := by simp
    have e2 : (((hi - lo).toNat : Nat) : Int) - ((0 : Nat) : Int) = Builtin.Range.rangeSize lo hi 1 := by rw [rangeSize_one]; split <;> omega
    show IsRangeIter _ _ (lo + ((0 : Nat) : Int) * 1) ((((hi - lo).toNat : Nat) : Int) - ((0 : Nat) : Int)) 1
    rw [e1, e2]
    exact Heap.get?_push_size _ rfl
  · have e : b = (s.heap.push { cls := .type "range", data := .fields #[.int lo t, .int hi u, .int 1 v] }).objs.size := by simpa using hb
    subst e
    exact I1.fpOk (Nat.le_refl _) (I1.hok.fresh (Nat.le_refl _))
noncomputable def iRng1 (ta : TA) : TI := fun σ H R => ta σ H fun vs H1 => ∃ j : Int, vs = [.int j] ∧ -(2 ^ 62) ≤ j ∧ j < 2 ^ 62 ∧ R (Itr 0 j.toNat) H1
theorem pi_range1 {a : Expr} {ta : TA} {p pos : Pos} (hg : Gl X "range") (hm : X.mg "range" = none) (ha : PA X [a] ta) (hs : starEach [a] X.env = [(false, eval a X.env)] := by rfl) : PI X tg (.Call (.Name "range" p) [a] [] pos) (iRng1 ta) := by
  intro pins s σ H R I h
  refine Call_ (ld_blt I hg hm boot_range (PyProof.Rows.callWith_type1 (thn (ha pos pins s σ H _ I h) fun us s1 ⟨vs, H1, I1, r1, q1⟩ => ?_) hs rfl))
  obtain ⟨j, e, q1, q2, q⟩ := q1
  subst e
  cases r1 with
  | cons r rr =>
    cases rr
    obtain ⟨t, rfl⟩ := r
    exact call_range_1 (range_it I1 (by omega) (by omega) q1 q2 (by simpa using q))
/-- W: the invariant by the turn and a measure; N: what the body is to reach -/
noncomputable def tFor (wi : TI) (g : TG) (tb : TS) : TS := fun D σ H => wi σ H fun J H1 => ∃ W : Nat → Nat → St → Hp → Prop, (∃ m, W 0 m σ H1) ∧ ∀ i m σ H, W i m σ H →
  (J.stop i H ∧ D.nx σ H) ∨ (J.go i H ∧ ∃ N : St → Hp → Prop, (∀ σ' H', N σ' H' → ∃ m', m' < m ∧ W (i + 1) m' σ' H') ∧ ∀ x H', J.yld i H x H' → g x σ H' fun σ2 H2 => tb { D with nx := N, ct := N, bk := D.nx } σ2 H2)
/-- the records at fp as they stand -/
noncomputable def pinsAt (fp : List Addr) (h : Heap) : List (Addr × Obj) := fp.filterMap fun b => (h.get? b).map fun o => (b, o)
theorem mem_pinsAt {fp : List Addr} {h : Heap} {b : Addr} {o : Obj} (hb : b ∈ fp) (e : h.get? b = some o) : (b, o) ∈ pinsAt fp h := List.mem_filterMap.mpr ⟨b, hb, by rw [e]; rfl⟩
theorem of_pinsAt {fp : List Addr} {h : Heap} {p : Addr × Obj} (hp : p ∈ pinsAt fp h) : p.1 ∈ fp ∧ h.get? p.1 = some p.2 := by
  obtain ⟨b, hb, e⟩ := List.mem_filterMap.mp hp
  cases q : h.get? b with
  | none => rw [q] at e; cases e
  | some o =>
    rw [q] at e
    have e' : (b, o) = p := Option.some.inj e
    subst e'
    exact ⟨hb, q⟩
theorem Inv.pinned {pins : List (Addr × Obj)} {σ : St} {H : Hp} {s : Shared} {fp : List Addr} (I : Inv X pins σ H s) (hf : ∀ b ∈ fp, FpOk X pins H b) (ho : ∀ b ∈ fp, ∃ o, s.heap.get? b = some o ∧ ∀ v, o.data ≠ .cell v) : Inv X (pins ++ pinsAt fp s.heap) σ H s :=
  I.pins_of fun p hp => (List.mem_append.mp hp).elim (fun z => I.pin p (List.mem_append_right _ z)) fun z => by
    obtain ⟨hb, e⟩ := of_pinsAt z
    obtain ⟨f0, f1, f2, _⟩ := hf p.1 hb
    obtain ⟨o, e', d⟩ := ho p.1 hb
    rw [e] at e'; cases e'
    exact ⟨e, f0, f1, f2, d⟩
theorem Inv.unpinned {pins pl : List (Addr × Obj)} {σ : St} {H : Hp} {s : Shared} (I : Inv X (pins ++ pl) σ H s) : Inv X pins σ H s := I.pins_of fun p hp => I.pin p (List.mem_append_right _ (List.mem_append_left _ hp))
theorem ps_for {iter : Expr} {body : List Stmt} {wi : TI} {g : TG} {tb : TS} {pos : Pos} (hp : PassesOwn (model X.prog X.w) X.A X.env X.xe) (hc : X.calm = true) (hi : PI X tg iter wi) (hg : PG X tg g) (hb : PSs X body tb)
    (hs : ∀ x, foldedSetIterable iter X.env x = pure x := by intro _; rfl) : PS X (.For tg iter body [] pos) (tFor wi g tb) := by
  intro pins s σ H D I h
  refine wpAny_For (thn (hi pins s σ H _ I h) fun v s1 h1 => thn h1 fun itv s2 h2 => ?_) hs
  obtain ⟨it, fp, tn, J, H2, e, I2, T, st2, f2, W, ⟨m0, w0⟩, turn⟩ := h2
  subst e
  -- what stays true of the iterator's objects through the loop
  have stat : ∀ {H' : Hp}, (∀ b ∈ fp, H' b = none) → ∀ b ∈ fp, FpOk X pins H' b := fun hn b hb => ⟨hn b hb, (f2 b hb).2⟩
  refine codeAny_forLoop_any (fun n s' => ∃ i σ' H', Inv X pins σ' H' s' ∧ tn i s'.heap ∧ (∀ b ∈ fp, H' b = none) ∧ W i n σ' H') ?_ m0 ⟨0, σ, H2, I2, st2, fun b hb => (f2 b hb).1, w0⟩
  rintro n s3 ⟨i, σ3, H3, I3, st3, fr3, w3⟩
  rcases turn i n σ3 H3 w3 with ⟨stop, qn⟩ | ⟨go, N, hN, step⟩
  · refine wpAny_passesOwn hp (thn (T.done X rfl rfl rfl hc i pins s3 σ3 H3 X.xe I3 (stat fr3) st3 stop) fun r s4 ⟨hr, I4⟩ => ?_)
    subst hr
    exact wpAny_execs_nil ⟨σ3, H3, I4, qn⟩
  · refine wpAny_passesOwn hp (thn (T.item X rfl rfl rfl hc i pins s3 σ3 H3 X.xe I3 (stat fr3) st3 go) fun r s4 ⟨u, hr, h4⟩ => ?_)
    subst hr
    refine wpAny_passesOwn hp (thn h4 fun _ s5 ⟨x, H5, I5, r5, y5, st5, fr5⟩ => ?_)
    have I5' := I5.pinned (stat fr5) (T.obj _ _ st5)
    refine wpAny_passesOwn hp (thn (hg _ s5 σ3 H5 x u _ I5' r5 (step x H5 y5)) fun _ s6 ⟨σ6, H6, I6, q6⟩ => ?_)
    refine wpAny_passesOwn hp (thn (hb _ s6 σ6 H6 _ I6 q6) fun f s7 q7 => ?_)
    have again : ∀ {σ7 : St} {H7 : Hp}, Inv X (pins ++ pinsAt fp s5.heap) σ7 H7 s7 → N σ7 H7 → ∃ m, m < n ∧ ∃ i σ' H', Inv X pins σ' H' s7 ∧ tn i s7.heap ∧ (∀ b ∈ fp, H' b = none) ∧ W i m σ' H' := fun {σ7 H7} I7 n7 => by
      obtain ⟨m', hm, w7⟩ := hN σ7 H7 n7
      refine ⟨m', hm, i + 1, σ7, H7, I7.unpinned, T.keep _ _ _ st5 fun b hb o e => (I7.pin (b, o) (List.mem_append_right _ (List.mem_append_right _ (mem_pinsAt hb e)))).1, fun b hb => ?_, w7⟩
      obtain ⟨o, e, d⟩ := T.obj _ _ st5 b hb
      exact (I7.pin (b, o) (List.mem_append_right _ (List.mem_append_right _ (mem_pinsAt hb e)))).2.1
    cases f with
    | next => obtain ⟨σ7, H7, I7, n7⟩ := q7; exact again I7 n7
    | cont => obtain ⟨σ7, H7, I7, n7⟩ := q7; exact again I7 n7
    | brk => obtain ⟨σ7, H7, I7, q7⟩ := q7; exact ⟨σ7, H7, I7.unpinned, q7⟩
    | ret v => obtain ⟨x7, σ7, H7, I7, r7, q7⟩ := q7; exact ⟨x7, σ7, H7, I7.unpinned, r7, q7⟩
end

end L2

namespace L2
open PySem PySem.Spec PyProof.Rows

noncomputable abbrev R2 := V → V → Hp → VK → Prop
/-- a two-place operation on values: f is binaryOp op, inplaceOp op or compareOp op -/
noncomputable def OpR (X : Cx) (f : Value → Value → Sem Value) (r : R2) : Prop :=
  ∀ (pins : List (Addr × Obj)) (s : Shared) (σ : St) (H : Hp) (x y : V) (v u : Value) (Q : VK), Inv X pins σ H s → RelV x v → RelV y u → r x y H Q →
    wpAny (model X.prog X.w) X.A (f v u) (EP X pins σ Q) X.xe s
/-- a one-place operation -/
noncomputable def UnR (X : Cx) (f : Value → Sem Value) (r : V → Hp → VK → Prop) : Prop :=
  ∀ (pins : List (Addr × Obj)) (s : Shared) (σ : St) (H : Hp) (x : V) (v : Value) (Q : VK), Inv X pins σ H s → RelV x v → r x H Q →
    wpAny (model X.prog X.w) X.A (f v) (EP X pins σ Q) X.xe s
/-- a call of a value that is known (a builtin, a type) with values -/
noncomputable def CallR (X : Cx) (f : Value) (r : List V → Hp → VK → Prop) : Prop :=
  ∀ (pins : List (Addr × Obj)) (s : Shared) (σ : St) (H : Hp) (xs : List V) (us : List Value) (Q : VK), Inv X pins σ H s → Vals xs us → r xs H Q →
    wpAny (model X.prog X.w) X.A (call f us) (EP X pins σ Q) X.xe s
noncomputable def tOp (r : R2) (ta tb : TE) : TE := fun σ H Q => ta σ H fun x H1 => tb σ H1 fun y H2 => r x y H2 Q
noncomputable def tUn (r : V → Hp → VK → Prop) (ta : TE) : TE := fun σ H Q => ta σ H fun x H1 => r x H1 Q
/-- ints in, under C, and a value out -/
noncomputable def rI (C : Int → Int → Prop) (g : Int → Int → V) : R2 := fun x y H Q => ∃ i j, x = .int i ∧ y = .int j ∧ C i j ∧ Q (g i j) H
noncomputable def rI0 (g : Int → Int → V) : R2 := fun x y H Q => ∃ i j, x = .int i ∧ y = .int j ∧ Q (g i j) H
noncomputable def rU (g : Int → V) : V → Hp → VK → Prop := fun x H Q => ∃ i, x = .int i ∧ Q (g i) H

section
variable {X : Cx} {a b c : Expr} {ta tb tc : TE} {pos : Pos}

theorem binT (ha : PE X a ta) (hb : PE X b tb) {pins : List (Addr × Obj)} {s : Shared} {σ : St} {H : Hp} {R : V → V → Hp → Prop} (I : Inv X pins σ H s)
    (h : ta σ H fun x H1 => tb σ H1 fun y H2 => R x y H2) {Q : Value → Shared → Prop} {f : Value → Value → Sem Value}
    (hf : ∀ v u s2 x y H2, Inv X pins σ H2 s2 → RelV x v → RelV y u → R x y H2 → wpAny (model X.prog X.w) X.A (f v u) Q X.xe s2) :
    wpAny (model X.prog X.w) X.A (eval a X.env) (fun v s₁ => wpAny (model X.prog X.w) X.A (eval b X.env) (fun u s₂ => wpAny (model X.prog X.w) X.A (f v u) Q X.xe s₂) X.xe s₁) X.xe s := by
  refine thn (ha pins s σ H _ I h) fun v s1 ⟨x, H1, I1, r1, q1⟩ => ?_
  refine thn (hb pins s1 σ H1 _ I1 q1) fun u s2 ⟨y, H2, I2, r2, q2⟩ => ?_
  exact hf v u s2 x y H2 I2 r1 r2 q2

theorem pe_op {op : Operator} {r : R2} (ho : OpR X (binaryOp op) r) (ha : PE X a ta) (hb : PE X b tb) : PE X (.BinOp a op b pos) (tOp r ta tb) := by
  intro pins s σ H Q I h
  exact wpAny_BinOp (binT ha hb I h fun v u s2 x y H2 I2 rx ry q => ho pins s2 σ H2 x y v u Q I2 rx ry q)
theorem pe_un {op : UnaryOp} {r : V → Hp → VK → Prop} (ho : UnR X (unaryOp op) r) (ha : PE X a ta) : PE X (.UnaryOp op a pos) (tUn r ta) := by
  intro pins s σ H Q I h
  exact UnaryOp_ (thn (ha pins s σ H _ I h) fun v s1 ⟨x, H1, I1, r1, q1⟩ => ho pins s1 σ H1 x v Q I1 r1 q1)
theorem opI {f : Value → Value → Sem Value} {C : Int → Int → Prop} {g : Int → Int → Int}
    (rule : ∀ (i j : Int) (t u : Tok) (s : Shared) (Q : Value → Shared → Prop) (E : Value → Shared → Prop), C i j → Q (.int (g i j) s.toks) { s with toks := s.toks + 1 } → wpAny (model X.prog X.w) X.A (f (.int i t) (.int j u)) Q E s) :
    OpR X f (rI C fun i j => .int (g i j)) := by
  intro pins s σ H x y v u Q I rx ry h
  obtain ⟨i, j, rfl, rfl, hc, q⟩ := h
  obtain ⟨t, rfl⟩ := rx
  obtain ⟨t', rfl⟩ := ry
  exact rule i j t t' s _ _ hc ⟨.int (g i j), H, I.tok _, ⟨_, rfl⟩, q⟩
theorem opI0 {f : Value → Value → Sem Value} {g : Int → Int → Int}
    (rule : ∀ (i j : Int) (t u : Tok) (s : Shared) (Q : Value → Shared → Prop) (E : Value → Shared → Prop), Q (.int (g i j) s.toks) { s with toks := s.toks + 1 } → wpAny (model X.prog X.w) X.A (f (.int i t) (.int j u)) Q E s) :
    OpR X f (rI0 fun i j => .int (g i j)) := by
  intro pins s σ H x y v u Q I rx ry h
  obtain ⟨i, j, rfl, rfl, q⟩ := h
  obtain ⟨t, rfl⟩ := rx
  obtain ⟨t', rfl⟩ := ry
  exact rule i j t t' s _ _ ⟨.int (g i j), H, I.tok _, ⟨_, rfl⟩, q⟩
theorem opB0 {f : Value → Value → Sem Value} {g : Int → Int → Bool}
    (rule : ∀ (i j : Int) (t u : Tok) (s : Shared) (Q : Value → Shared → Prop) (E : Value → Shared → Prop), Q (.bool (g i j)) s → wpAny (model X.prog X.w) X.A (f (.int i t) (.int j u)) Q E s) :
    OpR X f (rI0 fun i j => .bl (g i j)) := by
  intro pins s σ H x y v u Q I rx ry h
  obtain ⟨i, j, rfl, rfl, q⟩ := h
  obtain ⟨t, rfl⟩ := rx
  obtain ⟨t', rfl⟩ := ry
  exact rule i j t t' s _ _ ⟨.bl (g i j), H, I, rfl, q⟩

noncomputable def CDiv (i j : Int) : Prop := 0 < j ∧ j < 1073741824
noncomputable def CPow (i j : Int) : Prop := 0 ≤ j ∧ j ≤ 1000000 ∧ i.natAbs < 2 ^ 64
noncomputable def CMul (i j : Int) : Prop := (-(2 ^ 64) < i ∧ i < 2 ^ 64) ∨ (-(2 ^ 64) < j ∧ j < 2 ^ 64)
theorem CMul.ok {i j : Int} (h : CMul i j) : IntMulOk i j := by
  rcases h with ⟨h1, h2⟩ | ⟨h1, h2⟩
  · exact .of_left (intBits_le_64 h1 h2)
  · exact .of_right (intBits_le_64 h1 h2)
theorem two_pow_nn (k : Nat) : (0 : Int) ≤ 2 ^ k := by
  rw [two_pow_cast]
  exact Int.natCast_nonneg _

theorem op_add : OpR X (binaryOp .Add) (rI0 fun i j => .int (i + j)) := opI0 fun _ _ _ _ _ _ _ q => add_int q
theorem op_sub : OpR X (binaryOp .Sub) (rI0 fun i j => .int (i - j)) := opI0 fun _ _ _ _ _ _ _ q => sub_int q
theorem op_modN : OpR X (binaryOp .Mod) (rI (fun _ j => j ≠ 0) fun i j => .int (i.fmod j)) := opI fun _ _ _ _ _ _ _ hc q => mod_int' hc q
theorem op_pow : OpR X (binaryOp .Pow) (rI CPow fun i j => .int (i ^ j.toNat)) := opI fun _ _ _ _ _ _ _ hc q => pow_int_small hc.1 hc.2.1 hc.2.2 q
theorem op_shr : OpR X (binaryOp .RShift) (rI (fun _ j => 0 ≤ j) fun i j => .int (i / 2 ^ j.toNat)) := opI fun i j _ _ _ _ _ hc q =>
  rshift_int hc (by rw [Int.fdiv_eq_ediv_of_nonneg i (two_pow_nn _)]; exact q)
theorem unI {f : Value → Sem Value} {g : Int → Int}
    (rule : ∀ (i : Int) (t : Tok) (s : Shared) (Q : Value → Shared → Prop) (E : Value → Shared → Prop), Q (.int (g i) s.toks) { s with toks := s.toks + 1 } → wpAny (model X.prog X.w) X.A (f (.int i t)) Q E s) :
    UnR X f (rU fun i => .int (g i)) := by
  intro pins s σ H x v Q I rx h
  obtain ⟨i, rfl, q⟩ := h
  obtain ⟨t, rfl⟩ := rx
  exact rule i t s _ _ ⟨.int (g i), H, I.tok _, ⟨_, rfl⟩, q⟩
theorem un_neg : UnR X (unaryOp .USub) (rU fun i => .int (-i)) := unI fun _ _ _ _ _ q => neg_int q
end

/-- the scalars that == tells apart as data does -/
noncomputable def scal : V → V → Bool
  | .non, .non => true | .non, .int _ => true | .int _, .non => true | .non, .bl _ => true | .bl _, .non => true | .non, .str _ => true | .str _, .non => true
  | .int _, .int _ => true | .bl _, .bl _ => true | .str _, .str _ => true | .byt _, .byt _ => true
  | .int _, .str _ => true | .str _, .int _ => true | .bl _, .str _ => true | .str _, .bl _ => true
  | _, _ => false
noncomputable def rEq : R2 := fun x y H Q => scal x y = true ∧ Q (.bl (decide (x = y))) H
noncomputable def rNe : R2 := fun x y H Q => scal x y = true ∧ Q (.bl (!decide (x = y))) H

theorem dec_int {i j : Int} : decide (V.int i = V.int j) = (i == j) := by
  rw [Bool.eq_iff_iff]
  simp
theorem dec_bl {i j : Bool} : decide (V.bl i = V.bl j) = (i == j) := by
  rw [Bool.eq_iff_iff]
  simp
theorem dec_str {i j : Str} : decide (V.str i = V.str j) = (i == j) := by
  rw [Bool.eq_iff_iff]
  simp
theorem dec_byt {i j : Array UInt8} : decide (V.byt i = V.byt j) = (i.toList == j.toList) := by
  rw [Bool.eq_iff_iff]
  cases i
  cases j
  simp

section
variable {X : Cx} {a b c : Expr} {ta tb tc : TE} {pos : Pos}
theorem fin_bl {pins : List (Addr × Obj)} {σ : St} {H : Hp} {s : Shared} {Q : VK} {k k' : Bool} (I : Inv X pins σ H s) (q : Q (.bl k) H) (e : k = k') : EP X pins σ Q (.bool k') s := by
  subst e
  exact ⟨.bl k, H, I, rfl, q⟩
theorem op_eq : OpR X (compareOp .Eq) rEq := by
  intro pins s σ H x y v u Q I rx ry h
  obtain ⟨hs, q⟩ := h
  cases x with
  | non =>
    cases rx
    cases y with
    | non => cases ry; exact PySem.EqNone.eq_none_none (fin_bl I q (by simp))
    | bl j => cases ry; exact PySem.EqNone.eq_none_bool (fin_bl I q (by simp))
    | int j => obtain ⟨t', rfl⟩ := ry; exact PySem.EqNone.eq_none_int (fin_bl I q (by simp))
    | str j => obtain ⟨t', rfl⟩ := ry; exact PySem.EqNone.eq_none_str (fin_bl I q (by simp))
    | _ => exact absurd (show false = true from hs) Bool.false_ne_true
  | bl i =>
    cases rx
    cases y with
    | non => cases ry; exact PySem.EqNone.eq_bool_none (fin_bl I q (by simp))
    | bl j => cases ry; exact eq_bool (fin_bl I q dec_bl)
    | str j => obtain ⟨t', rfl⟩ := ry; exact PySem.EqMixed.eq_bool_str (fin_bl I q (by simp))
    | _ => exact absurd (show false = true from hs) Bool.false_ne_true
  | int i =>
    obtain ⟨t, rfl⟩ := rx
    cases y with
    | non => cases ry; exact PySem.EqNone.eq_int_none (fin_bl I q (by simp))
    | int j => obtain ⟨t', rfl⟩ := ry; exact eq_int (fin_bl I q dec_int)
    | str j => obtain ⟨t', rfl⟩ := ry; exact PySem.EqMixed.eq_int_str (fin_bl I q (by simp))
    | _ => exact absurd (show false = true from hs) Bool.false_ne_true
  | str i =>
    obtain ⟨t, rfl⟩ := rx
    cases y with
    | non => cases ry; exact PySem.EqNone.eq_str_none (fin_bl I q (by simp))
    | bl j => cases ry; exact PySem.EqMixed.eq_str_bool (fin_bl I q (by simp))
    | int j => obtain ⟨t', rfl⟩ := ry; exact PySem.EqMixed.eq_str_int (fin_bl I q (by simp))
    | str j => obtain ⟨t', rfl⟩ := ry; exact eq_str (fin_bl I q dec_str)
    | _ => exact absurd (show false = true from hs) Bool.false_ne_true
  | byt i =>
    obtain ⟨t, rfl⟩ := rx
    cases y with
    | byt j => obtain ⟨t', rfl⟩ := ry; exact PySem.W.eq_bytes (fin_bl I q dec_byt)
    | _ => exact absurd (show false = true from hs) Bool.false_ne_true
  | _ => cases y <;> exact absurd (show false = true from hs) Bool.false_ne_true
theorem op_ne : OpR X (compareOp .NotEq) rNe := by
  intro pins s σ H x y v u Q I rx ry h
  obtain ⟨hs, q⟩ := h
  cases x with
  | non =>
    cases rx
    cases y with
    | non => cases ry; exact PySem.EqNone.ne_none_none (fin_bl I q (by simp))
    | bl j => cases ry; exact PySem.EqNone.ne_none_bool (fin_bl I q (by simp))
    | int j => obtain ⟨t', rfl⟩ := ry; exact PySem.EqNone.ne_none_int (fin_bl I q (by simp))
    | str j => obtain ⟨t', rfl⟩ := ry; exact PySem.EqNone.ne_none_str (fin_bl I q (by simp))
    | _ => exact absurd (show false = true from hs) Bool.false_ne_true
  | bl i =>
    cases rx
    cases y with
    | non => cases ry; exact PySem.EqNone.ne_bool_none (fin_bl I q (by simp))
    | bl j => cases ry; exact ne_bool (fin_bl I q (congrArg not dec_bl))
    | str j => obtain ⟨t', rfl⟩ := ry; exact PySem.EqMixed.ne_bool_str (fin_bl I q (by simp))
    | _ => exact absurd (show false = true from hs) Bool.false_ne_true
  | int i =>
    obtain ⟨t, rfl⟩ := rx
    cases y with
    | non => cases ry; exact PySem.EqNone.ne_int_none (fin_bl I q (by simp))
    | int j => obtain ⟨t', rfl⟩ := ry; exact ne_int (fin_bl I q (congrArg not dec_int))
    | str j => obtain ⟨t', rfl⟩ := ry; exact PySem.EqMixed.ne_int_str (fin_bl I q (by simp))
    | _ => exact absurd (show false = true from hs) Bool.false_ne_true
  | str i =>
    obtain ⟨t, rfl⟩ := rx
    cases y with
    | non => cases ry; exact PySem.EqNone.ne_str_none (fin_bl I q (by simp))
    | bl j => cases ry; exact PySem.EqMixed.ne_str_bool (fin_bl I q (by simp))
    | int j => obtain ⟨t', rfl⟩ := ry; exact PySem.EqMixed.ne_str_int (fin_bl I q (by simp))
    | str j => obtain ⟨t', rfl⟩ := ry; exact ne_str (fin_bl I q (congrArg not dec_str))
    | _ => exact absurd (show false = true from hs) Bool.false_ne_true
  | byt i =>
    obtain ⟨t, rfl⟩ := rx
    cases y with
    | byt j => obtain ⟨t', rfl⟩ := ry; exact PySem.W.ne_bytes (fin_bl I q (congrArg not dec_byt))
    | _ => exact absurd (show false = true from hs) Bool.false_ne_true
  | _ => cases y <;> exact absurd (show false = true from hs) Bool.false_ne_true

theorem op_lt : OpR X (compareOp .Lt) (rI0 fun i j => .bl (decide (i < j))) := opB0 fun _ _ _ _ _ _ _ q => lt_int q
theorem op_le : OpR X (compareOp .LtE) (rI0 fun i j => .bl (decide (i ≤ j))) := opB0 fun _ _ _ _ _ _ _ q => le_int q
theorem op_gt : OpR X (compareOp .Gt) (rI0 fun i j => .bl (decide (j < i))) := opB0 fun _ _ _ _ _ _ _ q => gt_int q
/-- is None, is not None: the right side a value none -/
theorem op_isN : OpR X (compareOp .Is) (fun x y H Q => y = .non ∧ Q (.bl (decide (x = .non))) H) := by
  intro pins s σ H x y v u Q I rx ry h
  obtain ⟨rfl, q⟩ := h
  cases ry
  refine is_none_gen (fin_bl I q ?_)
  cases x <;> first
    | (cases rx; rfl)
    | (obtain ⟨t, rfl⟩ := rx; rfl)
/-- is, is not of two objects that are tracked lists or instances -/
noncomputable def isObj : HO → Bool
  | .lst _ => true
  | .ins _ _ _ => true
  | _ => false
/-- two rules for one operation: by cases -/
theorem OpR.or {f : Value → Value → Sem Value} {r r' : R2} (h : OpR X f r) (h' : OpR X f r') : OpR X f (fun x y H Q => r x y H Q ∨ r' x y H Q) := by
  intro pins s σ H x y v u Q I rx ry q
  rcases q with q | q
  · exact h pins s σ H x y v u Q I rx ry q
  · exact h' pins s σ H x y v u Q I rx ry q

theorem nomark (b : Expr) {op : CmpOp} (h : op ≠ .In := by decide) (h2 : op ≠ .NotIn := by decide) : behindInMarks op b = false := by
  have e1 : (op == CmpOp.In) = false := by cases op <;> first | rfl | exact absurd rfl h
  have e2 : (op == CmpOp.NotIn) = false := by cases op <;> first | rfl | exact absurd rfl h2
  cases b <;> simp [behindInMarks, e1, e2]
/-- a comparison as a value; hm: nomark b, or (for in, not in) by with_unfolding_all rfl -/
theorem pe_cmpR {op : CmpOp} {r : R2} (ho : OpR X (compareOp op) r) (ha : PE X a ta) (hb : PE X b tb) (hm : behindInMarks op b = false) : PE X (.Compare a [op] [b] pos) (tOp r ta tb) := by
  intro pins s σ H Q I h
  exact wpAny_Compare1 (binT ha hb I h fun v u s2 x y H2 I2 rx ry q => ho pins s2 σ H2 x y v u Q I2 rx ry q) hm
/-- a reading of a value as a test -/
noncomputable def tTest (t : TE) : TT := fun σ H Q => t σ H fun x H' => ∃ k, x = .bl k ∧ Q k H'
theorem pt_cmpR {op : CmpOp} {r : R2} (ho : OpR X (compareOp op) r) (ha : PE X a ta) (hb : PE X b tb) (hm : behindInMarks op b = false) : PT X (.Compare a [op] [b] pos) (tTest (tOp r ta tb)) := by
  intro pins s σ H Q I h
  refine wpAny_isTrue_Compare1 (thn (ha pins s σ H _ I h) fun v s1 ⟨x, H1, I1, r1, q1⟩ => thn (hb pins s1 σ H1 _ I1 q1) fun u s2 ⟨y, H2, I2, r2, q2⟩ =>
    thn (ho pins s2 σ H2 x y v u _ I2 r1 r2 q2) fun c s3 ⟨z, H3, I3, r3, k, e, q3⟩ => ?_) hm
  subst e
  cases r3
  exact wpAny_truthy_bool ⟨H3, I3, q3⟩
theorem line63 : (sizeLine : Nat) < 2 ^ 63 := by rw [sizeLine_eq]; decide
theorem op_add_str : OpR X (binaryOp .Add) (fun x y H Q => ∃ i j, x = .str i ∧ y = .str j ∧ i.length + j.length ≤ sizeLine ∧ Q (.str (i ++ j)) H) := by
  intro pins s σ H x y v u Q I rx ry h
  obtain ⟨i, j, rfl, rfl, hz, q⟩ := h
  obtain ⟨t, rfl⟩ := rx
  obtain ⟨t', rfl⟩ := ry
  exact add_str (fun t' tk => ⟨.str (i ++ j), H, I.tok _, ⟨_, rfl⟩, q⟩) hz
theorem vals1 {x : V} {us : List Value} (r : Vals [x] us) : ∃ u, us = [u] ∧ RelV x u := by
  cases r with
  | cons r1 r2 => cases r2; exact ⟨_, rfl, r1⟩
theorem vals2 {x y : V} {us : List Value} (r : Vals [x, y] us) : ∃ u w', us = [u, w'] ∧ RelV x u ∧ RelV y w' := by
  cases r with
  | cons r1 r2 =>
    cases r2 with
    | cons r3 r4 => cases r4; exact ⟨_, _, rfl, r1, r3⟩
theorem call_abs : CallR X (.builtin "abs") (fun xs H Q => ∃ i, xs = [.int i] ∧ Q (.int (if i < 0 then -i else i)) H) := by
  intro pins s σ H xs us Q I r h
  obtain ⟨i, rfl, q⟩ := h
  obtain ⟨u, rfl, t, rfl⟩ := vals1 r
  exact call_abs_int fun u tk => ⟨.int (if i < 0 then -i else i), H, I.tok _, ⟨_, rfl⟩, q⟩
end
end L2

namespace L2
open PySem PySem.Spec PyProof.Rows

structure ObjM (h : Heap) (x dx C : Addr) (mA : Str → Option Value) : Prop where
  obj : h.get? x = some (PySem.W.instObj C dx)
  ns : h.Ns1 dx mA
  ne : dx ≠ x

theorem lookIn_ns {h : Heap} {dx : Addr} {mA : Str → Option Value} (n : h.Ns1 dx mA) : ∃ od, h.get? dx = some od ∧ ∀ name, PySem.W.lookIn name od = some (mA name) := by
  obtain ⟨o, es, ep, ho, hd, hk, _, hm⟩ := n
  refine ⟨o, ho, fun name => ?_⟩
  have e := hm name
  unfold nsFind findBy at e
  rw [← Array.find?_toList] at e
  unfold PySem.W.lookIn
  rw [hd]
  dsimp only
  split
  · rename_i y q
    rw [q] at e
    exact congrArg some e
  · rename_i q
    rw [q] at e
    have a : es.toList.any (·.refKey) = false := by
      rw [List.any_eq_false]
      intro y hy
      obtain ⟨z, t, hkey⟩ := hk y (Array.mem_toList_iff.mp hy)
      simp [DictEntry.refKey, hkey]
    have a' : ¬ es.toList.any (·.refKey) = true := by rw [a]; exact Bool.false_ne_true
    rw [if_neg a']
    exact congrArg some e

theorem ObjM.look {h : Heap} {x dx C : Addr} {mA : Str → Option Value} (I : ObjM h x dx C mA) : ∃ od, PySem.W.InstAt h x (PySem.W.instObj C dx) C (some od) ∧ ∀ name, PySem.W.lookIn name od = some (mA name) :=
  let ⟨od, ho, hl⟩ := lookIn_ns I.ns
  ⟨od, ⟨I.obj, rfl, rfl, ho⟩, hl⟩

section
variable {prog : Program} {w : World} {A : Around} {E : Value → Shared → Prop} {s : Shared} {K : PySem.W.Frag} {x dx C f : Addr} {mA : Str → Option Value} {name : Str} {v : Value}

theorem get_meth {pl : Sem Bool} {Q : Value × List Value → Shared → Prop} (X : K.In s.heap) (I : ObjM s.heap x dx C mA) (hg : PySem.W.plainGet K C name = true)
    (hf : PySem.W.findIn K (.ref C) name = some (some (.ref f))) (ht : PySem.W.isFn K (.ref f) = true) (hv : mA name = none) (h : Q (.ref f, [.ref x]) s) :
    wpAny (model prog w) A (getMethod (.ref x) name pl) Q E s := by
  obtain ⟨od, J, hl⟩ := I.look
  exact PySem.W.method_fn X J (PySem.W.plainGet_of hg).1 (PySem.W.plainGet_of hg).2 hf (beq_iff_eq.mp ht) (by show (PySem.W.lookIn name od).map (·.isSome) = some false; rw [hl, hv]; rfl) h

/-- C(..): the dict at the heap's end, the instance behind it; then its __init__ -/
theorem make_map {R : Result → Shared → Prop} {vs : List Value} {kw : List (Str × Value)} (X : K.In s.heap) (hm : PySem.W.makesIn K C = true)
    (hi : PySem.W.findIn K (.ref C) "__init__" = some (some (.ref f))) (hf : PySem.W.typeIn K (.ref f) = some (.type "function"))
    (h : codeAny (model prog w) (A.under (.builtin "type.__call__" ⟨.ref C :: vs, kw⟩)) (.call (.ref f) ⟨.ref (s.heap.objs.size + 1) :: vs, kw⟩) (PySem.W.InitBack (s.heap.objs.size + 1) R)
      { s with heap := (s.heap.push PySem.W.emptyDict).push (PySem.W.instObj C s.heap.objs.size) }) :
    codeAny (model prog w) A (.call (.ref C) ⟨vs, kw⟩) R s := by
  obtain ⟨hh, g, d, t, os⟩ := s
  exact PySem.W.make_core (PySem.W.makes_of X hm) (PySem.W.looks_findIn X hi) (fun self => PySem.W.bind_fn X self hf) (.inl rfl) h
end

theorem RelO.none_of {o : Option Value} (r : RelO none o) : o = none := by
  cases o with
  | none => rfl
  | some u => exact (show False from r).elim
section
variable {P : Program} {w : World} {H H' : Hp} {h h' : Heap} {a C dx : Addr} {fs fs' : List (Str × V)}
theorem ins_get (hok : HOk P w H h) (e : H a = some (.ins C dx fs)) : ∃ mA, ObjM h a dx C mA ∧ (∀ f, RelO (fs.lookup f) (mA f)) ∧ PySem.Within mA (fs.map (·.1)) ∧ fs.length ≤ 1000 ∧ H dx = some (.own a) := by
  obtain ⟨d, z, ne, ob, mA, n, r, q⟩ := (show ObjOk P w H h a (.ins C dx fs) from hok a _ e)
  exact ⟨mA, ⟨ob, n, ne⟩, r, q, z, d⟩
end

structure Cls (K : PySem.W.Frag) (C : Addr) : Prop where
  pg : PySem.W.plainGet K C Str.empty = true
  hd : PySem.W.hasDictIn K C = true
  po : PySem.W.plainOver K C = true
  sa : PySem.W.findIn K (.ref C) "__setattr__" = some (some (.builtin "object.__setattr__"))
theorem Cls.get {K : PySem.W.Frag} {C : Addr} (c : Cls K C) (f : Str) : PySem.W.plainGet K C f = true := c.pg
/-- no class of it has the name -/
noncomputable def NoAttr (K : PySem.W.Frag) (C : Addr) (f : Str) : Prop := PySem.W.findIn K (.ref C) f = some none
/-- a constant of the class -/
structure Con (K : PySem.W.Frag) (C : Addr) (f : Str) (v : V) (u : Value) : Prop where
  at_ : PySem.W.findIn K (.ref C) f = some (some u)
  rel : RelV v u
  get : PySem.W.specialIn K u "__get__" = some none
  cp : PySem.W.copiedNames.contains f = false
/-- a method: a plain def of the class or of one above it -/
structure Meth (K : PySem.W.Frag) (C : Addr) (m : Str) (f : Addr) : Prop where
  at_ : PySem.W.findIn K (.ref C) m = some (some (.ref f))
  fn : PySem.W.isFn K (.ref f) = true
  kp : PySem.W.keepIn K (.ref f) = true

section
variable {X : Cx} {pins : List (Addr × Obj)} {σ : St} {H : Hp} {s : Shared} {a C dx : Addr} {fs : List (Str × V)} {f : Str} {v : V} {A : Around} {E : Value → Shared → Prop}

theorem getmeth_ok {m : Str} {g : Addr} {pl : Sem Bool} {Q : Value × List Value → Shared → Prop} (I : Inv X pins σ H s) (e : H a = some (.ins C dx fs)) (c : Cls X.K C) (k : Meth X.K C m g) (l : fs.lookup m = none)
    (h : Q (.ref g, [.ref a]) s) : wpAny (model X.prog X.w) A (getMethod (.ref a) m pl) Q E s := by
  obtain ⟨mA, O, r, _, _, _⟩ := ins_get I.hok e
  have hn : mA m = none := RelO.none_of (by rw [← l]; exact r m)
  exact get_meth I.kIn O (c.get m) k.at_ k.fn hn h

/-- a new instance, tracked, without attributes -/
theorem Inv.made (I : Inv X pins σ H s) : Inv X pins σ (upd (upd H s.heap.objs.size (.own (s.heap.objs.size + 1))) (s.heap.objs.size + 1) (.ins C s.heap.objs.size []))
    { s with heap := (s.heap.push PySem.W.emptyDict).push (PySem.W.instObj C s.heap.objs.size) } := by
  have e1 : (s.heap.push PySem.W.emptyDict).get? s.heap.objs.size = some PySem.W.emptyDict := Heap.get?_push_size s.heap rfl
  have e2 : ((s.heap.push PySem.W.emptyDict).push (PySem.W.instObj C s.heap.objs.size)).get? (s.heap.objs.size + 1) = some (PySem.W.instObj C s.heap.objs.size) := by
    have := Heap.get?_push_size (s.heap.push PySem.W.emptyDict) (o := PySem.W.instObj C s.heap.objs.size) rfl
    rwa [Heap.size_push] at this
  have e3 : (s.heap.push PySem.W.emptyDict).Ns s.heap.objs.size (fun _ => none) := ⟨PySem.W.emptyDict, #[], _, e1, rfl, (fun e he => absurd he (by simp)), fun _ => rfl⟩
  have I1 := I.laid (a := s.heap.objs.size) (o := .own (s.heap.objs.size + 1)) (h' := s.heap.push PySem.W.emptyDict) (t' := s.toks) (fun b u q => Heap.get?_push_of_some _ q) (Nat.le_refl _) ⟨_, e1⟩
  refine I1.laid (a := s.heap.objs.size + 1) (o := .ins C s.heap.objs.size []) (t' := s.toks) (fun b u q => Heap.get?_push_of_some _ q) (Nat.le_of_eq (Heap.size_push _ _)) ?_
  have ne : s.heap.objs.size ≠ s.heap.objs.size + 1 := Nat.ne_of_lt (Nat.lt_succ_self _)
  refine ⟨by rw [upd_ne ne, upd_same], Nat.zero_le _, ne, e2, fun _ => none, (Heap.Ns1.of_empty e3).at fun o q => Heap.get?_push_of_some _ q, fun _ => True.intro, fun y hy => absurd rfl hy⟩

end

/-- e.f, an attribute of the instance -/
noncomputable def tFld (K : PySem.W.Frag) (ta : TE) (f : Str) : TE := fun σ H Q => ta σ H fun x H1 => ∃ a C dx fs v, x = .ref a ∧ H1 a = some (.ins C dx fs) ∧ Cls K C ∧ NoAttr K C f ∧ fs.lookup f = some v ∧ Q v H1
section
variable {X : Cx} {o e value : Expr} {f : Str} {pos pos' tpos : Pos} {ta tv : TE}
/-- what is between an instance and its method: the tree of a method call -/
theorem methcall_of {pl : Sem Bool} {m : Str} {apos : Pos} {args : List Expr} {pins : List (Addr × Obj)} {s : Shared} {σ : St} {H : Hp} {Q : Value → Shared → Prop} {te : TE} (he : PE X e te) (I : Inv X pins σ H s)
    (h : te σ H fun x H1 => ∃ a C dx fs g, x = .ref a ∧ H1 a = some (.ins C dx fs) ∧ Cls X.K C ∧ Meth X.K C m g ∧ fs.lookup m = none ∧
      ∀ s1, Inv X pins σ H1 s1 → wpAny (model X.prog X.w) X.A (callWith pos (.ref g) [.ref a] (backTo pos (starEach args X.env)) (backToKw pos (keywordEach [] X.env))) Q X.xe s1)
    (ht : eval (.Call (.Attribute e m apos) args [] pos) X.env = (do
      let ov ← eval e X.env
      standAt apos.atName
      let (f, first) ← holding [ov] (getMethod ov m pl)
      callWith pos f first (backTo pos (starEach args X.env)) (backToKw pos (keywordEach [] X.env)))) :
    wpAny (model X.prog X.w) X.A (eval (.Call (.Attribute e m apos) args [] pos) X.env) Q X.xe s := by
  refine PySem.W.methodCall_KW (pl := pl) (thn (he pins s σ H _ I h) fun u s1 ⟨x, H1, I1, rx, a, C, dx, fs, g, ex, ea, c, k, l, q⟩ => ?_) ht
  subst ex
  obtain rfl : u = Value.ref a := rx
  exact getmeth_ok I1 ea c k l (q s1 I1)
end

section
variable {X : Cx} {pins : List (Addr × Obj)} {σ : St} {H : Hp} {s : Shared} {A : Around} {E : Value → Shared → Prop} {Q : Value → Shared → Prop} {c : Value} {b : Bool}
/-- the type of a value, as the fragment's deciders take it; for an instance its class -/
inductive TyOf (K : PySem.W.Frag) (H : Hp) : V → Value → Prop where
  | non : TyOf K H .non (.type "NoneType")
  | bl (x : Bool) : TyOf K H (.bl x) (.type "bool")
  | int (i : Int) : TyOf K H (.int i) (.type "int")
  | str (x : Str) : TyOf K H (.str x) (.type "str")
  | flt (x : UInt64) : TyOf K H (.flt x) (.type "float")
  | lst {a : Addr} {xs : List V} (e : H a = some (.lst xs)) : TyOf K H (.ref a) (.type "list")
  | frz {a : Addr} {o : Obj} {xs : List V} (e : H a = some (.frz o (.lst xs))) : TyOf K H (.ref a) (.type "list")
  | tup {a : Addr} {xs : List V} (e : H a = some (.tup xs)) : TyOf K H (.ref a) (.type "tuple")
  | dK {a : Addr} {kvs : List (Key × V)} (e : H a = some (.dK kvs)) : TyOf K H (.ref a) (.type "dict")
  | dT {a : Addr} {kvs : List (List Key × V)} (e : H a = some (.dT kvs)) : TyOf K H (.ref a) (.type "dict")
  | ins {a C dx : Addr} {fs : List (Str × V)} (e : H a = some (.ins C dx fs)) (cl : Cls K C) (ha : PySem.W.findIn K (.ref C) "__class__" = some (some (.builtin "object.__class__")))
      (hn : PySem.W.specialIn K (.builtin "object.__class__") "__get__" = some (some (.builtin "getset_descriptor.__get__"))) (htk : PySem.W.takesIn K (.builtin "object.__class__") = some true)
      (hm : PySem.W.mroIn K C (.type "object") = some true) : TyOf K H (.ref a) (.ref C)
/-- isinstance(x, c) for one class c, a built-in or an own one: kitOne's answer -/
theorem isinst_ok {x : V} {u t : Value} (I : Inv X pins σ H s) (rx : RelV x u) (ty : TyOf X.K H x t) (e : PySem.W.kitOne X.K t c = some b) (h : ∀ tk, Q (.bool b) { s with toks := tk }) :
    wpAny (model X.prog X.w) A (call (.builtin "isinstance") [u, c]) Q E s := by
  cases ty with
  | non => cases (show u = Value.none from rx); exact PySem.W.kia_one PySem.W.kitx_none I.kIn True.intro e (fun z => nomatch z) h
  | bl y => cases (show u = Value.bool y from rx); exact PySem.W.kia_one PySem.W.kitx_bool I.kIn True.intro e (fun z => nomatch z) h
  | int i => obtain ⟨t, q⟩ := (show ∃ t, u = Value.int i t from rx); cases q; exact PySem.W.kia_one PySem.W.kitx_int I.kIn True.intro e (fun z => nomatch z) h
  | str y => obtain ⟨t, q⟩ := (show ∃ t, u = Value.str y t from rx); cases q; exact PySem.W.kia_one PySem.W.kitx_str I.kIn True.intro e (fun z => nomatch z) h
  | flt y => obtain ⟨t, q⟩ := (show ∃ t, u = Value.float y t from rx); cases q; exact PySem.W.kia_one PySem.W.kitx_float I.kIn True.intro e (fun z => nomatch z) h
  | @lst a xs ea =>
    cases (show u = Value.ref a from rx)
    obtain ⟨_, _, n, _, h1⟩ := (show ObjOk X.prog X.w H s.heap a (.lst xs) from I.hok a _ ea)
    exact PySem.W.kia_one PySem.W.kitx_list I.kIn ⟨_, h1, rfl⟩ e (fun z => nomatch z) h
  | @frz a ob xs ea =>
    cases (show u = Value.ref a from rx)
    obtain ⟨_, _, _, n, _, h1⟩ := (show ObjOk X.prog X.w H s.heap a (.frz ob (.lst xs)) from I.hok a _ ea)
    exact PySem.W.kia_one PySem.W.kitx_list I.kIn ⟨_, h1, rfl⟩ e (fun z => nomatch z) h
  | @tup a xs ea =>
    cases (show u = Value.ref a from rx)
    obtain ⟨_, _, _, p⟩ := (show ObjOk X.prog X.w H s.heap a (.tup xs) from I.hok a _ ea)
    obtain ⟨o, h1, h2, _⟩ := p
    exact PySem.W.kia_one PySem.W.kitx_tuple I.kIn ⟨o, h1, h2⟩ e (fun z => nomatch z) h
  | @dK a kvs ea =>
    cases (show u = Value.ref a from rx)
    obtain ⟨_, _, vs, _, p⟩ := (show ObjOk X.prog X.w H s.heap a (.dK kvs) from I.hok a _ ea)
    obtain ⟨o, es, ep, h1, h2, _⟩ := p
    exact PySem.W.kia_one PySem.W.kitx_dict I.kIn ⟨o, h1, h2.1⟩ e (fun z => nomatch z) h
  | @dT a kvs ea =>
    cases (show u = Value.ref a from rx)
    obtain ⟨_, _, xs, _, o, es, ep, h1, h2, _⟩ := (show ObjOk X.prog X.w H s.heap a (.dT kvs) from I.hok a _ ea)
    exact PySem.W.kia_one PySem.W.kitx_dict I.kIn ⟨o, h1, h2.1⟩ e (fun z => nomatch z) h
  | @ins a C dx fs ea cl ha hn htk hm =>
    cases (show u = Value.ref a from rx)
    obtain ⟨mA, O, _⟩ := ins_get I.hok ea
    obtain ⟨od, J, _⟩ := O.look
    exact PySem.W.kia_one (PySem.W.kitx_own (cl.get _) cl.hd ha hn htk hm) I.kIn J e (fun z => nomatch z) h
end
end L2

namespace L2
open PySem PySem.Spec PyProof.Rows

structure Room (k : Nat) (A : Around) : Prop where
  hd : A.handled = none
  dp : A.depth + 3 * k + 5 < recursionLimit
  un : A.units + 16 * k + 200 < cLine
theorem Room.mono {j k : Nat} {A : Around} (r : Room k A) (h : j ≤ k) : Room j A := ⟨r.hd, by have := r.dp; omega, by have := r.un; omega⟩
theorem Room.deeper {k : Nat} {A : Around} (r : Room (k + 1) A) (env : Env) : Room k (A.deeper env) :=
  ⟨r.hd, by have := r.dp; show A.depth + 1 + 3 * k + 5 < _; omega, by have := r.un; show A.units + 3 + 16 * k + 200 < _; omega⟩
theorem Room.in1 {k : Nat} {A : Around} (r : Room (k + 1) A) : Room k A.in1 :=
  ⟨r.hd, by have := r.dp; show A.depth + 3 * k + 5 < _; omega, by have := r.un; show A.units + 1 + 16 * k + 200 < _; omega⟩
theorem Room.depth {k : Nat} {A : Around} (r : Room k A) : A.depth < recursionLimit := by have := r.dp; omega
theorem Room.units {k : Nat} {A : Around} (r : Room k A) : A.units + 64 < cLine := by have := r.un; omega
noncomputable def tNil : TA := fun _ H Q => Q [] H
noncomputable def tCons (ta : TE) (tr : TA) : TA := fun σ H Q => ta σ H fun x H1 => tr σ H1 fun xs H2 => Q (x :: xs) H2
section
variable {X : Cx} {e : Expr} {es : List Expr} {te : TE} {t : TA} {pos : Pos}
theorem pa_nil : PA X [] tNil := fun _ _ _ _ H Q I h => Calls.spliced_nil ⟨[], H, I, .nil, h⟩
theorem pa_cons (ha : PE X e te) (hr : PA X es t) (hs : starEach (e :: es) X.env = (false, eval e X.env) :: starEach es X.env := by rfl) : PA X (e :: es) (tCons te t) := by
  intro pos pins s σ H Q I h
  rw [hs]
  show wpAny _ _ (spliced ((false, eval e X.env) :: backTo pos (starEach es X.env))) _ _ s
  refine Calls.spliced_cons (thn (ha pins s σ H _ I h) fun u s1 ⟨x, H1, I1, r1, q1⟩ => ?_)
  exact thn (hr pos pins s1 σ H1 _ I1 q1) fun us s2 ⟨xs, H2, I2, r2, q2⟩ => ⟨x :: xs, H2, I2, .cons r1 r2, q2⟩

/-- a tuple, a list of written items -/
noncomputable def tTup (t : TA) : TE := fun σ H Q => t σ H fun xs H1 => xs.length ≤ sizeLine ∧ ∀ p, H1 p = none → Q (.ref p) (upd H1 p (.tup xs))
noncomputable def tLst (t : TA) : TE := fun σ H Q => t σ H fun xs H1 => xs.length ≤ sizeLine ∧ ∀ p, H1 p = none → Q (.ref p) (upd H1 p (.lst xs))
theorem pe_tup {x1} (h : PA X es t) : PE X (.Tuple es x1 pos) (tTup t) := by
  intro pins s σ H Q I hq
  refine wpAny_Tuple_spliced (thn (h pos pins s σ H _ I hq) fun us s1 ⟨xs, H1, I1, r, z, q⟩ => ⟨by rw [← r.length]; exact z, ?_⟩)
  have hf : H1 s1.heap.objs.size = none := I1.hok.fresh (Nat.le_refl _)
  refine ⟨.ref s1.heap.objs.size, upd H1 s1.heap.objs.size (.tup xs), I1.laid (t' := s1.toks) (fun b u e => Heap.get?_push_of_some _ e) (Nat.le_refl _) ?_, rfl, q _ hf⟩
  exact ⟨z, us, r, ⟨_, Heap.get?_push_size _ rfl, rfl, _, rfl⟩⟩
theorem pe_lst (h : PA X es t) : PE X (.List es pos) (tLst t) := by
  intro pins s σ H Q I hq
  refine wpAny_List_spliced (thn (h pos pins s σ H _ I hq) fun us s1 ⟨xs, H1, I1, r, z, q⟩ => ⟨by rw [← r.length]; exact z, ?_⟩)
  have hf : H1 s1.heap.objs.size = none := I1.hok.fresh (Nat.le_refl _)
  refine ⟨.ref s1.heap.objs.size, upd H1 s1.heap.objs.size (.lst xs), I1.laid (t' := s1.toks) (fun b u e => Heap.get?_push_of_some _ e) (Nat.le_refl _) ?_, rfl, q _ hf⟩
  exact ⟨z, us, 0, r, Heap.get?_push_size _ rfl⟩
end

/-- a def's promise: the bound arguments in the parameters' order, the heap, the wanted end, the wanted exception -/
noncomputable abbrev Sp := List V → Hp → VK → XK → Prop
/-- how an exception lies behind a call (file 08 gives it): the callers' frames, abstract heap and state ahead of the call, the wish, the exception, the state -/
noncomputable abbrev CXT := List Env → Hp → Shared → XK → Value → Shared → Prop

/-- the state at a call -/
structure Env0 (P : Program) (w : World) (K : PySem.W.Frag) (mg : Str → Option Value) (base : Heap) (A : Around) (outer : List Env) (s : Shared) (H : Hp) : Prop where
  frames : A.frames = some outer
  mod : Mod K mg base
  bs : ∀ b o, base.get? b = some o → s.heap.get? b = some o ∧ H b = none
  bsz : base.objs.size ≤ s.heap.objs.size
  funs : s.heap.FunFrames base outer
  frf : ∀ b ∈ frs outer, H b = none
  hok : HOk P w H s.heap
  bare : AllBare s.gens
/-- a call's end -/
noncomputable def CE (outer : List Env) (P : Program) (w : World) (H : Hp) (s : Shared) (Q : VK) (u : Value) (s' : Shared) : Prop :=
  ∃ v H', s'.os = s.os ∧ AllBare s'.gens ∧ Un (frs outer) [] H H' s.heap s'.heap ∧ HOk P w H' s'.heap ∧ RelV v u ∧ Q v H'
noncomputable def CR (CX : CXT) (outer : List Env) (P : Program) (w : World) (H : Hp) (s : Shared) (Q : VK) (E : XK) (r : Result) (s' : Shared) : Prop :=
  match r with
  | .ok (.ret u) => CE outer P w H s Q u s'
  | .ok _ => False
  | .error e => CX outer H s E e s'
structure FnOk (P : Program) (w : World) (K : PySem.W.Frag) (mg : Str → Option Value) (base : Heap) (CX : CXT) (k : Nat) (f : Addr) (fd : FuncData) (ps : List Str) (sp : Sp) : Prop where
  len : ∀ vs H Q E, sp vs H Q E → vs.length = ps.length
  run : ∀ (A : Around) (outer : List Env) (s : Shared) (H : Hp) (args : Args) (us : List Value) (vs : List V) (Q : VK) (E : XK), Room k A → Env0 P w K mg base A outer s H → BindsTo s fd args (ps.zip us) → Vals vs us → sp vs H Q E →
    codeAny (model P w) A (.call (.ref f) args) (CR CX outer P w H s Q E) s
theorem FnOk.mono {P : Program} {w : World} {K : PySem.W.Frag} {mg : Str → Option Value} {base : Heap} {CX : CXT} {j k : Nat} {f : Addr} {fd : FuncData} {ps : List Str} {sp : Sp} (F : FnOk P w K mg base CX j f fd ps sp) (h : j ≤ k) :
    FnOk P w K mg base CX k f fd ps sp := ⟨F.len, fun A outer s H args us vs Q E hr => F.run A outer s H args us vs Q E (hr.mono h)⟩
/-- a weaker promise -/
theorem FnOk.imp {P : Program} {w : World} {K : PySem.W.Frag} {mg : Str → Option Value} {base : Heap} {CX : CXT} {k : Nat} {f : Addr} {fd : FuncData} {ps : List Str} {sp sp' : Sp} (F : FnOk P w K mg base CX k f fd ps sp)
    (h : ∀ vs H Q E, sp' vs H Q E → sp vs H Q E) : FnOk P w K mg base CX k f fd ps sp' :=
  ⟨fun vs H Q E q => F.len vs H Q E (h _ _ _ _ q), fun A outer s H args us vs Q E hr he hb hv hs => F.run A outer s H args us vs Q E hr he hb hv (h _ _ _ _ hs)⟩

theorem Env0.in1 {P : Program} {w : World} {K : PySem.W.Frag} {mg : Str → Option Value} {base : Heap} {A : Around} {outer : List Env} {s : Shared} {H : Hp} (e : Env0 P w K mg base A outer s H) :
    Env0 P w K mg base A.in1 outer s H := ⟨e.frames, e.mod, e.bs, e.bsz, e.funs, e.frf, e.hok, e.bare⟩

section
variable {X : Cx} {pins : List (Addr × Obj)} {σ : St} {H : Hp} {s s' : Shared}
/-- from a body: what a callee wants -/
theorem Inv.env0 (I : Inv X pins σ H s) : Env0 X.prog X.w X.K X.mg X.base X.A X.stack s H :=
  ⟨I.ok.frames, I.ok.mod, I.bs, Nat.le_trans I.ok.bsz I.sz, I.stack, I.stkFree, I.hok, I.bare⟩
/-- behind a call -/
theorem Inv.after {Q : VK} {u : Value} (I : Inv X pins σ H s) (h : CE X.stack X.prog X.w H s Q u s') : EP X pins σ Q u s' := by
  obtain ⟨v, H', os, bare, un, hok, r, q⟩ := h
  obtain ⟨hh, g, d, t, os'⟩ := s'
  obtain rfl : os' = s.os := os
  exact ⟨v, H', I.call (h' := hh) (g' := g) (d' := d) (t' := t) (ch := []) un hok bare (fun b z => absurd z (by simp)), r, q⟩
end

/-- f(..): the written arguments, then the defaults dvs; E: what is wanted of an exception -/
noncomputable def tCall (sp : Sp) (dvs : List V) (E : XK) (t : TA) : TE := fun σ H Q => t σ H fun vs H1 => sp (vs ++ dvs) H1 Q E
/-- o.m(..) of an instance of the class at C -/
noncomputable def tMeth (C : Addr) (m : Str) (sp : Sp) (dvs : List V) (E : XK) (ta : TE) (t : TA) : TE := fun σ H Q => ta σ H fun x H1 => ∃ a dx fs, x = .ref a ∧ H1 a = some (.ins C dx fs) ∧ fs.lookup m = none ∧
  t σ H1 fun vs H2 => sp (x :: (vs ++ dvs)) H2 Q E
/-- C(..): a new instance and its dict, then __init__ -/
noncomputable def tMake (C : Addr) (sp : Sp) (dvs : List V) (E : XK) (t : TA) : TE := fun σ H Q => t σ H fun vs H1 => ∀ x dx, H1 x = none → H1 dx = none → dx ≠ x →
  sp (.ref x :: (vs ++ dvs)) (upd (upd H1 dx (.own x)) x (.ins C dx [])) (fun v H2 => v = .non ∧ Q (.ref x) H2) E

/-- how the parameters are bound: us the positional arguments, kw the keywords' values by name, ds the defaults that fill up -/
noncomputable def Binds (K : PySem.W.Frag) (fd : FuncData) (ps : List Str) (ds : List Value) : Prop :=
  ∀ (s : Shared) (us : List Value), K.In s.heap → (us ++ ds).length = ps.length → BindsTo s fd ⟨us, []⟩ (ps.zip (us ++ ds))
/-- every parameter is given -/
theorem Binds.all {K : PySem.W.Frag} {fd : FuncData} {ps : List Str} (h : ∀ us : List Value, us.length = ps.length → bindArgs fd ⟨us, []⟩ = pure (ps.zip us)) : Binds K fd ps [] := fun s us _ hl => by
  rw [List.append_nil] at hl ⊢
  exact .of_eq (h us hl)

/-- an exception of a callee reaches what this body wants of exceptions -/
noncomputable def Passes (CX : CXT) (X : Cx) (E : XK) : Prop := ∀ (pins : List (Addr × Obj)) (σ : St) (H : Hp) (s : Shared) (e : Value) (s' : Shared), Inv X pins σ H s → CX X.stack H s E e s' → X.xe e s'

section
variable {X : Cx} {CX : CXT} {k : Nat} {f C : Addr} {fd : FuncData} {ps : List Str} {sp : Sp} {dvs : List V} {ds : List Value} {E : XK} {x m : Str} {p pos apos : Pos} {e o : Expr} {es : List Expr} {ta : TE} {t : TA}

/-- the callee runs -/
theorem run_fn {pins : List (Addr × Obj)} {σ : St} {H : Hp} {s : Shared} {Q : VK} {us : List Value} {vs : List V} (F : FnOk X.prog X.w X.K X.mg X.base CX k f fd ps sp) (hr : Room k X.A) (hb : Binds X.K fd ps ds) (hd : Vals dvs ds) (hx : Passes CX X E)
    (I : Inv X pins σ H s) (r : Vals vs us) (h : sp (vs ++ dvs) H Q E) : wpAny (model X.prog X.w) X.A (call (.ref f) us) (EP X pins σ Q) X.xe s := by
  have r2 : Vals (vs ++ dvs) (us ++ ds) := r.append hd
  have hl : (us ++ ds).length = ps.length := by rw [← r2.length]; exact F.len _ _ _ _ h
  refine wpAny_call (codeAny_mono (F.run X.A X.stack s H ⟨us, []⟩ (us ++ ds) (vs ++ dvs) Q E hr I.env0 (hb s us I.kIn hl) r2 h) fun r s' hq => ?_)
  cases r with
  | error e => exact hx pins σ H s e s' I hq
  | ok fl =>
    cases fl with
    | ret u => exact I.after hq
    | next => exact False.elim hq
    | brk => exact False.elim hq
    | cont => exact False.elim hq

theorem pe_call (F : FnOk X.prog X.w X.K X.mg X.base CX k f fd ps sp) (hr : Room k X.A) (hg : Gl X x) (hm : X.mg x = some (.ref f)) (hk : PySem.W.keepIn X.K (.ref f) = true) (hb : Binds X.K fd ps ds) (hd : Vals dvs ds) (hx : Passes CX X E)
    (ha : PA X (e :: es) t) (hdb : (x == ("__debug__" : Str)) = false := by decide) (he : starEach (e :: es) X.env = (false, eval e X.env) :: starEach es X.env := by rfl) (hpl : (backTo pos (starEach es X.env)).any (·.1) = false := by rfl) :
    PE X (.Call (.Name x p) (e :: es) [] pos) (tCall sp dvs E t) := by
  intro pins s σ H Q I h
  refine wpAny_Call_Name_kw (ld_glob I hg hm ?_ hdb)
  refine PySem.W.callWith_K (h₀ := X.base) I.ok.mod.kin hk (thn (ha pos pins s σ H _ I h) fun us s1 ⟨vs, H1, I1, r, q⟩ => ⟨I1.kIn, ?_⟩) he hpl
  exact run_fn F hr hb hd hx I1 r q
/-- what a class must have to be made -/
structure Mk (K : PySem.W.Frag) (C f : Addr) : Prop where
  makes : PySem.W.makesIn K C = true
  init : PySem.W.findIn K (.ref C) "__init__" = some (some (.ref f))
  fn : PySem.W.isFn K (.ref f) = true
  kp : PySem.W.keepIn K (.ref C) = true

end

section
variable {X : Cx} {CX : CXT} {k : Nat} {f C : Addr} {fd : FuncData} {ps ks : List Str} {sp : Sp} {E : XK} {x m : Str} {p pos apos kpos : Pos} {e o : Expr} {es : List Expr} {kws : List Keyword} {te ta : TE} {t tk : TA} {nm : Option Str}
/-- how a call with keywords binds: g puts the positional values us and the keywords' values ws (names ks) in the parameters' order, defaults among them -/
structure KBinds (K : PySem.W.Frag) (fd : FuncData) (ps ks : List Str) (g : List Value → List Value → List Value) (gV : List V → List V → List V) : Prop where
  to : ∀ (s : Shared) (us ws : List Value), K.In s.heap → (g us ws).length = ps.length → BindsTo s fd ⟨us, ks.zip ws⟩ (ps.zip (g us ws))
  rel : ∀ {vs : List V} {us : List Value} {zs : List V} {ws : List Value}, Vals vs us → Vals zs ws → Vals (gV vs zs) (g us ws)
variable {g : List Value → List Value → List Value} {gV : List V → List V → List V}
end

/-- names: the parameters first -/
structure FnScope (N P : List Str) (sc : Scope) : Prop where
  kind : sc.kind = .function
  co : sc.isCoroutine = false
  gen : sc.isGenerator = false
  nd : N.Nodup
  pre : N.take P.length = P
  par : ∀ x ∈ P, sc.names.lookup x = some .local ∨ sc.names.lookup x = some .cell
  nofree : ∀ y ∈ sc.names, y.2 ≠ .free

theorem bindL_out {kindOf : Str → Option NameKind} {x : Str} : ∀ {binds : List (Str × Value)} {m : Str → Option Value}, (∀ v, (x, v) ∉ binds) → bindL kindOf binds m x = m x
  | [], _, _ => rfl
  | (n, v) :: r, m, h => by
    unfold bindL
    rw [bindL_out fun w hw => h w (List.mem_cons_of_mem _ hw)]
    split
    · have : x ≠ n := by rintro rfl; exact h v List.mem_cons_self
      simp [this]
    · rfl
theorem bindC_out {kindOf : Str → Option NameKind} {x : Str} : ∀ {binds : List (Str × Value)} {m : Str → Option Value}, (∀ v, (x, v) ∉ binds) → bindC kindOf binds m x = m x
  | [], _, _ => rfl
  | (n, v) :: r, m, h => by
    unfold bindC
    rw [bindC_out fun w hw => h w (List.mem_cons_of_mem _ hw)]
    split
    · rfl
    · have : x ≠ n := by rintro rfl; exact h v List.mem_cons_self
      simp [this]
theorem bindL_get {kindOf : Str → Option NameKind} {x : Str} {v : Value} : ∀ {P : List Str} {vs : List Value} {i : Nat} {m : Str → Option Value}, P.Nodup → P[i]? = some x → vs[i]? = some v → kindOf x = some .local →
    bindL kindOf (P.zip vs) m x = some v
  | [], _, _, _, _, h, _, _ => by simp at h
  | _ :: _, [], _, _, _, _, h, _ => by simp at h
  | p :: P, w :: vs, 0, m, nd, h1, h2, hk => by
    simp at h1 h2; subst h1; subst h2
    show bindL kindOf ((p, w) :: P.zip vs) m p = _
    unfold bindL
    rw [bindL_out fun v hv => (List.nodup_cons.mp nd).1 (List.of_mem_zip hv).1, if_pos hk]
    simp
  | p :: P, w :: vs, i + 1, m, nd, h1, h2, hk => by
    show bindL kindOf ((p, w) :: P.zip vs) m x = _
    unfold bindL
    exact bindL_get (i := i) (List.nodup_cons.mp nd).2 (by simpa using h1) (by simpa using h2) hk
theorem bindC_get {kindOf : Str → Option NameKind} {x : Str} {v : Value} : ∀ {P : List Str} {vs : List Value} {i : Nat} {m : Str → Option Value}, P.Nodup → P[i]? = some x → vs[i]? = some v → kindOf x ≠ some .local →
    bindC kindOf (P.zip vs) m x = some v
  | [], _, _, _, _, h, _, _ => by simp at h
  | _ :: _, [], _, _, _, _, h, _ => by simp at h
  | p :: P, w :: vs, 0, m, nd, h1, h2, hk => by
    simp at h1 h2; subst h1; subst h2
    show bindC kindOf ((p, w) :: P.zip vs) m p = _
    unfold bindC
    rw [bindC_out fun v hv => (List.nodup_cons.mp nd).1 (List.of_mem_zip hv).1, if_neg hk]
    simp
  | p :: P, w :: vs, i + 1, m, nd, h1, h2, hk => by
    show bindC kindOf ((p, w) :: P.zip vs) m x = _
    unfold bindC
    exact bindC_get (i := i) (List.nodup_cons.mp nd).2 (by simpa using h1) (by simpa using h2) hk

/-- the names' values at the entry -/
noncomputable def start (N : List Str) (vs : List V) : St := vs.map some ++ List.replicate (N.length - vs.length) none

/-- the context of a def's body, at its entry; an exception leaves the frame, then lies as CX says -/
noncomputable def cxOf (CX : CXT) (P : Program) (w : World) (K : PySem.W.Frag) (mg : Str → Option Value) (base : Heap) (N : List Str) (qual : Str) (scope : Scope) (f : Addr) (cd : Value) (A : Around) (outer : List Env) (s : Shared) (H : Hp) (E : XK) : Cx where
  prog := P
  w := w
  K := K
  mg := mg
  base := base
  A := A.deeper (envOfC qual scope s.heap.objs.size f cd)
  N := N
  s₀ := s
  H₀ := H
  env := envOfC qual scope s.heap.objs.size f cd
  outer := outer
  stack := envOfC qual scope s.heap.objs.size f cd :: outer
  ex := []
  calm := true
  fn := fun _ => true
  pn := []
  xe := fun e s' => wpAny (model P w) (A.deeper (envOfC qual scope s.heap.objs.size f cd)) (leaving (envOfC qual scope s.heap.objs.size f cd) e) (fun _ s'' => CX outer H s E e s'') (fun e' s'' => CX outer H s E e' s'') s'

theorem cell_has {sc : Scope} {n : Nat} {x : Str} (h : sc.names.lookup x = some .cell) : ∃ c, (cellsFrom n sc.names []).lookup x = some c := by
  have q := PySem.W.cellsFrom_some sc.names n [] (.inl h)
  exact Option.isSome_iff_exists.mp q

theorem inv_start {CX : CXT} {P : Program} {w : World} {K : PySem.W.Frag} {mg : Str → Option Value} {base : Heap} {N ps : List Str} {qual : Str} {scope : Scope} {f : Addr} {cd : Value} {A : Around} {outer : List Env} {s s1 : Shared} {H : Hp} {E : XK} {us : List Value} {vs : List V}
    (S : FnScope N ps scope) (hd : A.handled = none) (e0 : Env0 P w K mg base A outer s H) (hl : vs.length = ps.length) (r : Vals vs us)
    (x : InCallC s s.heap.objs.size (bindL (envOfC qual scope s.heap.objs.size f cd).kindOf (ps.zip us) fun _ => none) (cellsFrom (s.heap.objs.size + 1) scope.names []) (bindC (envOfC qual scope s.heap.objs.size f cd).kindOf (ps.zip us) fun _ => none) s1) :
    Inv (cxOf CX P w K mg base N qual scope f cd A outer s H E) [] (start N vs) H s1 := by
  have hpl : ps.length ≤ N.length := by have := congrArg List.length S.pre; rw [List.length_take] at this; omega
  obtain ⟨h1, tk, rfl, hk⟩ := x.done
  have noA : ∀ b : Addr, b ∉ (cxOf CX P w K mg base N qual scope f cd A outer s H E).ex := fun b z => absurd (show b ∈ ([] : List Addr) from z) (by simp)
  refine ⟨⟨e0.mod, S.kind, rfl, rfl, Nat.le_refl _, fun y z c h1 h2 => ?_, fun y hy => ?_, fun y c _ h => ?_, fun _ => hd, Around.frames_deeper e0.frames, .inr ⟨rfl, rfl⟩, fun b z => absurd z (noA b), e0.bs, e0.bsz, fun b _ _ => noA b, fun b z => absurd z (noA b), e0.funs, e0.frf⟩,
    rfl, e0.bare, Un.kept hk, ⟨_, x.toInCall.ns, fun i y v h1 h2 h3 => ?_⟩, fun y c h => ⟨_, x.cell y c h⟩, e0.hok.fresh (Nat.le_refl _), fun y c h => ?_, fun p hp => absurd (show p ∈ ([] : List (Addr × Obj)) from hp) (by simp), e0.hok.kept hk, ?_⟩
  · exact name_of_addr x.apart (PySem.mem_of_lookup h1) (PySem.mem_of_lookup h2)
  · have hy : scope.names.lookup y = some .cell ∨ scope.names.lookup y = some .free := hy
    rcases hy with hy | hy
    · exact cell_has hy
    · exact absurd rfl (S.nofree _ (PySem.mem_of_lookup hy))
  · exact Nat.le_of_lt (x.above y c (PySem.mem_of_lookup h))
  · have hi : i < vs.length := by
      unfold start at h2
      by_cases hi : i < vs.length
      · exact hi
      · rw [List.getElem?_append_right (by simpa using hi)] at h2
        rw [List.getElem?_replicate] at h2
        split at h2 <;> cases h2
    have ha : vs[i]? = some v := by
      unfold start at h2
      rw [List.getElem?_append_left (by simpa using hi), List.getElem?_map] at h2
      cases e : vs[i]? with
      | none => rw [e] at h2; cases h2
      | some a => rw [e] at h2; cases h2; rfl
    obtain ⟨u, hu, rv⟩ := r.get ha
    have hp : ps[i]? = some y := by
      rw [← S.pre, List.getElem?_take_of_lt (by omega)]; exact h1
    have ndP : ps.Nodup := by rw [← S.pre]; exact S.nd.sublist (List.take_sublist _ _)
    refine ⟨u, rv, ?_⟩
    rcases S.par y (List.mem_of_getElem? hp) with k | k
    · exact .inl ⟨k, bindL_get ndP hp hu k⟩
    · obtain ⟨c, e⟩ := cell_has (n := s.heap.objs.size + 1) k
      refine .inr ⟨.inl k, c, e, ?_⟩
      have q := x.cell y c e
      rw [bindC_get ndP hp hu (by show scope.names.lookup y ≠ _; rw [k]; decide)] at q
      exact q
  · exact e0.hok.fresh (Nat.le_of_lt (x.above y c (PySem.mem_of_lookup h)))
  · unfold start
    show _ = N.length
    rw [List.length_append, List.length_map, List.length_replicate]
    omega

/-- THE RULE: a def (or a method) of the text, by its body. The body's reading t is chosen for each entry; it is run at the parameters' values -/
theorem fn_of {CX : CXT} {P : Program} {w : World} {K : PySem.W.Frag} {mg : Str → Option Value} {base : Heap} {k : Nat} {f : Addr} {name qual : Str} {params : Arguments} {body : List Stmt} {scope : Scope} {dV kV doc pm cdv ct oc : Value} {an od : Option Addr}
    {osl : Array (Option Value)} {N ps : List Str} {sp : Sp} (lk : K.lookup f = some ⟨oc, od, .func (PySem.W.fnOf name qual params body scope dV kV doc pm an cdv ct), osl⟩) (hcd : PySem.W.codeIn K cdv qual = true) (S : FnScope N ps scope)
    (len : ∀ vs H Q E, sp vs H Q E → vs.length = ps.length)
    (hbody : ∀ (A : Around) (outer : List Env) (s : Shared) (H : Hp) (vs : List V) (Q : VK) (E : XK), Room k (A.deeper (envOfC qual scope s.heap.objs.size f cdv)) → sp vs H Q E →
      ∃ t, PSs (cxOf CX P w K mg base N qual scope f cdv A outer s H E) body t ∧ t { nx := fun _ H' => Q .non H', rt := Q } (start N vs) H) :
    FnOk P w K mg base CX (k + 1) f (PySem.W.fnOf name qual params body scope dV kV doc pm an cdv ct) ps sp := by
  refine ⟨len, fun A outer s H args us vs Q E hr e0 hb r hsp => ?_⟩
  have hl := len _ _ _ _ hsp
  have KX : K.In s.heap := e0.mod.kin.keeps fun b o e => (e0.bs b o e).1
  have lim : s.heap.NoLimit := e0.mod.nolimit.keeps fun b o e => (e0.bs b o e).1
  have hkind : ∀ y ∈ ps.zip us, scope.names.lookup y.1 = some .local ∨ (scope.names.lookup y.1 = some .cell ∧ ((cellsFrom (s.heap.objs.size + 1) scope.names []).lookup y.1).isSome = true) := fun ⟨n, v⟩ hy => by
    rcases S.par n (List.of_mem_zip hy).1 with q | q
    · exact .inl q
    · exact .inr ⟨q, PySem.W.cellsFrom_some _ _ _ (.inl q)⟩
  refine codeAny_call_function hr.depth (KX _ _ lk) rfl S.co S.gen rfl (PySem.W.codeRec_of KX hcd) (hb _ _ _ _ ?_)
  refine wpAny_newFunctionEnv_cells S.kind hkind fun env he s1 x => ?_
  subst he
  refine ⟨lim.keeps x.toInCall.keep, codeAny_func ?_⟩
  obtain ⟨t, ht, hq⟩ := hbody A outer s H vs Q E (hr.deeper _) hsp
  have I : Inv (cxOf CX P w K mg base N qual scope f cdv A outer s H E) [] (start N vs) H s1 := inv_start S hr.hd e0 hl r x
  refine wpAny_mono (ht [] s1 (start N vs) H _ I hq) (fun fl s' hs => ?_) fun e s' hs => hs
  have fin : ∀ {σ' : St} {H' : Hp} {v : V} {u : Value}, Inv (cxOf CX P w K mg base N qual scope f cdv A outer s H E) [] σ' H' s' → RelV v u → Q v H' → CE outer P w H s Q u s' :=
    fun {σ' H' v u} J rv q => ⟨v, H', J.os, J.bare, J.base, J.hok, rv, q⟩
  cases fl with
  | ret u =>
    obtain ⟨v, σ', H', J, rv, q⟩ := hs
    exact fin J rv q
  | next =>
    obtain ⟨σ', H', J, q⟩ := hs
    exact fin (v := V.non) (u := Value.none) J rfl q
  | brk =>
    obtain ⟨_, _, _, q⟩ := hs
    exact False.elim q
  | cont =>
    obtain ⟨_, _, _, q⟩ := hs
    exact False.elim q
end L2

namespace L2
open PySem PySem.Spec PyProof.Rows
section
variable {X : Cx} {x : Str} {p pos : Pos} {e : Expr} {es : List Expr} {t : TA} {id T : String} {r : List V → Hp → VK → Prop}

noncomputable def tCB (r : List V → Hp → VK → Prop) (t : TA) : TE := fun σ H Q => t σ H fun vs H1 => r vs H1 Q
/-- f(e, ..), f a built-in function -/
theorem pe_callB (hc : CallR X (.builtin id) r) (hg : Gl X x) (hm : X.mg x = none) (hv : bootBuiltins x = some (.builtin id)) (ha : PA X (e :: es) t) (hn : x ≠ "__name__" := by decide) (hdb : (x == ("__debug__" : Str)) = false := by decide)
    (he : starEach (e :: es) X.env = (false, eval e X.env) :: starEach es X.env := by rfl) (hpl : (backTo pos (starEach es X.env)).any (·.1) = false := by rfl) : PE X (.Call (.Name x p) (e :: es) [] pos) (tCB r t) := by
  intro pins s σ H Q I h
  refine wpAny_Call_Name_kw (ld_blt I hg hm hv ?_ hn hdb)
  exact PyProof.Rows.callWith_builtin1 (thn (ha pos pins s σ H _ I h) fun us s1 ⟨vs, H1, I1, r1, q1⟩ => hc pins s1 σ H1 vs us Q I1 r1 q1) he hpl
/-- T(e, ..), T a built-in type -/
theorem pe_callTy (hc : CallR X (.type T) r) (hg : Gl X x) (hm : X.mg x = none) (hv : bootBuiltins x = some (.type T)) (ha : PA X (e :: es) t) (hn : x ≠ "__name__" := by decide) (hdb : (x == ("__debug__" : Str)) = false := by decide)
    (he : starEach (e :: es) X.env = (false, eval e X.env) :: starEach es X.env := by rfl) (hpl : (backTo pos (starEach es X.env)).any (·.1) = false := by rfl) : PE X (.Call (.Name x p) (e :: es) [] pos) (tCB r t) := by
  intro pins s σ H Q I h
  refine wpAny_Call_Name_kw (ld_blt I hg hm hv ?_ hn hdb)
  exact PyProof.Rows.callWith_type1 (thn (ha pos pins s σ H _ I h) fun us s1 ⟨vs, H1, I1, r1, q1⟩ => hc pins s1 σ H1 vs us Q I1 r1 q1) he hpl
end
end L2

namespace HT
open PySem PyProof.Rows

section
open PySem.SeqAt
open PySem.AutoSeq1 (wpAny_loadPart')
open PySem.MeetsSeq PySem.MeetsSeq2 PySem.MeetsSeq3

end

section
variable {prog : Program} {w : World} {A : Around} {E : Value → Shared → Prop} {s : Shared}

/-- t + u, t not empty -/
theorem cat_tup {t b : Addr} {vs ws : List Value} {Q : Value → Shared → Prop} (ht : IsTup s.heap t vs.toArray) (hb : IsTup s.heap b ws.toArray) (hv : vs ≠ [])
    (h1 : ws = [] → Q (.ref t) s) (h2 : ws ≠ [] → Q (.ref s.heap.objs.size) { s with heap := s.heap.push { cls := .type "tuple", data := .seq (vs ++ ws).toArray } })
    (hsz : vs.length + ws.length ≤ sizeLine) : wpAny (model prog w) A (binaryOp .Add (.ref t) (.ref b)) Q E s := by
  obtain ⟨⟨cls, dd, data, sl⟩, ho, hc, n, hd⟩ := id ht
  obtain ⟨⟨cls2, dd2, data2, sl2⟩, ho2, hc2, n2, hd2⟩ := id hb
  simp only at hc hd hc2 hd2
  subst hc hd hc2 hd2
  have e : vs.toArray ++ ws.toArray = (vs ++ ws).toArray := by simp
  by_cases hw : ws = []
  · exact concat_meets ⟨_, ho, rfl⟩ ⟨_, ho2, rfl⟩ noFill_tuple_add seq_tuple_add PySem.F.slot_tuple_add PySem.F.entry_tuple_add (PySem.F.args_tuple_add_2 _ _)
      (tuple_addW1 t b vs.toArray ws.toArray n n2 dd dd2 sl sl2 (by simpa using hv) (by simp [hw])) ⟨ho, ho2, h1 hw⟩
  · refine concat_meets ⟨_, ho, rfl⟩ ⟨_, ho2, rfl⟩ noFill_tuple_add seq_tuple_add PySem.F.slot_tuple_add PySem.F.entry_tuple_add (PySem.F.args_tuple_add_2 _ _)
      (tuple_addW2 t b vs.toArray ws.toArray n n2 dd dd2 sl sl2 (by simpa using hv) (by simpa using hw) (by rw [List.size_toArray, List.size_toArray]; exact hsz)) ⟨ho, ho2, ?_⟩
    rw [e]
    exact h2 hw

/-- a slice's bound as a place among n (d where it is left out) -/
noncomputable def sIx (n d : Nat) : Option Int → Nat
  | none => d
  | some v => if v < 0 then (v + (n : Int)).toNat else min v.toNat n
theorem sIx_le (n d : Nat) (hd : d ≤ n) (o : Option Int) : sIx n d o ≤ n := by
  cases o with
  | none => exact hd
  | some v =>
    show (if v < 0 then (v + (n : Int)).toNat else min v.toNat n) ≤ n
    by_cases hv : v < 0
    · rw [if_pos hv]; omega
    · rw [if_neg hv]; exact Nat.min_le_right _ _
theorem clip_eq (v : Int) (n d : Nat) : (if v < 0 then max (v + (n : Int)) 0 else min v (n : Int)) = ((sIx n d (some v) : Nat) : Int) := by
  show (if v < 0 then max (v + (n : Int)) 0 else min v (n : Int)) = (((if v < 0 then (v + (n : Int)).toNat else min v.toNat n) : Nat) : Int)
  by_cases hv : v < 0
  · simp only [if_pos hv]; omega
  · simp only [if_neg hv]; omega
theorem adjust_gen (lo hi : Option Int) (n : Nat) : Builtin.Slice.sliceAdjust lo hi 1 (n : Int) = (((sIx n 0 lo : Nat) : Int), ((sIx n n hi : Nat) : Int)) := by
  have h1 : ¬ ((1 : Int) < 0) := by omega
  unfold Builtin.Slice.sliceAdjust
  simp only [h1, if_false]
  refine Prod.ext ?_ ?_
  · cases lo with
    | none => rfl
    | some v => exact clip_eq v n 0
  · cases hi with
    | none => rfl
    | some v => exact clip_eq v n n
theorem places_gen (i j : Nat) : Builtin.Slice.slicePlaces (i : Int) (j : Int) 1 = j - i := by
  unfold Builtin.Slice.slicePlaces
  have h1 : (1 : Int) > 0 := by omega
  simp only [h1, if_true, Int.ediv_one]
  split <;> omega
theorem slicePart_ {v : Value} {o : Option Int} {Q : Option Int → Shared → Prop} (p : IsPart v o) (h : Q o s) : wpAny (model prog w) A (Builtin.Slice.slicePartIndex v) Q E s := by
  cases p with
  | none => exact slicePart_none h
  | int i t => exact slicePart_int h
theorem sliceApplied_gen {sl : Addr} {vl vu : Value} {lo hi : Option Int} {n : Nat} {Q : Int × Int × Nat → Shared → Prop} (hs : s.heap.IsSliceOf sl vl vu .none) (pl : IsPart vl lo) (pu : IsPart vu hi)
    (h : Q (((sIx n 0 lo : Nat) : Int), 1, sIx n n hi - sIx n 0 lo) s) : wpAny (model prog w) A (Builtin.Slice.sliceApplied (.ref sl) (pure (n : Int))) Q E s := by
  obtain ⟨os, hos, hcs, hds⟩ := id hs
  unfold Builtin.Slice.sliceApplied Builtin.Slice.sliceFields
  refine wpAny_bind (wpAny_bind (wpAny_field hos hds (x := vl) rfl (wpAny_bind (wpAny_field hos hds (x := vu) rfl (wpAny_bind (wpAny_field hos hds (x := .none) rfl (wpAny_pure ?_)))))))
  refine wpAny_bind (slicePart_none ?_)
  show wpAny _ _ (if ((1 : Int) == 0) = true then _ else _) _ _ s
  rw [if_neg (by decide)]
  refine wpAny_bind (slicePart_ pl (wpAny_bind (slicePart_ pu (wpAny_bind (wpAny_pure ?_)))))
  show wpAny _ _ (match Builtin.Slice.sliceAdjust lo hi 1 (n : Int) with | (lo, hi) => pure (lo, (1 : Int), Builtin.Slice.slicePlaces lo hi 1)) _ _ s
  rw [adjust_gen lo hi n]
  show wpAny _ _ (pure (((sIx n 0 lo : Nat) : Int), (1 : Int), Builtin.Slice.slicePlaces ((sIx n 0 lo : Nat) : Int) ((sIx n n hi : Nat) : Int) 1)) _ _ s
  rw [places_gen]
  exact wpAny_pure h
theorem pick_gen (xs : Array Value) (i k : Nat) : ((List.range k).filterMap fun (m : Nat) => xs[((i : Int) + (m : Int) * 1).toNat]?).toArray = ((xs.toList.drop i).take k).toArray := by
  have e : (fun (m : Nat) => xs[((i : Int) + (m : Int) * 1).toNat]?) = fun m => xs[i + m]? := by
    funext m
    have : ((i : Int) + (m : Int) * 1).toNat = i + m := by omega
    rw [this]
  rw [e]
  have := pick_run xs i k
  rw [List.filterMap_map] at this
  have e2 : ((fun x => xs[x]?) ∘ fun x => i + x) = fun m => xs[i + m]? := rfl
  rw [e2] at this
  rw [this]

theorem getItem_tuple_cut {t sl : Addr} {items : Array Value} {vl vu : Value} {lo hi : Option Int} {Q : Value → Shared → Prop} (ht : IsTup s.heap t items) (hs : s.heap.IsSliceOf sl vl vu .none) (pl : IsPart vl lo) (pu : IsPart vu hi)
    (hw : ¬ (sIx items.size 0 lo = 0 ∧ sIx items.size items.size hi = items.size))
    (h : Q (.ref s.heap.objs.size) { s with heap := s.heap.push { cls := .type "tuple", data := .seq ((items.toList.drop (sIx items.size 0 lo)).take (sIx items.size items.size hi - sIx items.size 0 lo)).toArray } })
    (hsz : items.size ≤ sizeLine) : wpAny (model prog w) A (getItem (.ref t) (.ref sl)) Q E s := by
  have htake : sizeOk (.seq ((items.toList.drop (sIx items.size 0 lo)).take (sIx items.size items.size hi - sIx items.size 0 lo)).toArray) := by
    show ((items.toList.drop (sIx items.size 0 lo)).take (sIx items.size items.size hi - sIx items.size 0 lo)).toArray.size ≤ sizeLine
    rw [List.size_toArray, List.length_take, List.length_drop, Array.length_toList]
    omega
  have hj : sIx items.size items.size hi ≤ items.size := sIx_le _ _ (Nat.le_refl _) hi
  obtain ⟨os, hos, hcs, hds⟩ := id hs
  have hTs : s.TypeIs (.ref sl) "slice" := ⟨os, hos, hcs⟩
  unfold getItem
  try with_reducible refine wpAny_holding ?_
  first | refine wpAny_bind (wpAny_pure ?_) | skip
  refine wpAny_bind (wpAny_sequenceKey ht.typeIs (by decide) ?_)
  refine wpAny_bind (wpAny_callSpecial?_slot (name := Str.ofString "__getitem__") ht.typeIs PyProof.Rows.slot_tuple_getitem
    (wpAny_call_entry PyProof.Rows.slot_tuple_getitem ht.typeIs entry_tuple_getitem ?_ (args_tuple_getitem _ _)))
  show wpAny _ _ (Builtin.Tuple.tupleItemsOf (.ref t) >>= _) _ _ s
  refine wpAny_bind (tupleItemsOf_ ht ?_)
  refine wpAny_bind (wpAny_typeOf hTs ?_)
  rw [if_pos (by decide)]
  refine wpAny_bind (sliceApplied_gen hs pl pu ?_)
  have hno : ¬ ((((sIx items.size 0 lo : Nat) : Int) == 0 && (1 : Int) == 1 && (sIx items.size items.size hi - sIx items.size 0 lo) == items.size) = true) := by
    intro q
    rw [Bool.and_eq_true, Bool.and_eq_true] at q
    have q1 : ((sIx items.size 0 lo : Nat) : Int) = 0 := eq_of_beq q.1.1
    have q2 : sIx items.size items.size hi - sIx items.size 0 lo = items.size := eq_of_beq q.2
    exact hw ⟨by omega, by omega⟩
  show wpAny _ _ (if (((sIx items.size 0 lo : Nat) : Int) == 0 && (1 : Int) == 1 && (sIx items.size items.size hi - sIx items.size 0 lo) == items.size) = true then _ else _) _ _ s
  rw [if_neg hno, pick_gen]
  first
    | exact wpAny_bind (m := Builtin.Tuple.tupleExact _) (wpAny_newObj_type (wpAny_pure ⟨_, rfl, wpAny_pure h⟩) htake)
    | exact wpAny_bind (m := Builtin.Tuple.tupleExact _) (wpAny_newObj_type (wpAny_bind (wpAny_pure (wpAny_pure ⟨_, rfl, wpAny_pure h⟩))) htake)
    | exact wpAny_bind (wpAny_bind (m := Builtin.Tuple.tupleExact _) (wpAny_newObj_type (wpAny_pure (wpAny_pure ⟨_, rfl, wpAny_pure h⟩)) htake))
    | exact wpAny_bind (wpAny_bind (m := Builtin.Tuple.tupleExact _) (wpAny_newObj_type (wpAny_pure ⟨_, rfl, wpAny_pure h⟩) htake))
end
end HT

namespace L2
open PySem PySem.Spec PyProof.Rows

noncomputable abbrev TO := St → Hp → (Option Int → Hp → Prop) → Prop
/-- a slice's part (left out, or an int) -/
noncomputable def PO (X : Cx) (e : Option Expr) (t : TO) : Prop :=
  ∀ (pins : List (Addr × Obj)) (s : Shared) (σ : St) (H : Hp) (Q : Option Int → Hp → Prop), Inv X pins σ H s → t σ H Q →
    wpAny (model X.prog X.w) X.A (evalPart e X.env) (fun u s' => ∃ o H', Inv X pins σ H' s' ∧ IsPart u o ∧ Q o H') X.xe s
noncomputable def tNoPart : TO := fun _ H Q => Q none H
noncomputable def tPart (t : TE) : TO := fun σ H Q => t σ H fun x H1 => ∃ i, x = .int i ∧ Q (some i) H1

section
variable {X : Cx} {e : Expr} {te : TE} {lo hi : Option Expr} {tl th : TO} {pos p2 : Pos}

theorem po_some (h : PE X e te) : PO X (some e) (tPart te) := by
  intro pins s σ H Q I hw
  rw [evalPart_some]
  refine thn (h pins s σ H _ I hw) fun u s1 ⟨x, H1, I1, r1, q1⟩ => ?_
  obtain ⟨i, rfl, q⟩ := q1
  obtain ⟨t, rfl⟩ := r1
  exact ⟨some i, H1, I1, .int i t, q⟩

/-- what a slice of a value is, by values: the slice object stands at sl -/
noncomputable def SlR (X : Cx) (r : V → Option Int → Option Int → Hp → VK → Prop) : Prop :=
  ∀ (pins : List (Addr × Obj)) (s : Shared) (σ : St) (H : Hp) (x : V) (v vl vu : Value) (lo hi : Option Int) (sl : Addr) (Q : VK), Inv X pins σ H s → RelV x v → s.heap.IsSliceOf sl vl vu .none → IsPart vl lo → IsPart vu hi → r x lo hi H Q →
    ∃ T id, typeLookup (.type T) "__getitem__" = pure (some (.builtin id)) ∧ s.TypeIs v T ∧ wpAny (model X.prog X.w) X.A (getItem v (.ref sl)) (EP X pins σ Q) X.xe s
theorem SlR.or {r r' : V → Option Int → Option Int → Hp → VK → Prop} (h : SlR X r) (h' : SlR X r') : SlR X (fun x lo hi H Q => r x lo hi H Q ∨ r' x lo hi H Q) := by
  intro pins s σ H x v vl vu lo hi sl Q I rx hs pl pu q
  rcases q with q | q
  · exact h pins s σ H x v vl vu lo hi sl Q I rx hs pl pu q
  · exact h' pins s σ H x v vl vu lo hi sl Q I rx hs pl pu q
noncomputable def tSl (r : V → Option Int → Option Int → Hp → VK → Prop) (te : TE) (tl th : TO) : TE := fun σ H Q => te σ H fun x H1 => tl σ H1 fun l H2 => th σ H2 fun u H3 => r x l u H3 Q
/-- a[lo:hi], any a -/
theorem pe_slice {r : V → Option Int → Option Int → Hp → VK → Prop} (hr : SlR X r) (he : PE X e te) (hl : PO X lo tl) (hu : PO X hi th) : PE X (.Subscript e (.Slice lo hi none p2) pos) (tSl r te tl th) := by
  intro pins s σ H Q I h
  refine Subscript_ (thn (he pins s σ H _ I h) fun v s1 ⟨x, H1, I1, r1, q1⟩ => ?_)
  refine wpAny_Slice (thn (hl pins s1 σ H1 _ I1 q1) fun vl s2 ⟨l, H2, I2, pl, q2⟩ => thn (hu pins s2 σ H2 _ I2 q2) fun vu s3 ⟨u, H3, I3, pu, q3⟩ => ?_)
  rw [evalPart_none]
  refine wpAny_pure ?_
  have I4 : Inv X pins σ H3 { s3 with heap := s3.heap.push { cls := .type "slice", data := .fields #[vl, vu, .none] } } := I3.kept (t' := s3.toks) fun b ob q => Heap.get?_push_of_some _ q
  obtain ⟨T, id, hT, ht, hg⟩ := hr pins { s3 with heap := s3.heap.push { cls := .type "slice", data := .fields #[vl, vu, .none] } } σ H3 x v vl vu l u s3.heap.objs.size Q I4 r1 (Heap.IsSliceOf.new ..) pl pu q3
  show wpAny (model X.prog X.w) X.A (subscriptTail e (.Slice lo hi none p2) v (.ref s3.heap.objs.size)) (EP X pins σ Q) X.xe { s3 with heap := s3.heap.push { cls := .type "slice", data := .fields #[vl, vu, .none] } }
  exact tail_any (ops := [.ref s3.heap.objs.size, v]) ht hT hg (by with_unfolding_all rfl)

/-- the items of xs[lo:hi] -/
noncomputable def cutV (xs : List V) (lo hi : Option Int) : List V := (xs.drop (HT.sIx xs.length 0 lo)).take (HT.sIx xs.length xs.length hi - HT.sIx xs.length 0 lo)
theorem cutV_length (xs : List V) (lo hi : Option Int) : (cutV xs lo hi).length ≤ xs.length := by
  unfold cutV
  rw [List.length_take, List.length_drop]
  omega
/-- t[lo:hi], not the whole of it (the whole would be t itself) -/
noncomputable def rSlT (K : PySem.W.Frag) : V → Option Int → Option Int → Hp → VK → Prop := fun x lo hi H Q => ∃ a xs, x = .ref a ∧ SqT K H a xs ∧
  ¬ (HT.sIx xs.length 0 lo = 0 ∧ HT.sIx xs.length xs.length hi = xs.length) ∧ ∀ p, H p = none → Q (.ref p) (upd H p (.tup (cutV xs lo hi)))
theorem sl_tup : SlR X (rSlT X.K) := by
  intro pins s σ H x v vl vu lo hi sl Q I rx hs pl pu h
  obtain ⟨a, xs, rfl, hx, hw, q⟩ := h
  cases rx
  obtain ⟨its, r, ht, hz⟩ := I.tuple hx
  have hlen : its.toArray.size = xs.length := by rw [List.size_toArray]; exact r.length.symm
  refine ⟨"tuple", _, PyProof.Rows.slot_tuple_getitem.lookup, ht.typeIs, ?_⟩
  refine HT.getItem_tuple_cut ht hs pl pu (by rw [hlen]; exact hw) ?_ (by rw [hlen]; exact hz)
  rw [hlen]
  refine ⟨.ref s.heap.objs.size, _, I.laid (t' := s.toks) (o := .tup (cutV xs lo hi)) (fun b ob q => Heap.get?_push_of_some _ q) (Nat.le_refl _) ?_, rfl, q _ (I.hok.fresh (Nat.le_refl _))⟩
  exact ⟨Nat.le_trans (cutV_length xs lo hi) hz, _, (r.drop (HT.sIx xs.length 0 lo)).take (HT.sIx xs.length xs.length hi - HT.sIx xs.length 0 lo), IsTup.new _ _⟩

/-- t + u, t not empty: u empty gives t itself -/
noncomputable def rCatT (K : PySem.W.Frag) : R2 := fun x y H Q => ∃ a b xs ys, x = .ref a ∧ y = .ref b ∧ SqT K H a xs ∧ SqT K H b ys ∧ xs ≠ [] ∧ xs.length + ys.length ≤ sizeLine ∧
  (ys = [] → Q (.ref a) H) ∧ (ys ≠ [] → ∀ p, H p = none → Q (.ref p) (upd H p (.tup (xs ++ ys))))
theorem Vals.nil_iff {xs : List V} {us : List Value} (r : Vals xs us) : us = [] ↔ xs = [] := by
  cases r with
  | nil => simp
  | cons _ _ => simp
theorem op_catT : OpR X (binaryOp .Add) (rCatT X.K) := by
  intro pins s σ H x y v u Q I rx ry h
  obtain ⟨a, b, xs, ys, rfl, rfl, ha, hb, hx, hz, q1, q2⟩ := h
  cases rx
  cases ry
  obtain ⟨its, r1, p1, _⟩ := I.tuple ha
  obtain ⟨its2, r2, p2, _⟩ := I.tuple hb
  refine HT.cat_tup p1 p2 (fun z => hx (r1.nil_iff.mp z)) (fun z => ⟨.ref a, H, I, rfl, q1 (r2.nil_iff.mp z)⟩) (fun z => ?_) (by rw [← r1.length, ← r2.length]; exact hz)
  refine ⟨.ref s.heap.objs.size, _, I.laid (t' := s.toks) (o := .tup (xs ++ ys)) (fun b ob q => Heap.get?_push_of_some _ q) (Nat.le_refl _) ?_, rfl, q2 (fun w => z (r2.nil_iff.mpr w)) _ (I.hok.fresh (Nat.le_refl _))⟩
  exact ⟨by rw [List.length_append]; exact hz, _, r1.append r2, IsTup.new _ _⟩
end
end L2

namespace L2
open PySem PySem.Spec PyProof.Rows

/-- the place that an index of any sign means -/
noncomputable def ixN (n : Nat) (i : Int) : Option Nat := if 0 ≤ i then (if i < n then some i.toNat else none) else if -(n : Int) ≤ i then some (i + n).toNat else none
noncomputable def atI {α : Type} (xs : List α) (i : Int) : Option α := (ixN xs.length i).bind fun j => xs[j]?
theorem ixN_seq {n : Nat} {i : Int} {j : Nat} (h : ixN n i = some j) : seqIndex? i n = some j ∧ j < n ∧ -(n : Int) ≤ i ∧ i < n := by
  unfold ixN at h
  by_cases h0 : 0 ≤ i
  · rw [if_pos h0] at h
    by_cases h1 : i < n
    · rw [if_pos h1] at h
      have e : i.toNat = j := Option.some.inj h
      exact ⟨by rw [seqIndex_of h0 h1, e], by omega, by omega, h1⟩
    · rw [if_neg h1] at h; cases h
  · rw [if_neg h0] at h
    by_cases h1 : -(n : Int) ≤ i
    · rw [if_pos h1] at h
      have e : (i + n).toNat = j := Option.some.inj h
      exact ⟨by rw [seqIndex_neg (by omega) h1, e], by omega, h1, by omega⟩
    · rw [if_neg h1] at h; cases h
theorem atI_get {α : Type} {xs : List α} {i : Int} {v : α} (h : atI xs i = some v) : ∃ j, seqIndex? i xs.length = some j ∧ xs[j]? = some v ∧ j < xs.length ∧ -(xs.length : Int) ≤ i ∧ i < xs.length := by
  unfold atI at h
  cases e : ixN xs.length i with
  | none => rw [e] at h; cases h
  | some j =>
    rw [e] at h
    obtain ⟨h1, h2, h3, h4⟩ := ixN_seq e
    exact ⟨j, h1, h, h2, h3, h4⟩
/-- what stands as an index of a plain subscript -/
noncomputable def PlainIx (b : Expr) : Prop := ∀ o i, subscripted b false o i = operate [o, i] (getItem o i)
/-- a subscript by values -/
noncomputable def IxR (X : Cx) (r : R2) : Prop :=
  ∀ (value slice : Expr) (pins : List (Addr × Obj)) (s : Shared) (σ : St) (H : Hp) (x y : V) (v u : Value) (Q : VK), Inv X pins σ H s → RelV x v → RelV y u → r x y H Q →
    subscripted slice false v u = operate [v, u] (getItem v u) → wpAny (model X.prog X.w) X.A (subscriptTail value slice v u) (EP X pins σ Q) X.xe s
/-- a call of a builtin's method by values: the receiver, the arguments -/
noncomputable def MtR (X : Cx) (id : String) (r : V → List V → Hp → VK → Prop) : Prop :=
  ∀ (pins : List (Addr × Obj)) (s : Shared) (σ : St) (H : Hp) (x : V) (xs : List V) (v : Value) (us : List Value) (Q : VK), Inv X pins σ H s → RelV x v → Vals xs us → r x xs H Q →
    wpAny (model X.prog X.w) X.A (call (.builtin id) (v :: us)) (EP X pins σ Q) X.xe s
section
variable {X : Cx} {a b : Expr} {ta tb : TE} {pos : Pos}
theorem IxR.or {r r' : R2} (h : IxR X r) (h' : IxR X r') : IxR X (fun x y H Q => r x y H Q ∨ r' x y H Q) := by
  intro value slice pins s σ H x y v u Q I rx ry q hs
  rcases q with q | q
  · exact h value slice pins s σ H x y v u Q I rx ry q hs
  · exact h' value slice pins s σ H x y v u Q I rx ry q hs
theorem MtR.or {id : String} {r r' : V → List V → Hp → VK → Prop} (h : MtR X id r) (h' : MtR X id r') : MtR X id (fun x xs H Q => r x xs H Q ∨ r' x xs H Q) := by
  intro pins s σ H x xs v us Q I rx rs q
  rcases q with q | q
  · exact h pins s σ H x xs v us Q I rx rs q
  · exact h' pins s σ H x xs v us Q I rx rs q
/-- a[b] -/
theorem pe_ix {r : R2} (hr : IxR X r) (ha : PE X a ta) (hb : PE X b tb) (hs : PlainIx b) : PE X (.Subscript a b pos) (tOp r ta tb) := by
  intro pins s σ H Q I h
  exact Subscript_ (binT ha hb I h fun v u s2 x y H2 I2 rx ry q => hr a b pins s2 σ H2 x y v u Q I2 rx ry q (hs _ _))

noncomputable def rIxL (K : PySem.W.Frag) : R2 := fun x y H Q => ∃ p xs i v, x = .ref p ∧ y = .int i ∧ SqL K H p xs ∧ atI xs i = some v ∧ Q v H
noncomputable def rIxT (K : PySem.W.Frag) : R2 := fun x y H Q => ∃ p xs i v, x = .ref p ∧ y = .int i ∧ SqT K H p xs ∧ atI xs i = some v ∧ Q v H
noncomputable def rIxS : R2 := fun x y H Q => ∃ z i c, x = .str z ∧ y = .int i ∧ z.length ≤ sizeLine ∧ atI z.cps.toList i = some c ∧ Q (.str ⟨#[c]⟩) H
theorem ix_list : IxR X (rIxL X.K) := by
  intro value slice pins s σ H x y v u Q I rx ry h hs
  obtain ⟨p, xs, i, z, rfl, rfl, hq, he, q⟩ := h
  cases rx
  obtain ⟨t, rfl⟩ := ry
  obtain ⟨its, r, pl, hz⟩ := I.list hq
  obtain ⟨j, h1, h2, h3, h4, h5⟩ := atI_get he
  obtain ⟨w, ew, rw'⟩ := r.get h2
  have hl := r.length
  have hn := line63
  have fin : EP X pins σ Q w s := ⟨z, H, I, rw', q⟩
  by_cases h0 : 0 ≤ i
  · have hj : i.toNat = j := by
      rw [seqIndex_of h0 h5] at h1
      exact Option.some.inj h1
    exact item_listR pl.isList h0 (by omega) (by rw [hj]; simpa using ew) fin hs
  · have hj : (i + (its.toArray.size : Int)).toNat = j := by
      rw [seqIndex_neg (by omega) h4] at h1
      rw [List.size_toArray, ← hl]
      exact Option.some.inj h1
    exact subscriptTail_builtinR (x := w) pl.isList.typeIs slot_list_getitem.lookup
      (wpAny_getItem_list_neg (Q := fun r s' => r = w ∧ EP X pins σ Q r s') pl.isList (by omega) (by rw [List.size_toArray] <;> omega) (by omega) (by rw [hj]; simpa using ew) ⟨rfl, fin⟩) hs
theorem ix_tup : IxR X (rIxT X.K) := by
  intro value slice pins s σ H x y v u Q I rx ry h hs
  obtain ⟨p, xs, i, z, rfl, rfl, hq, he, q⟩ := h
  cases rx
  obtain ⟨t, rfl⟩ := ry
  obtain ⟨its, r, pl, hz⟩ := I.tuple hq
  obtain ⟨j, h1, h2, h3, h4, h5⟩ := atI_get he
  obtain ⟨w, ew, rw'⟩ := r.get h2
  have hl := r.length
  have hn := line63
  have fin : EP X pins σ Q w s := ⟨z, H, I, rw', q⟩
  exact subscriptTail_builtinR (x := w) pl.typeIs slot_tuple_getitem.lookup
    (getItem_tuple (j := j) (Q := fun r s' => r = w ∧ EP X pins σ Q r s') pl (by omega) (by omega) (by rw [List.size_toArray, ← hl]; exact h1) (by simpa using ew) ⟨rfl, fin⟩) hs
theorem ix_str : IxR X rIxS := by
  intro value slice pins s σ H x y v u Q I rx ry h hs
  obtain ⟨z, i, c, rfl, rfl, hz, he, q⟩ := h
  obtain ⟨t, rfl⟩ := rx
  obtain ⟨t', rfl⟩ := ry
  obtain ⟨j, h1, h2, h3, h4, h5⟩ := atI_get he
  have hl : z.cps.toList.length = z.length := by simp [Str.length]
  rw [hl] at h1 h4 h5
  have hn := line63
  exact tail_any (typeIs_str s z t) slot_str_getitem.lookup (getItem_str (c := c) (by
    have e1 : decide (i < -(2 ^ 63 : Int)) = false := decide_eq_false (by omega)
    have e2 : decide (i ≥ 2 ^ 63) = false := decide_eq_false (by omega)
    rw [e1, e2, Bool.or_false]) (by rw [h1]; simpa using h2) ⟨.str ⟨#[c]⟩, H, I.tok _, ⟨_, rfl⟩, q⟩) hs
/-- list, tuple or str -/
noncomputable def rIx (K : PySem.W.Frag) : R2 := fun x y H Q => rIxL K x y H Q ∨ rIxT K x y H Q ∨ rIxS x y H Q
theorem ix_seq : IxR X (rIx X.K) := ix_list.or (ix_tup.or ix_str)

/-- the list's object behind a store -/
theorem mapSeq_set (its : List Value) (n j : Nat) (u : Value) : Obj.mapSeq (·.setIfInBounds j u) { cls := .type "list", data := .seq its.toArray n } = { cls := .type "list", data := .seq (its.set j u).toArray n } := by
  simp [Obj.mapSeq]
theorem Inv.lst {pins : List (Addr × Obj)} {σ : St} {H : Hp} {s : Shared} {p : Addr} {xs : List V} (I : Inv X pins σ H s) (h : H p = some (.lst xs)) :
    ∃ (its : List Value) (n : Nat), Vals xs its ∧ s.heap.get? p = some { cls := .type "list", data := .seq its.toArray n } ∧ xs.length ≤ sizeLine := by
  obtain ⟨z, its, n, r, e⟩ := I.hok p _ h
  exact ⟨its, n, r, e, z⟩
/-- the list at p is written by an update of its object -/
theorem Inv.lstUpd {pins : List (Addr × Obj)} {σ : St} {H : Hp} {s : Shared} {p : Addr} {xs ys : List V} {its its' : List Value} {n n' : Nat} {f : Obj → Obj} (I : Inv X pins σ H s) (h : H p = some (.lst xs))
    (ho : s.heap.get? p = some { cls := .type "list", data := .seq its.toArray n }) (hf : f { cls := .type "list", data := .seq its.toArray n } = { cls := .type "list", data := .seq its'.toArray n' }) (r : Vals ys its') (hz : ys.length ≤ sizeLine) (t : Nat) :
    Inv X pins σ (upd H p (.lst ys)) { s with heap := s.heap.update p f, toks := t } := by
  have e : (s.heap.update p f).get? p = some { cls := .type "list", data := .seq its'.toArray n' } := by
    rw [Heap.get?_update_self f ho (by rw [hf] <;> rfl), hf]
  refine I.write (x := p) (e := p) (by rw [h]; trivial) (.inl rfl) (fun b u hb q => (Heap.get?_update_other _ _ (Ne.symm hb)).trans q) ⟨_, e⟩ ?_
  exact ⟨hz, its', n', r, e⟩
noncomputable def rSetL : V → V → V → Hp → (Hp → Prop) → Prop := fun o i v H Q => ∃ p xs k j, o = .ref p ∧ i = .int k ∧ H p = some (.lst xs) ∧ ixN xs.length k = some j ∧ Q (upd H p (.lst (xs.set j v)))
theorem set_list : PSet X rSetL := by
  intro pins s σ H o i v ov iv u Q I ro ri rv h
  obtain ⟨p, xs, k, j, rfl, rfl, hp, hj, q⟩ := h
  cases ro
  obtain ⟨t, rfl⟩ := ri
  obtain ⟨its, n, r, ho, hz⟩ := I.lst hp
  obtain ⟨h1, h2, h3, h4⟩ := ixN_seq hj
  have hl := r.length
  have hn := line63
  have I' : Inv X pins σ (upd H p (.lst (xs.set j v))) { s with heap := s.heap.update p (Obj.mapSeq (·.setIfInBounds j u)) } :=
    I.lstUpd hp ho (mapSeq_set its n j u) (r.set rv j) (by rw [List.length_set]; exact hz) s.toks
  by_cases h0 : 0 ≤ k
  · have hk : k.toNat = j := by
      rw [seqIndex_of h0 h4] at h1
      exact Option.some.inj h1
    exact PySem.W.ki_setAt ho h0 (by omega) (by rw [List.size_toArray, ← hl]; exact h4) (by rw [hk]; exact ⟨_, I', q⟩)
  · have hk : (k + (its.toArray.size : Int)).toNat = j := by
      rw [seqIndex_neg (by omega) h3] at h1
      rw [List.size_toArray, ← hl]
      exact Option.some.inj h1
    exact PySem.W.ki_setBack ho (by omega) (by rw [List.size_toArray, ← hl]; exact h3) (by omega) (by rw [hk]; exact ⟨_, I', q⟩)

theorem slice_bounds (lo hi : Option Int) (n : Nat) : (sliceBounds lo hi none n).1 = ((HT.sIx n 0 lo : Nat) : Int) ∧ (sliceBounds lo hi none n).2.1 = ((HT.sIx n n hi : Nat) : Int) ∧ (sliceBounds lo hi none n).2.2 = 1 := by
  refine ⟨?_, ?_, rfl⟩
  · cases lo with
    | none => simp [sliceBounds, HT.sIx]
    | some i =>
      simp only [sliceBounds, HT.sIx, Option.getD_none, show (1 : Int) > 0 by decide, if_true]
      by_cases h : i < 0
      · simp only [h, if_true] <;> omega
      · simp only [h, if_false] <;> omega
  · cases hi with
    | none => simp [sliceBounds, HT.sIx]
    | some i =>
      simp only [sliceBounds, HT.sIx, Option.getD_none, show (1 : Int) > 0 by decide, if_true]
      by_cases h : i < 0
      · simp only [h, if_true] <;> omega
      · simp only [h, if_false] <;> omega
theorem slicePick_cut (its : List Value) (lo hi : Option Int) : slicePick its.toArray lo hi none = ((its.drop (HT.sIx its.length 0 lo)).take (HT.sIx its.length its.length hi - HT.sIx its.length 0 lo)).toArray := by
  obtain ⟨h1, h2, h3⟩ := slice_bounds lo hi its.toArray.size
  unfold slicePick
  rw [h1, h2, h3]
  simp only [sliceRange_one, pick_run, List.size_toArray] <;> rfl
/-- xs[lo:hi] of a list: a new list -/
noncomputable def rSlL (K : PySem.W.Frag) : V → Option Int → Option Int → Hp → VK → Prop := fun x lo hi H Q => ∃ a xs, x = .ref a ∧ SqL K H a xs ∧ ∀ p, H p = none → Q (.ref p) (upd H p (.lst (cutV xs lo hi)))
theorem sl_list : SlR X (rSlL X.K) := by
  intro pins s σ H x v vl vu lo hi sl Q I rx hs pl pu h
  obtain ⟨a, xs, rfl, hx, q⟩ := h
  cases rx
  obtain ⟨its, r, ht, hz⟩ := I.list hx
  have hlen := r.length
  refine ⟨"list", _, slot_list_getitem.lookup, ht.isList.typeIs, ?_⟩
  refine wpAny_getItem_list_slice ht.isList hs pl pu .none (by simp) ?_ (by rw [List.size_toArray] <;> omega)
  rw [slicePick_cut, ← hlen]
  refine ⟨.ref s.heap.objs.size, _, I.laid (t' := s.toks) (o := .lst (cutV xs lo hi)) (fun b ob q => Heap.get?_push_of_some _ q) (Nat.le_refl _) ?_, rfl, q _ (I.hok.fresh (Nat.le_refl _))⟩
  exact ⟨Nat.le_trans (cutV_length xs lo hi) hz, _, 0, (r.drop (HT.sIx xs.length 0 lo)).take (HT.sIx xs.length xs.length hi - HT.sIx xs.length 0 lo), Heap.get?_push_size _ rfl⟩

theorem call_len_seq : CallR X (.builtin "len") (fun xs H Q => ∃ p ys, xs = [.ref p] ∧ (SqL X.K H p ys ∨ SqT X.K H p ys) ∧ Q (.int ys.length) H) := by
  intro pins s σ H xs us Q I r h
  obtain ⟨p, ys, rfl, hq, q⟩ := h
  obtain ⟨u, rfl, rx⟩ := vals1 r
  cases rx
  have hn := line63
  rcases hq with hq | hq
  · obtain ⟨its, r', pl, hz⟩ := I.list hq
    have hlen := r'.length
    exact Calls.call_len_list pl.isList (by simp only [List.size_toArray] <;> omega) ⟨.int ys.length, H, I.tok _, ⟨s.toks + 1, by rw [List.size_toArray, hlen]⟩, q⟩
  · obtain ⟨its, r', pl, hz⟩ := I.tuple hq
    have hlen := r'.length
    exact len_tuple pl (by simp only [List.size_toArray] <;> omega) ⟨.int ys.length, H, I.tok _, ⟨s.toks + 1, by rw [List.size_toArray, hlen]⟩, q⟩
theorem call_len_str : CallR X (.builtin "len") (fun xs H Q => ∃ z, xs = [.str z] ∧ z.length ≤ sizeLine ∧ Q (.int z.length) H) := by
  intro pins s σ H xs us Q I r h
  obtain ⟨z, rfl, hz, q⟩ := h
  obtain ⟨u, rfl, t, rfl⟩ := vals1 r
  have hn := line63
  exact len_str (by omega) ⟨.int z.length, H, I.tok _, ⟨_, rfl⟩, q⟩
theorem CallR.or {f : Value} {r r' : List V → Hp → VK → Prop} (h : CallR X f r) (h' : CallR X f r') : CallR X f (fun xs H Q => r xs H Q ∨ r' xs H Q) := by
  intro pins s σ H xs us Q I rs q
  rcases q with q | q
  · exact h pins s σ H xs us Q I rs q
  · exact h' pins s σ H xs us Q I rs q
theorem call_tuple_of : CallR X (.type "tuple") (fun xs H Q => ∃ p ys, xs = [.ref p] ∧ ((SqL X.K H p ys ∧ ∀ l, H l = none → Q (.ref l) (upd H l (.tup ys))) ∨ (SqT X.K H p ys ∧ Q (.ref p) H))) := by
  intro pins s σ H xs us Q I r h
  obtain ⟨p, ys, rfl, h⟩ := h
  obtain ⟨u, rfl, rx⟩ := vals1 r
  cases rx
  rcases h with ⟨hq, q⟩ | ⟨hq, q⟩
  · obtain ⟨its, r', pl, hz⟩ := I.list hq
    have hlen := r'.length
    refine call_tuple_list pl.isList (fun h' kp => ?_) (by simp only [List.size_toArray] <;> omega)
    have I1 : Inv X pins σ H { s with heap := h' } := I.kept (t' := s.toks) kp
    have I2 : Inv X pins σ (upd H h'.objs.size (.tup ys)) { s with heap := h'.push { cls := .type "tuple", data := .seq its.toArray } } :=
      I1.laid (t' := s.toks) (fun b o e => Heap.get?_push_of_some _ e) (Nat.le_refl _) (show ObjOk X.prog X.w _ _ _ (.tup ys) from ⟨hz, its, r', IsTup.new _ _⟩)
    exact ⟨.ref h'.objs.size, _, I2, rfl, q _ (I1.hok.fresh (Nat.le_refl _))⟩
  · obtain ⟨its, r', pl, hz⟩ := I.tuple hq
    exact call_tuple_same pl ⟨.ref p, H, I, rfl, q⟩

/-- the value is of that builtin type -/
noncomputable def tyV (K : PySem.W.Frag) (T : String) (x : V) (H : Hp) : Prop := match x with
  | .str _ => T = "str"
  | .int _ => T = "int"
  | .ref p => (T = "list" ∧ ∃ xs, SqL K H p xs) ∨ (T = "tuple" ∧ ∃ o, K.lookup p = some o ∧ o.cls = .type "tuple" ∧ o.dict = none) ∨
      (T = "dict" ∧ ((∃ kvs, H p = some (.dK kvs)) ∨ ∃ kvs, H p = some (.dT kvs))) ∨ (T = "set" ∧ ∃ S n, H p = some (.set S n))
  | _ => False
theorem tyV_is {pins : List (Addr × Obj)} {σ : St} {H : Hp} {s : Shared} {T : String} {x : V} {v : Value} (I : Inv X pins σ H s) (r : RelV x v) (ty : tyV X.K T x H) :
    s.TypeIs v T ∧ ∀ a, v = .ref a → ∃ ob, s.heap.get? a = some ob ∧ ob.dict = none := by
  cases x with
  | str z =>
    obtain ⟨t, rfl⟩ := r
    cases (show T = "str" from ty)
    exact ⟨typeIs_str s z t, fun _ e => nomatch e⟩
  | int i =>
    obtain ⟨t, rfl⟩ := r
    cases (show T = "int" from ty)
    exact ⟨typeIs_int s i t, fun _ e => nomatch e⟩
  | ref p =>
    cases r
    rcases ty with ⟨rfl, xs, hq⟩ | ⟨rfl, o, hk, hc, hd⟩ | ⟨rfl, hk⟩ | ⟨rfl, S, n, hk⟩
    · obtain ⟨its, _, pl, _⟩ := I.list hq
      refine ⟨pl.isList.typeIs, fun a e => ?_⟩
      cases e
      obtain ⟨o, n, e, c, hd, _⟩ := pl
      exact ⟨o, e, hd⟩
    · refine ⟨⟨o, I.kIn p o hk, hc⟩, fun a e => ?_⟩
      cases e
      exact ⟨o, I.kIn _ o hk, hd⟩
    · have z : ∃ o, s.heap.get? p = some o ∧ o.ExactDict := by
        rcases hk with ⟨kvs, hk⟩ | ⟨kvs, hk⟩
        · obtain ⟨_, _, _, _, o, _, _, e, ex, _⟩ := I.hok p _ hk
          exact ⟨o, e, ex⟩
        · obtain ⟨_, _, _, _, o, _, _, e, ex, _⟩ := I.hok p _ hk
          exact ⟨o, e, ex⟩
      obtain ⟨o, e, ex⟩ := z
      refine ⟨⟨o, e, ex.1⟩, fun a e2 => ?_⟩
      cases e2
      exact ⟨o, e, ex.2.1⟩
    · obtain ⟨o, _, _, _, e, ex, _⟩ := I.hok p _ hk
      refine ⟨⟨o, e, ex.1⟩, fun a e2 => ?_⟩
      cases e2
      exact ⟨o, e, ex.2.1⟩
  | _ => exact False.elim ty
noncomputable def tBM (K : PySem.W.Frag) (T : String) (r : V → List V → Hp → VK → Prop) (to : TE) (t : TA) : TE := fun σ H Q => to σ H fun x H1 => tyV K T x H1 ∧ t σ H1 fun xs H2 => r x xs H2 Q
variable {o e : Expr} {es : List Expr} {to : TE} {t : TA} {name : Str} {apos cpos : Pos} {T id : String} {r : V → List V → Hp → VK → Prop}
theorem pe_bm (pa : PlainAttrs T) (slot : Slot T name id) (hty : typeOf (.builtin id) = pure (.type "method_descriptor")) (hm : MtR X id r) (ho : PE X o to) (ha : PA X (e :: es) t)
    (hbase : attributeBase o name X.env (eval o X.env) = eval o X.env := by rfl)
    (hfew : ((backTo cpos (starEach (e :: es) X.env)).all (fun x => !x.1) && (backToKw cpos (keywordEach [] X.env)).all (fun x => x.1.isSome)
      && decide ((e :: es).length + ([] : List Keyword).length + (if ([] : List Keyword).isEmpty then 0 else 1) < 30)) = true := by rfl)
    (hline : (apos.endLine == cpos.line) = true := by rfl) (hs : starEach (e :: es) X.env = (false, eval e X.env) :: starEach es X.env := by rfl) (hplain : (backTo cpos (starEach es X.env)).any (·.1) = false := by rfl) :
    PE X (.Call (.Attribute o name apos) (e :: es) [] cpos) (tBM X.K T r to t) := by
  intro pins s σ H Q I h
  refine wpAny_Call_method_late hbase hfew hline rfl (thn (ho pins s σ H _ I h) fun v s1 ⟨x, H1, I1, r1, ty, q1⟩ => ?_)
  obtain ⟨h1, h2⟩ := tyV_is I1 r1 ty
  refine ⟨T, id, pa, slot, hty, h1, h2, ?_⟩
  have hA := ha cpos pins s1 σ H1 _ I1 q1
  rw [hs] at hA ⊢
  refine Calls.callWith_builtin (by show (false || (backTo cpos (starEach es X.env)).any (·.1)) = false; rw [hplain] <;> rfl) (Calls.evalArgs_plain ?_)
  exact thn hA fun us s2 ⟨vs, H2, I2, r2, q2⟩ => hm pins s2 σ H2 x vs v us Q I2 r1 r2 q2
/- xs.append(e), list.index on a module's tuple .. are MtR facts of 06m -/
end
end L2

namespace L2
open PySem PySem.Spec PyProof.Rows

noncomputable def MtM (X : Cx) (id : String) (r : V → List V → Hp → VK → Prop) : Prop :=
  ∀ (pins : List (Addr × Obj)) (s : Shared) (σ : St) (H : Hp) (x : V) (xs : List V) (v : Value) (us : List Value) (Q : VK), Inv X pins σ H s → RelV x v → Vals xs us → r x xs H Q →
    wpAny (model X.prog X.w) X.A (call (.builtin id) (v :: us)) (EP X pins σ Q) X.xe s

theorem Vals.one : ∀ {x : V} {us : List Value}, Vals [x] us → ∃ u, us = [u] ∧ RelV x u
  | _, _, .cons r .nil => ⟨_, rfl, r⟩
theorem Vals.two : ∀ {x y : V} {us : List Value}, Vals [x, y] us → ∃ u v, us = [u, v] ∧ RelV x u ∧ RelV y v
  | _, _, _, .cons r (.cons q .nil) => ⟨_, _, rfl, r, q⟩
theorem Vals.zero : ∀ {us : List Value}, Vals [] us → us = []
  | _, .nil => rfl
theorem Vals.reverse {xs : List V} {us : List Value} (h : Vals xs us) : Vals xs.reverse us.reverse := by
  induction h with
  | nil => exact .nil
  | cons r t ih => rw [List.reverse_cons, List.reverse_cons]; exact Vals.append ih (.cons r .nil)
section
variable {X : Cx} {pins : List (Addr × Obj)} {σ : St} {H : Hp} {s : Shared} {l b : Addr} {xs ys zs : List V}

theorem Inv.lset {its its' : List Value} {n : Nat} {f : Array Value → Array Value} {t' : Nat} (I : Inv X pins σ H s) (hH : H l = some (.lst xs))
    (e : s.heap.get? l = some { cls := .type "list", data := .seq its.toArray n }) (hf : f its.toArray = its'.toArray) (hv : Vals ys its') (hz : ys.length ≤ sizeLine) :
    Inv X pins σ (upd H l (.lst ys)) { s with heap := s.heap.update l (Obj.mapSeq f), toks := t' } := by
  have q := PySem.IsL.update e f
  rw [hf] at q
  refine I.write (x := l) (e := l) (by rw [hH]; exact trivial) (.inl rfl) (fun b' u hb hu => (Heap.get?_update_other s.heap (Obj.mapSeq f) (Ne.symm hb)).trans hu) ⟨_, q⟩ ?_
  exact ⟨hz, its', _, hv, q⟩
theorem Inv.lnew {its : List Value} {t' : Nat} (I : Inv X pins σ H s) (hv : Vals ys its) (hz : ys.length ≤ sizeLine) :
    Inv X pins σ (upd H s.heap.objs.size (.lst ys)) { s with heap := s.heap.push { cls := .type "list", data := .seq its.toArray }, toks := t' } :=
  I.laid (fun _ _ q => Heap.get?_push_of_some _ q) (Nat.le_refl _) ⟨hz, its, 0, hv, Heap.get?_push_size _ rfl⟩
theorem Inv.fresh (I : Inv X pins σ H s) : H s.heap.objs.size = none := I.hok.fresh (Nat.le_refl _)
theorem Inv.lstM (I : Inv X pins σ H s) (hH : H l = some (.lst xs)) : xs.length ≤ sizeLine ∧ ∃ (its : List Value) (n : Nat), Vals xs its ∧ xs.length = its.length ∧ s.heap.get? l = some { cls := .type "list", data := .seq its.toArray n } := by
  obtain ⟨z, its, n, r, e⟩ := I.hok l _ hH
  exact ⟨z, its, n, r, r.length, e⟩

theorem notLongL {n : Nat} (h : n ≤ sizeLine) : Builtin.List.listTooLong n = false := by
  unfold Builtin.List.listTooLong
  exact decide_eq_false (by omega)
end

section
variable {X : Cx}

noncomputable def rAppend : V → List V → Hp → VK → Prop := fun x vs H Q => ∃ l xs y, x = .ref l ∧ vs = [y] ∧ H l = some (.lst xs) ∧ xs.length < sizeLine ∧ Q .non (upd H l (.lst (xs ++ [y])))
theorem mt_append : MtM X "list.append" rAppend := by
  intro pins s σ H x vs v us Q I rx rv h
  obtain ⟨l, xs, y, rfl, rfl, hH, hz, q⟩ := h
  cases rx
  obtain ⟨u, rfl, ru⟩ := rv.one
  obtain ⟨z, its, n, r, hl, e⟩ := I.lstM hH
  refine call_meets F.slot_list_append ⟨_, e, rfl⟩ F.entry_list_append (F.args_list_append_2 _ _) (PySem.list_append l its.toArray n u (by rw [List.size_toArray]; omega)) ⟨e, ?_⟩
  refine ⟨.non, _, I.lset (its' := its ++ [u]) hH e (by simp) (r.append (.cons ru .nil)) ?_, rfl, q⟩
  rw [List.length_append, List.length_singleton]
  omega

noncomputable def rExtend : V → List V → Hp → VK → Prop := fun x vs H Q => ∃ l b xs zs, x = .ref l ∧ vs = [.ref b] ∧ H l = some (.lst xs) ∧ H b = some (.lst zs) ∧ xs.length + zs.length ≤ sizeLine ∧ Q .non (upd H l (.lst (xs ++ zs)))
theorem mt_extend : MtM X "list.extend" rExtend := by
  intro pins s σ H x vs v us Q I rx rv h
  obtain ⟨l, b, xs, zs, rfl, rfl, hH, hB, hz, q⟩ := h
  cases rx
  obtain ⟨u, rfl, ru⟩ := rv.one
  cases ru
  obtain ⟨z, its, n, r, hl, e⟩ := I.lstM hH
  obtain ⟨z2, its2, n2, r2, hl2, e2⟩ := I.lstM hB
  have hsz : its.toArray.size + its2.toArray.size ≤ sizeLine := by rw [List.size_toArray, List.size_toArray]; omega
  have hlong : ¬ (!its.toArray.isEmpty && Builtin.List.listTooLong (its.toArray.size + its2.toArray.size)) = true := by
    rw [notLongL hsz, Bool.and_false]
    exact Bool.false_ne_true
  refine call_meets F.slot_list_extend ⟨_, e, rfl⟩ F.entry_list_extend (F.args_list_extend_2 _ _)
    (AutoSeq1.list_extend_list_list_0 l its.toArray n b its2.toArray n2 hlong (by rw [List.size_toArray]; omega) (by omega)) ⟨e, e2, ?_⟩
  refine ⟨.non, _, I.lset (its' := its ++ its2) hH e (by simp) (r.append r2) ?_, rfl, q⟩
  rw [List.length_append]
  omega

end

section
variable {prog : Program} {w : World} {A : Around} {E : Value → Shared → Prop} {s : Shared}
end

section
variable {X : Cx}
end
end L2

namespace Att
open PySem PySem.W PySem.Calls PyProof.Rows

theorem ints_of_wellAll {P : Params} {h : Heap} : ∀ (ns : List Int) (vs : List Value), WellAll P h vs (ns.map WData.int) → IntsAre vs ns := by
  intro ns
  induction ns with
  | nil =>
    intro vs w
    rw [List.map_nil] at w
    cases w
    exact .nil
  | cons n ns ih =>
    intro vs w
    rw [List.map_cons] at w
    cases w with
    | cons a b =>
      cases a
      exact .cons _ _ (ih _ b)

theorem script_of {l : OpenLaw} {n : Nat} (hn : l.most = some n) {P : Params} {h : Heap} {args : List WData} {vals : List Value}
    (hpre : l.row.toRowW.claim.pre args = true) (hwl : WellAll P h vals args) :
    ∃ a vs ns, vals = [Value.ref a] ∧ args = [WData.list (ns.map WData.int)] ∧ h.get? a = some { cls := .type "list", data := .seq vs.toArray } ∧ IntsAre vs ns ∧ ns.length ≤ n := by
  have hsh : WShape.hasAll [] args [.list .int] = true := (pre_splitW hpre).1
  have hc : l.pre.holds [] { args := args } = true := (pre_splitW hpre).2
  obtain ⟨d, r, rfl, h1, h2⟩ := hasAllW_cons hsh
  obtain rfl := hasAllW_nil h2
  obtain ⟨xs, rfl, h3⟩ := hasW_list h1
  obtain ⟨ns, rfl⟩ := items_int h3
  have hlen : ns.length ≤ n := by
    unfold OpenLaw.pre at hc
    have h4 : (WTm.not (.lt (.lit (.int (n : Int))) (.len (.arg 0)))).holds [] { args := [.list (ns.map .int)] } = true := by
      have h4 := (holds_andW hc).1
      rw [hn] at h4
      exact h4
    have h5 := condW_of h4 (w_not (w_lt w_lit (w_len_list (w_arg rfl))))
    rw [List.length_map] at h5
    refine Nat.le_of_not_lt fun q => ?_
    have q' : (n : Int) < ((ns.length : Nat) : Int) := by omega
    first
      | (rw [decide_eq_true q'] at h5; exact absurd h5 (by decide))
      | (simp at h5; omega)
  cases hwl with
  | cons w1 w2 =>
    cases w2
    cases w1 with
    | list ho hall => exact ⟨_, _, ns, rfl, rfl, ho, ints_of_wellAll ns _ hall, hlen⟩

theorem post_true (l : OpenLaw) (args : List WData) : l.row.toRowW.claim.post args (.bool true) args = true :=
  postW_of (r := l.row.toRowW) (X := (true == true))
    (show WShape.has [] (.bool true) .bool = true by first | rfl | decide | simp [WShape.has, WShape.arms, WShape.armsAll])
    (show (WTm.eq .res (.lit (.bool true))).value [] { args := args, res := some (.bool true), after := args } = some (.bool (true == true)) from w_eq_bool (w_res rfl) w_lit) rfl

/-- the same from a codeAny of the CALL (for a layer whose function contracts speak of calls) -/
theorem attach_call {l : OpenLaw} {n : Nat} {q : Program} {loose : List Str} {XP : (Str → Option Value) → Heap → Prop} {YP : World → Heap → Prop} {d : DefRec}
    (hn : l.most = some n) (hdf : d.params.defaults = [])
    (call : ∀ (w : World) (s₀ s₁ : Shared) (mg mb : Str → Option Value) (fa : Addr) (o : Obj) (pm cd doc : Value) (a : Addr) (vs : List Value) (ns : List Int),
      Ground q loose [] XP w s₀ mg mb s₁.heap → YP w s₁.heap →
      s₁.heap.get? fa = some o → o.data = .func (docDef d.name d.params d.body d.scope pm cd doc) → s₁.heap.CodeRec cd d.name → mg d.name = some (.ref fa) →
      s₁.heap.get? a = some { cls := .type "list", data := .seq vs.toArray } → IntsAre vs ns → ns.length ≤ n → s₁.gens = #[] →
      codeAny (model l.prog w) callerA (.call (.ref fa) ⟨[.ref a], []⟩) (fun r s' => r = .ok (.ret (.bool true)) ∧ OldK s₁.heap s'.heap ∧ s'.os = s₁.os ∧ AllBare s'.gens) s₁) :
    WalkO q loose XP YP l.row.toRowW d [] (fun f vs => PySem.call f vs) := by
  intro w s₀ s₁ mg mb G Y fa o pm cd doc dV kV ho hd hcd hD hmg hg args vals as hpre hlay hrd hwl hlo
  obtain rfl : dV = .none := Dflts.none hD hdf
  obtain rfl : kV = .none := Dflts.noKw hD
  obtain ⟨a, vs, ns, rfl, rfl, hobj, hints, hlen⟩ := script_of hn hpre hwl
  refine enter_call (codeAny_mono (call w s₀ s₁ mg mb fa o pm cd doc a vs ns G Y ho (fd_plain hd) hcd hmg hobj hints hlen hg) fun r s' hq => ?_)
  obtain ⟨rfl, h2, h3, h4⟩ := hq
  exact ⟨.inl ⟨.bool true, .bool true, [], rfl, fun _ => rfl, .bool true, post_true l _, fun _ => ⟨List.Pairwise.nil, fun _ hm => (nomatch hm)⟩⟩, h2, h3, h4⟩

section
variable {prog : Program} {w : World} {A : Around} {E : Value → Shared → Prop} {s : Shared} {K : Frag}

/-- C(..): dict at size, instance at size + 1, then __init__ -/
theorem make_obj {R : Result → Shared → Prop} {C fI : Addr} {rest : List Value} {kw : List (Str × Value)}
    (X : K.In s.heap) (hm : makesIn K C = true) (hi : findIn K (.ref C) "__init__" = some (some (.ref fI))) (hf : isFn K (.ref fI) = true)
    (h : codeAny (model prog w) (A.under (.builtin "type.__call__" ⟨.ref C :: rest, kw⟩)) (.call (.ref fI) ⟨.ref (s.heap.objs.size + 1) :: rest, kw⟩) (InitBack (s.heap.objs.size + 1) R)
      { s with heap := (s.heap.push emptyDict).push (instObj C s.heap.objs.size) }) : codeAny (model prog w) A (.call (.ref C) ⟨rest, kw⟩) R s := by
  obtain ⟨hh, g, d, t, os⟩ := s
  exact make_core (makes_of X hm) (looks_findIn X hi) (fun self => bind_fn X self (beq_iff_eq.mp hf)) (.inl rfl) h

/-- x.name where the instance's dict holds the name and the class does not -/
theorem get_field {x C : Addr} {ox : Obj} {es : List DictEntry} {n : Nat} {name : Str} {expr : Bool} {v : Value} {Q : Value → Shared → Prop}
    (X : K.In s.heap) (I : PySem.W.InstAt s.heap x ox C (some (dictOf es n))) (hg : plainGet K C name = true) (hh : hasDictIn K C = true) (ha : findIn K (.ref C) name = some none)
    (hl : getL name es = some (some v)) (hv : handedIn v = true) (h : Q v { s with toks := s.toks + 1 }) : wpAny (model prog w) A (getAttr (.ref x) name expr) Q E s :=
  get_value X I (plainGet_of hg).1 (findObj_own hh ha rfl hl) hv h

noncomputable def ledger (h : Heap) (L d : Addr) : List (Addr × Obj) := (List.range h.objs.size).filterMap fun a => if a = L ∨ a = d then none else (h.get? a).map fun o => (a, o)
end
end Att

namespace L2
open PySem PySem.Spec PyProof.Rows

theorem vals_ints : ∀ {vs : List Value} {ns : List Int}, IntsAre vs ns → Vals (ns.map V.int) vs
  | _, _, .nil => .nil
  | _, _, .cons n t h => .cons ⟨t, rfl⟩ (vals_ints h)

/-- nothing is tracked but the script, known to the object (or it is an object of the module) -/
noncomputable def Only (H : Hp) : Prop := ∀ b, H b = none ∨ ∃ o xs, H b = some (.frz o (.lst xs))

/-- THE HEAD: the law's promise, at the heap behind the top. F, the promise of the law's def, may use that base is part of the heap (so K.In base, base.Ns mainGlobals mg stand in Mod) -/
theorem law_call {P : Program} {w : World} {K : PySem.W.Frag} {mg mb : Str → Option Value} {CX : CXT} {k : Nat} {fa a : Addr} {fd : FuncData} {x : Str} {sp : Sp} {s₁ : Shared} {vs : List Value} {ns : List Int}
    (KX : K.In s₁.heap) (hns : s₁.heap.Ns mainGlobals mg) (hb : s₁.heap.Ns builtinsNs mb) (hbb : ∀ x : Str, x ≠ "__name__" → mb x = bootBuiltins x) (hlim : s₁.heap.NoLimit) (hg : s₁.gens = #[])
    (ha : s₁.heap.get? a = some { cls := .type "list", data := .seq vs.toArray }) (hi : IntsAre vs ns) (hl : ns.length ≤ sizeLine) (hr : Room k callerA)
    (F : ∀ base : Heap, K.In base → base.Ns mainGlobals mg → FnOk P w K mg base CX k fa fd [x] sp) (hbind : ∀ (s : Shared) (u : Value), BindsTo s fd ⟨[u], []⟩ [(x, u)])
    (hsp : ∀ H : Hp, Only H → SqL K H a (ns.map V.int) → sp [.ref a] H (fun v _ => v = .bl true) fun _ _ _ => False)
    (hCX : ∀ H e s', CX [] H s₁ (fun _ _ _ => False) e s' → False) :
    codeAny (model P w) callerA (.call (.ref fa) ⟨[.ref a], []⟩) (fun r s' => r = .ok (.ret (.bool true)) ∧ OldK s₁.heap s'.heap ∧ s'.os = s₁.os ∧ AllBare s'.gens) s₁ := by
  have rv := vals_ints hi
  have lenV := hi.length
  -- from an abstract heap in which nothing but the script may be tracked
  have core : ∀ H : Hp, Only H → SqL K H a (ns.map V.int) → HOk P w H s₁.heap → (∀ b, H b ≠ none → b = a) → (H a ≠ none → K.lookup a = none) →
      codeAny (model P w) callerA (.call (.ref fa) ⟨[.ref a], []⟩) (fun r s' => r = .ok (.ret (.bool true)) ∧ OldK s₁.heap s'.heap ∧ s'.os = s₁.os ∧ AllBare s'.gens) s₁ := by
    intro H hO hS hok hA hK
    have base_of : ∀ {b : Addr} {o : Obj}, s₁.heap.get? b = some o → H b = none → (hidT s₁.heap H).get? b = some o := fun e n => hidT_get e n
    have noA : ∀ {b : Addr} {o : Obj} {es : Array DictEntry} {ep : Nat}, s₁.heap.get? b = some o → o.data = .dict es ep → H b = none := fun {b o es ep} e d => by
      cases q : H b with
      | none => rfl
      | some u =>
        have e' : b = a := hA b (by rw [q]; simp)
        subst e'
        rw [ha] at e; cases e
        have d' : Data.seq vs.toArray _ = Data.dict es ep := d
        cases d'
    have nsK : ∀ {b : Addr} {m : Str → Option Value}, s₁.heap.Ns b m → (hidT s₁.heap H).Ns b m := fun {b m} ⟨o, es, ep, e, d, r⟩ => ⟨o, es, ep, base_of e (noA e d), d, r⟩
    have hKb : K.In (hidT s₁.heap H) := fun b o e => base_of (KX b o e) (by
      cases q : H b with
      | none => rfl
      | some u =>
        have e' : b = a := hA b (by rw [q]; simp)
        subst e'
        rw [hK (by rw [q]; simp)] at e; cases e)
    have hM : Mod K mg (hidT s₁.heap H) := ⟨hKb, nsK hns, ⟨mb, nsK hb, hbb⟩, let ⟨mc, h1, h2⟩ := hlim; ⟨mc, nsK h1, h2⟩⟩
    have e0 : Env0 P w K mg (hidT s₁.heap H) callerA [] s₁ H := ⟨rfl, hM, fun b o e => of_hidT e, Nat.le_of_eq (hidT_size _ _), trivial, fun b hb => absurd (show b ∈ ([] : List Addr) from hb) (by simp), hok, .of_eq hg⟩
    refine codeAny_mono ((F _ hKb (nsK hns)).run callerA [] s₁ H ⟨[.ref a], []⟩ [.ref a] [.ref a] _ _ hr e0 (hbind s₁ (.ref a)) (.cons rfl .nil) (hsp H hO hS)) fun r s' h => ?_
    cases r with
    | error e => exact (hCX H e s' h).elim
    | ok fl =>
      cases fl with
      | next => exact False.elim h
      | brk => exact False.elim h
      | cont => exact False.elim h
      | ret u =>
        obtain ⟨v, H', os, bare, un, hok', r', q⟩ := h
        have q' : v = .bl true := q
        subst q'
        obtain rfl : u = Value.bool true := r'
        refine ⟨rfl, OldK.of_keep fun b o e => ?_, os, bare⟩
        cases q : H b with
        | none => exact un.keep b o e q (by intro z; exact absurd (show b ∈ ([] : List Addr) from z) (by simp)) (by simp)
        | some u =>
          rcases hO b with z | ⟨ob, xs, z⟩
          · rw [q] at z; cases z
          · have z2 := un.frzs b ob _ z
            obtain ⟨e1, _⟩ := hok b _ z
            obtain ⟨e2, _⟩ := hok' b _ z2
            rw [e] at e1; cases e1
            exact e2
  cases hk : K.lookup a with
  | some o =>
    -- the script is one of the module's own objects
    have e := KX a o hk
    rw [ha] at e
    cases e
    refine core (fun _ => none) (fun _ => .inl rfl) (.inr ⟨_, vs.toArray, _, hk, rfl, rfl, rfl, by rw [List.size_toArray, lenV]; exact hl, by simpa using rv⟩) (fun b u z => by have z' : (none : Option HO) = some u := z; cases z') (fun b z => absurd rfl z) fun z => absurd rfl z
  | none =>
    refine core (fun b => if b = a then some (.frz { cls := .type "list", data := .seq vs.toArray } (.lst (ns.map V.int))) else none) (fun b => ?_) (.inl (.inr ⟨{ cls := .type "list", data := .seq vs.toArray }, if_pos rfl⟩)) (fun b u z => ?_) (fun b z => ?_) fun _ => hk
    · by_cases hb : b = a
      · exact .inr ⟨_, _, if_pos hb⟩
      · exact .inl (if_neg hb)
    · by_cases hb : b = a
      · have z' := (if_pos hb).symm.trans z
        cases z'
        subst hb
        exact ⟨ha, by rw [List.length_map]; exact hl, vs, _, rv, ha⟩
      · have z' := (if_neg hb).symm.trans z
        cases z'
    · by_cases hb : b = a
      · exact hb
      · exact absurd (if_neg hb) z
end L2

namespace L2
open PySem PySem.Spec PyProof.Rows

noncomputable abbrev KOf {K : PySem.W.Frag} {h : Heap} (_ : K.In h) : PySem.W.Frag := K

/-- the goal that k_head leaves (case hc), from the law's promise. F gives the function object fd (K's own) once, then the promise over every base -/
theorem walk_of {l : PySem.W.OpenLaw} {n k : Nat} {q : Program} {loose : List Str} {XP : (Str → Option Value) → Heap → Prop} {YP : World → Heap → Prop} {d : DefRec} {K : Params → PySem.W.Frag} {CX : World → CXT} {sp : World → Sp} {x : Str}
    (hn : l.most = some n) (hn2 : n ≤ sizeLine) (hdf : d.params.defaults = []) (hr : Room k callerA)
    (hY : ∀ (w : World) (h : Heap), YP w h → (K w.params).In h)
    (F : ∀ (w : World) (mg : Str → Option Value) (fa : Addr) (h : Heap), (K w.params).In h → h.Ns mainGlobals mg → mg d.name = some (.ref fa) →
      ∃ fd : FuncData, (∀ (s : Shared) (u : Value), BindsTo s fd ⟨[u], []⟩ [(x, u)]) ∧
        ∀ base : Heap, (K w.params).In base → base.Ns mainGlobals mg → FnOk l.prog w (K w.params) mg base (CX w) k fa fd [x] (sp w))
    (hsp : ∀ (w : World) (H : Hp) (a : Addr) (ns : List Int), ns.length ≤ n → Only H → SqL (K w.params) H a (ns.map V.int) → sp w [.ref a] H (fun v _ => v = .bl true) fun _ _ _ => False)
    (hCX : ∀ (w : World) (H : Hp) (s : Shared) (e : Value) (s' : Shared), CX w [] H s (fun _ _ _ => False) e s' → False) :
    PySem.W.WalkO q loose XP YP l.row.toRowW d [] (fun f vs => PySem.call f vs) := by
  refine Att.attach_call hn hdf fun w s₀ s₁ mg mb fa o pm cd doc a vs ns G Y ho hd hcd hmg hobj hints hlen hg => ?_
  have KX := hY w _ Y
  obtain ⟨fd, hb, hF⟩ := F w mg fa _ KX G.T.g hmg
  exact law_call KX G.T.g G.T.b G.T.builtins G.T.nolimit hg hobj hints (Nat.le_trans hlen hn2) hr hF hb (fun H hO hS => hsp w H a ns hlen hO hS) fun H e s' => hCX w H s₁ e s'
end L2

/- THE LAST THEOREM (shape; LID, My.* are yours):
   My.Adr: a structure of the addresses that your layer names (classes, functions); My.Txt K t: a structure (Prop) of the equations over K;
   My.txt_mk : {K} {implicit addresses ..} (e1 : nsIn K mainGlobals "law" = some (some (.ref f))) (e2 : K.lookup f = some ⟨oc, od, .func (fnOf "law" "law" params body scope dV kV doc pm an cdv ct), sl⟩) (e3 : codeIn K cdv "law" = true) .. : ∃ t, My.Txt K t

set_option maxRecDepth 100000 in
set_option maxHeartbeats 0 in
theorem PySem.Challenge.cw_LID_holds : PySem.Challenge.rw_LID.Holds := by
  w_on; o_law; k_head; (case hw => w_witness2)
  k_fill
  refine L2.walk_of (l := PySem.Challenge.rw_LID) (n := 63) (k := 40) (x := "script") (CX := fun w => ..) (sp := fun _ => My.sp_law) rfl (by decide) rfl ⟨rfl, by decide, by decide⟩ (fun w h Y => PySem.W.kIn_of Y) ?F ?S ?C
  case F =>
    intro w mg fa h KX G hmg
    have T : ∃ t, My.Txt (L2.KOf KX) t := by
      dsimp only [L2.KOf]                          -- K must stand as «<heap const> w.params» for k_is
      refine' My.txt_mk ?e1 ?e2 ?e3 ..
      (case e1 => PySem.W.k_is)                    -- in the order: a name -> its address -> its object -> its parts
      (case e2 => PySem.W.k_is)
      ..
    obtain ⟨t, T⟩ := T
    have e0 := hmg.symm.trans (PySem.W.mg_of KX G T.law)
    cases e0                                       -- fa is the law's own address
    exact ⟨_, fun s u => .of_eq rfl, fun base kb nb => My.law_fn T kb nb⟩     -- if «.of_eq rfl» comes too early: refine' ⟨_, ?b, fun base kb nb => My.law_fn T kb nb⟩; exact fun s u => .of_eq rfl
  case S => exact fun w H a ns hl hO hS => ..
  case C => exact ..
(the tactic k_is has no namespace: write k_is) -/

namespace L2
open PySem PySem.Spec PyProof.Rows

noncomputable def defArgs (s : Stmt) : Arguments := match s with
  | .FunctionDef _ a _ _ _ _ _ _ _ _ => a
  | _ => { posonlyargs := [], args := [], vararg := none, kwonlyargs := [], kw_defaults := [], kwarg := none, defaults := [] }
noncomputable def defBody (s : Stmt) : List Stmt := match s with
  | .FunctionDef _ _ b _ _ _ _ _ _ _ => b
  | _ => []
noncomputable def defScope (s : Stmt) : Scope := match s with
  | .FunctionDef _ _ _ _ _ _ sc _ _ _ => sc
  | _ => { kind := .function, names := [], isGenerator := false, isCoroutine := false }

noncomputable abbrev CX0 : CXT := fun _ _ _ _ _ _ => False
noncomputable abbrev E0 : XK := fun _ _ _ => False
theorem pass0 {X : Cx} : Passes CX0 X E0 := fun _ _ _ _ _ _ _ h => h.elim

structure Fun (K : PySem.W.Frag) (x qual : Str) (st : Stmt) (f : Addr) (fd : FuncData) : Prop where
  ex : ∃ (oc : Value) (od : Option Addr) (kV doc pm : Value) (an : Option Addr) (cdv ct : Value) (osl : Array (Option Value)),
    fd = PySem.W.fnOf x qual (defArgs st) (defBody st) (defScope st) .none kV doc pm an cdv ct ∧ K.lookup f = some ⟨oc, od, .func fd, osl⟩ ∧ PySem.W.codeIn K cdv qual = true
  kp : PySem.W.keepIn K (.ref f) = true
section
variable {P : Program} {w : World} {K : PySem.W.Frag} {mg : Str → Option Value} {base : Heap}
/-- THE RULE for a def: its body as a term of rules, and the reading of that term -/
theorem Fun.ok {x qual : Str} {st : Stmt} {f : Addr} {fd : FuncData} {N ps : List Str} {k : Nat} {sp : Sp} (F : Fun K x qual st f fd) (S : FnScope N ps (defScope st)) (len : ∀ vs H Q E, sp vs H Q E → vs.length = ps.length)
    (hbody : ∀ (cdv : Value) (A : Around) (outer : List Env) (s : Shared) (H : Hp) (vs : List V) (Q : VK) (E : XK), Room k (A.deeper (envOfC qual (defScope st) s.heap.objs.size f cdv)) → sp vs H Q E →
      ∃ t, PSs (cxOf CX0 P w K mg base N qual (defScope st) f cdv A outer s H E).nox (defBody st) t ∧ t { nx := fun _ H' => Q .non H', rt := Q } (start N vs) H) : FnOk P w K mg base CX0 (k + 1) f fd ps sp := by
  obtain ⟨oc, od, kV, doc, pm, an, cdv, ct, osl, rfl, lk, hcd⟩ := F.ex
  refine fn_of lk hcd S len fun A outer s H vs Q E hr hsp => ?_
  obtain ⟨t, h, q⟩ := hbody cdv A outer s H vs Q E hr hsp
  exact ⟨t, h.nox, q⟩
/-- how its arguments bind (no defaults): h is «fun _ _ _ _ _ _ us hl => match us, hl with | [_, _], _ => rfl», one _ a parameter -/
theorem Fun.binds {x qual : Str} {st : Stmt} {f : Addr} {fd : FuncData} {ps : List Str} (F : Fun K x qual st f fd)
    (h : ∀ (kV doc pm : Value) (an : Option Addr) (cdv ct : Value) (us : List Value), us.length = ps.length → bindArgs (PySem.W.fnOf x qual (defArgs st) (defBody st) (defScope st) .none kV doc pm an cdv ct) ⟨us, []⟩ = pure (ps.zip us)) : Binds K fd ps [] := by
  obtain ⟨oc, od, kV, doc, pm, an, cdv, ct, osl, rfl, lk, hcd⟩ := F.ex
  exact .all (h kV doc pm an cdv ct)
theorem fun_mk {x qual : Str} {st : Stmt} {f : Addr} {oc : Value} {od an : Option Addr} {osl : Array (Option Value)} {kV doc pm cdv ct : Value} (l : K.lookup f = some ⟨oc, od, .func (PySem.W.fnOf x qual (defArgs st) (defBody st) (defScope st) .none kV doc pm an cdv ct), osl⟩)
    (c : PySem.W.codeIn K cdv qual = true) (k : PySem.W.keepIn K (.ref f) = true) : Fun K x qual st f (PySem.W.fnOf x qual (defArgs st) (defBody st) (defScope st) .none kV doc pm an cdv ct) := ⟨⟨oc, od, kV, doc, pm, an, cdv, ct, osl, rfl, l, c⟩, k⟩
end
section
variable {X : Cx}
theorem pv (i : Nat) {x : Str} {pos : Pos} (hN : X.N[i]? = some x := by rfl) (hv : Vis X.env.scope x := by first | exact Or.inl rfl | exact Or.inr (Or.inl rfl) | exact Or.inr (Or.inr rfl)) (hd : (x == ("__debug__" : Str)) = false := by decide)
    (hcd : (x == ("__classdict__" : Str)) = false := by decide) : PE X (.Name x pos) (tVar i) := pe_var hN hv hd hcd
end

/-- all that was tracked is as it was -/
noncomputable def Same (H H' : Hp) : Prop := ∀ b o, H b = some o → H' b = some o
theorem Same.refl (H : Hp) : Same H H := fun _ _ h => h
theorem Same.trans {H H1 H2 : Hp} (a : Same H H1) (b : Same H1 H2) : Same H H2 := fun c o h => b c o (a c o h)
theorem Same.free {H H' : Hp} (e : Same H H') {l : Addr} (h : H' l = Option.none) : H l = Option.none := by
  cases q : H l with
  | none => rfl
  | some o =>
    rw [e l o q] at h
    cases h
theorem Same.seq {K : PySem.W.Frag} {H H' : Hp} {a : Addr} {xs : List V} (e : Same H H') (h : SqL K H a xs) : SqL K H' a xs := by
  rcases h with (h | ⟨o, h⟩) | h
  · exact .inl (.inl (e _ _ h))
  · exact .inl (.inr ⟨o, e _ _ h⟩)
  · exact .inr h

end L2

set_option Elab.async false
set_option linter.all false
set_option maxRecDepth 100000
namespace L2
open PySem PySem.Spec PyProof.Rows

theorem closure_go (env : Env) : ∀ (names : List (Str × NameKind)) (acc : List (Str × Addr)), (∀ y ∈ names, y.2 = .free → ∃ c, env.cells.lookup y.1 = some c) → (∀ x c, acc.lookup x = some c → env.cells.lookup x = some c) →
    ∃ cl, (forIn names acc fun y (cs : List (Str × Addr)) => if (y.2 == .free) = true then (do let c ← cellOf env y.1; pure (ForInStep.yield ((y.1, c) :: cs))) else pure (ForInStep.yield cs) : Sem (List (Str × Addr))) = pure cl ∧
      (∀ x c, cl.lookup x = some c → env.cells.lookup x = some c) ∧ (∀ y ∈ names, y.2 = .free → (cl.lookup y.1).isSome = true) ∧ (∀ x, (acc.lookup x).isSome = true → (cl.lookup x).isSome = true)
  | [], acc, _, ha => ⟨acc, by simp only [List.forIn_nil], ha, (fun _ h => nomatch h), (fun _ h => h)⟩
  | (n, k) :: r, acc, h, ha => by
    have hr : ∀ y ∈ r, y.2 = .free → ∃ c, env.cells.lookup y.1 = some c := fun y hy => h y (List.mem_cons_of_mem _ hy)
    by_cases hk : k = .free
    · subst hk
      obtain ⟨c, hc⟩ := h (n, .free) List.mem_cons_self rfl
      have ha' : ∀ x c', ((n, c) :: acc).lookup x = some c' → env.cells.lookup x = some c' := fun x c' e => by
        rw [List.lookup_cons] at e
        cases hx : x == n with
        | true =>
          rw [hx] at e
          cases e
          rw [eq_of_beq hx]
          exact hc
        | false =>
          rw [hx] at e
          exact ha x c' e
      obtain ⟨cl, e1, e2, e3, e4⟩ := closure_go env r ((n, c) :: acc) hr ha'
      have up : ∀ x, (((n, c) :: acc).lookup x).isSome = true → (cl.lookup x).isSome = true := e4
      refine ⟨cl, ?_, e2, fun y hy hf => ?_, fun x hx => up x ?_⟩
      · rw [List.forIn_cons]
        have ec : cellOf env n = pure c := by unfold cellOf; rw [hc]
        simp only [beq_self_eq_true, if_true, ec]
        exact e1
      · rcases List.mem_cons.mp hy with rfl | hy
        · exact up n (by rw [List.lookup_cons]; simp)
        · exact e3 y hy hf
      · rw [List.lookup_cons]
        cases x == n <;> simp [hx]
    · obtain ⟨cl, e1, e2, e3, e4⟩ := closure_go env r acc hr ha
      refine ⟨cl, ?_, e2, fun y hy hf => ?_, e4⟩
      · rw [List.forIn_cons]
        have hb : (k == NameKind.free) = false := by simpa using hk
        simp only [hb, Bool.false_eq_true, if_false]
        exact e1
      · rcases List.mem_cons.mp hy with rfl | hy
        · exact absurd hf hk
        · exact e3 y hy hf
theorem closure_of {scope : Scope} {env : Env} (h : ∀ y ∈ scope.names, y.2 = .free → ∃ c, env.cells.lookup y.1 = some c) :
    ∃ cl, closureFor scope env = pure cl ∧ (∀ x c, cl.lookup x = some c → env.cells.lookup x = some c) ∧ (∀ y ∈ scope.names, y.2 = .free → (cl.lookup y.1).isSome = true) := by
  obtain ⟨cl, e1, e2, e3, _⟩ := closure_go env scope.names [] h (fun x c e => by simp at e)
  refine ⟨cl, ?_, e2, e3⟩
  show ((forIn scope.names [] fun y (cs : List (Str × Addr)) => if (y.2 == .free) = true then (do let c ← cellOf env y.1; pure (ForInStep.yield ((y.1, c) :: cs))) else pure (ForInStep.yield cs) : Sem (List (Str × Addr))) >>= pure) = _
  rw [e1]
  rfl

/-- of the relabelled names: a cell or a free one was free -/
theorem relabel_free {env : Env} : ∀ {names : List (Str × NameKind)} {x : Str}, (∀ y ∈ names, y.2 ≠ .cell) →
    ((names.map fun (n, k) => if (k == NameKind.free && env.scope.kind == .function && env.kindOf n == some .cell) then (n, NameKind.cell) else (n, k)).lookup x = some .cell ∨
     (names.map fun (n, k) => if (k == NameKind.free && env.scope.kind == .function && env.kindOf n == some .cell) then (n, NameKind.cell) else (n, k)).lookup x = some .free) →
    (x, NameKind.free) ∈ names
  | [], _, _, h => by simp at h
  | (n, k) :: r, x, hc, h => by
    have ih := @relabel_free env r x (fun y hy => hc y (List.mem_cons_of_mem _ hy))
    have hk := hc (n, k) List.mem_cons_self
    by_cases hx : (x == n) = true
    · have e : x = n := eq_of_beq hx
      subst e
      by_cases hf : k = .free
      · subst hf; exact List.mem_cons_self
      · exfalso
        have hb : (k == NameKind.free) = false := by simpa using hf
        simp only [List.map_cons, hb, Bool.false_and, Bool.false_eq_true, if_false, List.lookup_cons, beq_self_eq_true] at h
        rcases h with h | h
        · exact hk (Option.some.inj h)
        · exact hf (Option.some.inj h)
    · have hx' : (x == n) = false := by simpa using hx
      refine List.mem_cons_of_mem _ (ih ?_)
      rw [List.map_cons] at h
      have hd : ∀ (k' : NameKind) (l : List (Str × NameKind)), List.lookup x ((n, k') :: l) = List.lookup x l := fun k' l => by rw [List.lookup_cons, hx']
      by_cases hc2 : (k == NameKind.free && env.scope.kind == .function && env.kindOf n == some .cell) = true
      · have e : (if (k == NameKind.free && env.scope.kind == .function && env.kindOf n == some .cell) = true then (n, NameKind.cell) else (n, k)) = (n, NameKind.cell) := if_pos hc2
        simp only [e, hd] at h
        exact h
      · have e : (if (k == NameKind.free && env.scope.kind == .function && env.kindOf n == some .cell) = true then (n, NameKind.cell) else (n, k)) = (n, k) := if_neg hc2
        simp only [e, hd] at h
        exact h

/-- the block's context: bs its own names; no exception leaves it -/
noncomputable def blk (X : Cx) (bs nb : List Str) (scope : Scope) (cl : List (Str × Addr)) (C : Addr) (fp : List Addr) (s : Shared) (H : Hp) (pins : List (Addr × Obj)) : Cx where
  prog := X.prog
  w := X.w
  K := X.K
  mg := X.mg
  base := X.base
  A := X.A
  N := bs ++ nb
  s₀ := s
  H₀ := H
  env := compEnvC scope cl C X.env
  outer := X.stack
  stack := X.stack
  ex := fp
  fn := fun _ => false
  calm := X.calm
  pn := X.pn ++ pins
  xe := fun _ _ => False

/-- what a scope must be for a block -/
structure BlkOk (X : Cx) (bs nb : List Str) (scope : Scope) : Prop where
  kind : scope.kind = .function
  nocell : ∀ y ∈ scope.names, y.2 ≠ .cell
  names : ∀ y ∈ scope.names, y.2 = .local → scope.names.lookup y.1 = some .local
  vis : ∀ y ∈ scope.names, y.2 = .free → X.env.scope.names.lookup y.1 = some .cell ∨ X.env.scope.names.lookup y.1 = some .free
  apart : ∀ x ∈ nb, ∀ y ∈ scope.names, y.1 = x → y.2 ≠ .local
  len : nb.length = X.N.length
  nms : ∀ (j : Nat) (x : Str), nb[j]? = some x → X.N[j]? = some x ∨ ∀ y ∈ scope.names, y.1 ≠ x
noncomputable def blkChk (N nb : List Str) (fsc sc : Scope) : Bool :=
  (decide (nb.length = N.length) && (nb.zip N).all fun p => decide (p.1 = p.2) || sc.names.all fun y => !decide (y.1 = p.1)) && ((decide (sc.kind = .function) && sc.names.all fun y => !decide (y.2 = .cell)) && (sc.names.all fun y => !decide (y.2 = .local) || decide (sc.names.lookup y.1 = some .local)) &&
    (sc.names.all fun y => !decide (y.2 = .free) || (decide (fsc.names.lookup y.1 = some .cell) || decide (fsc.names.lookup y.1 = some .free))) && nb.all fun x => sc.names.all fun y => !decide (y.1 = x) || !decide (y.2 = .local))
theorem blk_of {X : Cx} {bs nb : List Str} {scope : Scope} (h : blkChk X.N nb X.env.scope scope = true) : BlkOk X bs nb scope := by
  unfold blkChk at h
  simp only [Bool.and_eq_true, List.all_eq_true, Bool.or_eq_true, Bool.not_eq_true', decide_eq_true_eq, decide_eq_false_iff_not] at h
  obtain ⟨⟨h6, h7⟩, ⟨⟨⟨h1, h2⟩, h3⟩, h4⟩, h5⟩ := h
  refine ⟨h1, h2, fun y hy e => ?_, fun y hy e => ?_, fun x hx y hy e1 e2 => ?_, h6, fun j x hj => ?_⟩
  · rcases h3 y hy with q | q
    · exact absurd e q
    · exact q
  · rcases h4 y hy with q | q
    · exact absurd e q
    · exact q
  · rcases h5 x hx y hy with q | q
    · exact q e1
    · exact q e2
  · have hl : j < nb.length := (List.getElem?_eq_some_iff.mp hj).1
    have hN : X.N[j]? = some (X.N[j]'(by omega)) := List.getElem?_eq_getElem _
    have hz : (nb.zip X.N)[j]? = some (x, X.N[j]'(by omega)) := List.getElem?_zip_eq_some.mpr ⟨hj, hN⟩
    rcases h7 _ (List.mem_of_getElem? hz) with q | q
    · left; rw [hN]; exact congrArg some q.symm
    · right; exact q

section
variable {X : Cx} {bs nb : List Str} {scope : Scope} {cl : List (Str × Addr)} {C : Addr} {fp : List Addr} {pins : List (Addr × Obj)} {σ : St} {H : Hp} {s : Shared}

theorem blk_ok (I : Inv X pins σ H s) (B : BlkOk X bs nb scope) (c1 : ∀ x c, cl.lookup x = some c → X.env.cells.lookup x = some c) (c2 : ∀ y ∈ scope.names, y.2 = .free → (cl.lookup y.1).isSome = true)
    (hC : s.heap.objs.size ≤ C) (hf : ∀ b ∈ fp, FpOk X pins H b) (hlt : ∀ b ∈ fp, b < s.heap.objs.size) : (blk X bs nb scope cl C fp s H pins).Ok where
  mod := I.ok.mod
  kind := B.kind
  glob := I.ok.glob
  blt := I.ok.blt
  above := hC
  inj := fun x y c h1 h2 => I.ok.inj x y c (c1 x c h1) (c1 y c h2)
  has := fun x hx => by
    have hm := relabel_free (env := X.env) B.nocell hx
    exact Option.isSome_iff_exists.mp (c2 (x, .free) hm rfl)
  cab := fun x c h => absurd h (by intro z; cases z)
  hd := I.ok.hd
  frames := I.ok.frames
  stk := .inl rfl
  exf := fun b hb => ⟨Nat.ne_of_lt (Nat.lt_of_lt_of_le (hlt b hb) hC), fun x c e => (hf b hb).2.2.2.2.1 x c (c1 x c e)⟩
  bs := I.bs
  bsz := Nat.le_trans I.ok.bsz I.sz
  noex := fun b o e hb => by
    rcases (hf b hb).2.2.2.1 with z | z
    · exact I.ok.noex b o e z
    · exact absurd (Nat.lt_of_lt_of_le (Heap.lt_size e) (Nat.le_trans I.ok.bsz z)) (Nat.lt_irrefl _)
  exfs := fun b hb hs => by
    rcases List.mem_cons.mp (I.stkSub b hs) with z | z
    · exact (hf b hb).2.1 z
    · exact (hf b hb).2.2.1 z
  funs := I.stack
  frf := I.stkFree

/-- the block's names ahead of its first turn -/
noncomputable def blkSt (bs : List Str) (σ : St) : St := List.replicate bs.length none ++ σ

theorem blk_inv {h' : Heap} {t' : Nat} {m : Str → Option Value} (I : Inv X pins σ H s) (B : BlkOk X bs nb scope) (c1 : ∀ x c, cl.lookup x = some c → X.env.cells.lookup x = some c) (c2 : ∀ y ∈ scope.names, y.2 = .free → (cl.lookup y.1).isSome = true)
    (hC : s.heap.objs.size ≤ C) (hf : ∀ b ∈ fp, FpOk X pins H b) (hlt : ∀ b ∈ fp, b < s.heap.objs.size)
    (k : ∀ b u, s.heap.get? b = some u → h'.get? b = some u) (hn : h'.Ns C m) : Inv (blk X bs nb scope cl C fp s H pins) [] (blkSt bs σ) H { s with heap := h', toks := t' } := by
  refine ⟨blk_ok I B c1 c2 hC hf hlt, rfl, I.bare, Un.kept k, ⟨m, hn, fun i x v e1 e2 e3 => ?_⟩, fun x c e => ?_, I.hok.fresh hC, fun x c e => I.freeC x c (c1 x c e), fun p hp => ?_, I.hok.kept k, ?_⟩
  · have e1' : (bs ++ nb)[i]? = some x := e1
    unfold blkSt at e2
    by_cases hi : i < bs.length
    · rw [List.getElem?_append_left (by simpa using hi), List.getElem?_replicate, if_pos hi] at e2
      cases e2
    · rw [List.getElem?_append_right (by simpa using hi), List.length_replicate] at e2
      rw [List.getElem?_append_right (by simpa using hi)] at e1'
      have hxN : x ∈ nb := List.mem_of_getElem? e1'
      have hm : (x, NameKind.free) ∈ scope.names := by
        rcases e3 with e3 | e3
        · exfalso
          have e3' : ((scope.names.map fun (n, k) => if (k == NameKind.free && X.env.scope.kind == .function && X.env.kindOf n == some .cell) then (n, NameKind.cell) else (n, k))).lookup x = some .local := e3
          obtain ⟨⟨n, kd⟩, hy, he⟩ := List.mem_map.mp (PySem.mem_of_lookup e3')
          by_cases hcc : (kd == NameKind.free && X.env.scope.kind == .function && X.env.kindOf n == some .cell) = true
          · simp only [hcc, if_true] at he
            cases he
          · simp only [hcc, if_false] at he
            cases he
            exact B.apart x hxN (x, .local) hy rfl rfl
        · exact relabel_free (env := X.env) B.nocell e3
      have hv : Vis X.env.scope x := .inr (B.vis _ hm rfl)
      have e1' : X.N[i - bs.length]? = some x := (B.nms _ x e1').resolve_right fun z => z _ hm rfl
      obtain ⟨m0, _, hl⟩ := I.loc
      obtain ⟨u, r, l⟩ := hl _ x v e1' e2 hv
      refine ⟨u, r, ?_⟩
      have hkx : (blk X bs nb scope cl C fp s H pins).env.kindOf x = some .cell ∨ (blk X bs nb scope cl C fp s H pins).env.kindOf x = some .free := by
        rcases e3 with e3 | e3
        · exfalso
          have e3' : ((scope.names.map fun (n, k) => if (k == NameKind.free && X.env.scope.kind == .function && X.env.kindOf n == some .cell) then (n, NameKind.cell) else (n, k))).lookup x = some .local := e3
          obtain ⟨⟨n, kd⟩, hy, he⟩ := List.mem_map.mp (PySem.mem_of_lookup e3')
          by_cases hcc : (kd == NameKind.free && X.env.scope.kind == .function && X.env.kindOf n == some .cell) = true
          · simp only [hcc, if_true] at he
            cases he
          · simp only [hcc, if_false] at he
            cases he
            exact B.apart x hxN (x, .local) hy rfl rfl
        · exact e3
      rcases l with ⟨hk, _⟩ | ⟨_, c, hc, hcell⟩
      · exfalso
        have hk' : X.env.scope.names.lookup x = some .local := hk
        rcases B.vis _ hm rfl with z | z
        · rw [show X.env.scope.names.lookup x = some .cell from z] at hk'; cases hk'
        · rw [show X.env.scope.names.lookup x = some .free from z] at hk'; cases hk'
      · obtain ⟨c', hc'⟩ := Option.isSome_iff_exists.mp (c2 _ hm rfl)
        have : c' = c := Option.some.inj ((c1 _ _ hc').symm.trans hc)
        subst this
        obtain ⟨o, ho, hd⟩ := hcell
        exact .inr ⟨hkx, c', hc', o, k _ _ ho, hd⟩
  · obtain ⟨v, o, ho, hd⟩ := I.cell x c (c1 x c e)
    exact ⟨v, o, k _ _ ho, hd⟩
  · have hp' : p ∈ X.pn ++ pins := by simpa [blk] using hp
    obtain ⟨e, n, ne, nf, d⟩ := I.pin p hp'
    refine ⟨k _ _ e, n, Nat.ne_of_lt (Nat.lt_of_lt_of_le (Heap.lt_size e) hC), fun z => ?_, d⟩
    rcases List.mem_cons.mp (I.stkSub _ z) with z | z
    · exact ne z
    · exact nf z
  · unfold blkSt
    show _ = (bs ++ nb).length
    rw [List.length_append, List.length_append, List.length_replicate, I.len, B.len]

/-- an untracked object of ours is tracked from now on -/
theorem Inv.track {D : Addr} {o : HO} (I : Inv X pins σ H s) (hn : H D = none) (hL : D ≠ X.env.locals) (h1 : D ∈ X.ex ∨ X.s₀.heap.objs.size ≤ D) (h2 : ∀ x c, X.env.cells.lookup x = some c → c ≠ D) (h3 : ∀ p ∈ X.pn ++ pins, p.1 ≠ D)
    (new : ObjOk X.prog X.w (upd H D o) s.heap D o) : Inv X pins σ (upd H D o) s := by
  have hup : ∀ b u, H b = some u → upd H D o b = some u := fun b u e => by rw [upd_ne (ne_of_none e hn)]; exact e
  have := I.step (H' := upd H D o) (h' := s.heap) (g' := s.gens) (d' := s.drawn) (t' := s.toks) (ch := [D]) (fun b hb => ?_) (fun b ob _ _ _ e _ => e) (fun b ob _ _ _ e _ => ⟨ob.slots, e⟩) (fun b ob hc e n => ?_) (fun b ob _ e => ⟨ob, e⟩)
    (fun b xs e => hup b _ e) (fun b ob u e => hup b _ e) (fun b ps e => ⟨#[], by rw [hup b _ e]; simp⟩) (fun m hm => hm) (fun b u e => ?_) I.bare
  · exact this
  · have e : b = D := by simpa using hb
    subst e
    exact ⟨h1, hL, h2, h3⟩
  · rw [upd_ne (by simpa using hc)]; exact n
  · by_cases hb : b = D
    · subst hb
      rw [upd_same] at e
      cases e
      exact new
    · rw [upd_ne hb] at e
      exact (I.hok b u e).stay (fun _ _ _ q => q) (fun c q => hup c _ q) fun c xs q => hup c _ q
end

/-- the tests of a comprehension -/
noncomputable def PIfs (X : Cx) (ifs : List Expr) (t : TT) : Prop :=
  ∀ (pins : List (Addr × Obj)) (s : Shared) (σ : St) (H : Hp) (Q : Bool → Hp → Prop) (E : Value → Shared → Prop), (∀ e s', X.xe e s' → E e s') → Inv X pins σ H s → t σ H Q →
    wpAny (model X.prog X.w) X.A (forIn ifs true fun c r => if r = true then do let ok ← isTrue c X.env (eval c X.env); pure (ForInStep.yield ok) else pure (ForInStep.yield r)) (TP X pins σ Q) E s
noncomputable def tIfs0 : TT := fun _ H Q => Q true H
theorem pifs_nil {X : Cx} : PIfs X [] tIfs0 := fun _ _ _ H _ _ _ I h => wpAny_tests_nil ⟨H, I, h⟩
section
variable {prog : Program} {w : World} {A : Around} {R : Result → Shared → Prop} {s : Shared}
theorem compLoop_go {elt target iter : Expr} {ifs : List Expr} {scope : Scope} {pos : Pos} {it acc : Value} {env : Env} (I : Nat → Shared → Prop)
    (turn : ∀ n s, I n s → wpAny (model prog w) A (pyNext it) (fun r s₁ => match r with
      | none => R (.ok .next) s₁
      | some v => wpAny (model prog w) A (letOwnedTupleGo target it v) (fun _ s₀ => wpAny (model prog w) A (assign target env v) (fun _ s₂ =>
          wpAny (model prog w) A (forIn ifs true fun c r => if r = true then do let ok ← isTrue c env (eval c env); pure (ForInStep.yield ok) else pure (ForInStep.yield r)) (fun ok s₃ =>
            if ok = true then wpAny (model prog w) A (eval elt env) (fun x s₄ =>
              wpAny (model prog w) A (call (.builtin "list.append") [acc, x]) (fun _ s₅ => ∃ m, m < n ∧ I m s₅) (notedBy (model prog w) A env fun e s' => R (.error e) s') s₄) (notedBy (model prog w) A env fun e s' => R (.error e) s') s₃
            else ∃ m, m < n ∧ I m s₃) (notedBy (model prog w) A env fun e s' => R (.error e) s') s₂) (notedBy (model prog w) A env fun e s' => R (.error e) s') s₀) (notedBy (model prog w) A env fun e s' => R (.error e) s') s₁) (notedBy (model prog w) A env fun e s' => R (.error e) s') s)
    (n : Nat) (h : I n s) :
    codeAny (model prog w) A (.compLoop (.ListComp elt [⟨target, iter, ifs, 0⟩] scope pos) 0 it acc env) R s := by
  refine codeAny_loop rfl I (fun n s hI => ?_) n h
  show wpAny _ A ((compTurn (.ListComp elt [⟨target, iter, ifs, 0⟩] scope pos) 0 it acc env).onRaise (fun x => do noteFrame x env; theTreesLotGoes x)) _ _ s
  refine wpAny_noted ?_
  rw [compTurn_list]
  refine wpAny_bind (wpAny_standAt (wpAny_bind (wpAny_mono (turn n s hI) (fun r s₁ h₁ => ?_) fun _ _ h' => h')))
  cases r with
  | none => exact wpAny_pure h₁
  | some v =>
    refine wpAny_bind (wpAny_mono h₁ (fun _ s₀ h₀ => ?_) fun _ _ h' => h')
    refine wpAny_bind (wpAny_mono h₀ (fun _ s₂ h₂ => wpAny_bind (wpAny_mono h₂ (fun ok s₃ h₃ => ?_) fun _ _ h' => h')) fun _ _ h' => h')
    cases ok with
    | false => exact wpAny_pure ⟨rfl, h₃⟩
    | true =>
      exact wpAny_bind (wpAny_bind (wpAny_mono h₃ (fun x s₄ h₄ => wpAny_bind (wpAny_mono h₄ (fun _ s₅ h₅ => wpAny_pure (wpAny_pure ⟨rfl, h₅⟩)) fun _ _ h' => h')) fun _ _ h' => h'))
end

/-- a target that stores into the block's own names alone -/
noncomputable def GOwn (n : Nat) (g : TG) : Prop := ∀ x σ H Q, g x σ H Q → g x σ H fun σ2 H2 => Q σ2 H2 ∧ σ2.length = σ.length ∧ ∀ j, n ≤ j → σ2[j]? = σ[j]?
theorem gown_name {n i : Nat} (h : i < n := by decide) : GOwn n (gName i) := fun x σ H Q q => ⟨q, by simp, fun j hj => by rw [List.getElem?_set_ne (by omega)]⟩
/-- a comprehension's reading: W turn, what is built, heap -/
noncomputable def cWalk (J : It) (bs : List Str) (g : TG) (tt : TT) (te : TE) (σ : St) (Q : VK) (H1 : Hp) : Prop := ∃ (n : Nat) (W : Nat → List V → Hp → Prop), n ≤ sizeLine ∧ W 0 [] H1 ∧ ∀ i ys H, W i ys H →
  ((J.stop i H ∧ ∀ p, H p = none → Q (.ref p) (upd H p (.lst ys))) ∨ (J.go i H ∧ i < n ∧ ∀ x H', J.yld i H x H' → g x (blkSt bs σ) H' fun σ2 H2 => tt σ2 H2 fun b H3 => if b = true then te σ2 H3 (fun y H4 => W (i + 1) (ys ++ [y]) H4) else W (i + 1) ys H3))
noncomputable def tComp (bs : List Str) (wi : TI) (g : TG) (tt : TT) (te : TE) : TE := fun σ H Q => wi σ H fun J H1 => cWalk J bs g tt te σ Q H1
theorem Vals.snoc {xs : List V} {us : List Value} {x : V} {u : Value} (r : Vals xs us) (h : RelV x u) : Vals (xs ++ [x]) (us ++ [u]) := r.append (.cons h .nil)

theorem wp_comp {X : Cx} {bs nb : List Str} {elt tg iter : Expr} {ifs : List Expr} {scope : Scope} {pos : Pos} {wi : TI} {g : TG} {tt : TT} {te : TE} {use : Option (Value → Sem Unit)} {R : Value → Shared → Prop} (hc : X.calm = true) (B : BlkOk X bs nb scope) (hi : PI X tg iter wi)
    (go : GOwn bs.length g) (hg : ∀ cl C fp s H pins, PG (blk X bs nb scope cl C fp s H pins) tg g) (ht : ∀ cl C fp s H pins, PIfs (blk X bs nb scope cl C fp s H pins) ifs tt) (he : ∀ cl C fp s H pins, PE (blk X bs nb scope cl C fp s H pins) elt te)
    (hs : ∀ x, foldedSetIterable iter X.env x = pure x) (pins : List (Addr × Obj)) (s : Shared) (σ : St) (H : Hp) (Q : VK) (I : Inv X pins σ H s) (h : tComp bs wi g tt te σ H Q)
    (hfin : ∀ (D C : Addr) (s' : Shared) (H' : Hp) (f : Flow), Inv X pins σ H' s' → Q (.ref D) H' → FpOk X pins H' C → (∃ m, s'.heap.Ns C m) → compPost (model X.prog X.w) X.A X.xe use R (.ref D) C (.ok f) s') :
    wpAny (model X.prog X.w) X.A (comprehension (.ListComp elt [⟨tg, iter, ifs, 0⟩] scope pos) scope X.env (firstIterPos [⟨tg, iter, ifs, 0⟩] pos) (newList []) (firstAsync [⟨tg, iter, ifs, 0⟩]) (firstIter [⟨tg, iter, ifs, 0⟩] X.env) use) R X.xe s := by
  obtain ⟨cl, hcl, c1, c2⟩ := closure_of (scope := scope) (env := X.env) (fun y hy hf => I.ok.has y.1 (B.vis y hy hf))
  refine wpAny_comprehension_free (use := use) rfl hs hcl B.kind B.names (thn (hi pins s σ H _ I h) fun v s1 h1 => thn h1 fun itv s2 h2 => ?_)
  obtain ⟨it, fp, tn, J, H2, e, I2, T, st2, f2, n, W, hn, w0, turn⟩ := h2
  subst e
  have hlt : ∀ b ∈ fp, b < s2.heap.objs.size := fun b hb => by obtain ⟨o, e, _⟩ := T.obj _ _ st2 b hb; exact Heap.lt_size e
  refine wpAny_newObj_type (wpAny_newFunctionEnv B.nocell (by intro y hy; simp at hy) (fun h₁ hns₁ hsb₁ => ?_) B.kind)
  dsimp only at hns₁ hsb₁ ⊢
  generalize hH2 : s2.heap.push { cls := .type "list", dict := none, data := .seq ([] : List Value).toArray } = G2 at hns₁ hsb₁ ⊢
  have hCs : G2.objs.size = s2.heap.objs.size + 1 := by rw [← hH2, Heap.size_push]
  have hDC : s2.heap.objs.size ≠ G2.objs.size := by rw [hCs]; exact Nat.ne_of_lt (Nat.lt_succ_self _)
  have hCle : s2.heap.objs.size ≤ G2.objs.size := by rw [hCs]; exact Nat.le_succ _
  have old : ∀ b o, s2.heap.get? b = some o → h₁.get? b = some o := fun b o e =>
    hsb₁.extBut b o (by rw [hCs]; exact Nat.ne_of_lt (Nat.lt_succ_of_lt (Heap.lt_size e))) (Heap.get?_push_of_some _ (hH2 ▸ Heap.get?_push_of_some _ e))
  have hacc : h₁.get? s2.heap.objs.size = some { cls := .type "list", data := .seq ([] : List Value).toArray 0 } := hsb₁.extBut _ _ hDC (Heap.get?_push_of_some _ (hH2 ▸ Heap.get?_push_size _ rfl))
  have hDn : ∀ b ∈ fp, b ≠ s2.heap.objs.size := fun b hb => Nat.ne_of_lt (hlt b hb)
  have J0 := blk_inv (bs := bs) (t' := s2.toks + ([] : List (Str × Value)).length) I2 B c1 c2 hCle f2 hlt old hns₁
  generalize hX : blk X bs nb scope cl G2.objs.size fp s2 H2 pins = X' at J0
  have fpB : ∀ {H' : Hp} {pl : List (Addr × Obj)}, (∀ b ∈ fp, H' b = none) → (∀ p ∈ pl, p.1 ∉ fp) → ∀ b ∈ fp, FpOk X' pl H' b := fun {H' pl} hz hp b hb => by
    subst hX
    refine ⟨hz b hb, Nat.ne_of_lt (Nat.lt_of_lt_of_le (hlt b hb) hCle), J0.ok.exfs b hb, .inl hb, fun x c e => (f2 b hb).2.2.2.2.1 x c (c1 x c e), fun p hq => ?_⟩
    rcases List.mem_append.mp hq with z | z
    · exact (f2 b hb).2.2.2.2.2 p z
    · intro e; exact hp p z (e ▸ hb)
  have Dfs : s2.heap.objs.size ∉ X'.fs := fun hb => by
    subst hX
    rcases List.mem_cons.mp (I2.stkSub _ hb) with z | z
    · exact absurd I2.lt (by rw [← z]; exact Nat.lt_irrefl _)
    · exact I2.nofs (Nat.le_refl _) z
  have Dcell : ∀ x c, X.env.cells.lookup x = some c → c ≠ s2.heap.objs.size := fun x c e z => by
    obtain ⟨v, q⟩ := I2.cell x c e
    exact absurd q.lt (by rw [z]; exact Nat.lt_irrefl _)
  have Dpin : ∀ p ∈ X.pn ++ pins, p.1 ≠ s2.heap.objs.size := fun p hp => Nat.ne_of_lt (Heap.lt_size (I2.pin p hp).1)
  have Dloc : s2.heap.objs.size ≠ X'.env.locals := by subst hX; exact hDC
  -- the list so far is pinned
  have pinD : ∀ {σ' : St} {H' : Hp} {s' : Shared} {o : Obj}, Inv X' [] σ' H' s' → s'.heap.get? s2.heap.objs.size = some o → H' s2.heap.objs.size = none → (∀ v, o.data ≠ .cell v) → Inv X' [(s2.heap.objs.size, o)] σ' H' s' := fun {σ' H' s' o} I' e hz hd =>
    I'.pins_of fun p hp => by
      have ep : p = (s2.heap.objs.size, o) := by simpa using hp
      subst ep
      exact ⟨e, hz, Dloc, Dfs, hd⟩
  have loop : ∀ s₃ : Shared, s₃ = { s2 with heap := h₁, toks := s2.toks + ([] : List (Str × Value)).length } →
      codeAny (model X.prog X.w) X.A (.compLoop (.ListComp elt [⟨tg, iter, ifs, 0⟩] scope pos) 0 (.ref it) (.ref s2.heap.objs.size) (compEnvC scope cl G2.objs.size X.env))
        (compPost (model X.prog X.w) X.A X.xe use R (.ref s2.heap.objs.size) G2.objs.size) s₃ := by
    rintro s₃ rfl
    refine compLoop_go (fun k s' => ∃ (i : Nat) (ys : List V) (us : List Value) (z : Nat) (H' : Hp), k = n - i + 1 ∧ i ≤ n ∧ us.length ≤ i ∧ Vals ys us ∧ Inv X' [(s2.heap.objs.size, { cls := .type "list", data := .seq us.toArray z })] (blkSt bs σ) H' s' ∧ tn i s'.heap ∧ (∀ b ∈ fp, H' b = none) ∧ W i ys H') ?_ (n - 0 + 1)
      ⟨0, [], [], 0, H2, rfl, Nat.zero_le _, Nat.le_refl _, .nil, pinD J0 hacc (I2.hok.fresh (Nat.le_refl _)) (fun v z => by cases z), T.keep _ _ _ st2 fun b _ o e => old b o e, fun b hb => (f2 b hb).1, w0⟩
    rintro k s3 ⟨i, ys, us, z, H3, rfl, hin, hul, rv, I3, st3, fr3, w3⟩
    have npl : ∀ p ∈ ([(s2.heap.objs.size, { cls := .type "list", data := .seq us.toArray z })] : List (Addr × Obj)), p.1 ∉ fp := fun p hp hm => by
      have ep : p = (s2.heap.objs.size, { cls := .type "list", data := .seq us.toArray z }) := by simpa using hp
      subst ep
      exact hDn _ hm rfl
    have eP : X'.prog = X.prog := by subst hX; rfl
    have eW : X'.w = X.w := by subst hX; rfl
    have eK : X'.K = X.K := by subst hX; rfl
    have eA : X'.A = X.A := by subst hX; rfl
    have eC : X'.calm = true := by subst hX; exact hc
    rcases turn i ys H3 w3 with ⟨stop, fin⟩ | ⟨gon, hlt', step⟩
    · have hd := T.done X' eP eW eK eC i _ s3 (blkSt bs σ) H3 (notedBy (model X.prog X.w) X.A (compEnvC scope cl G2.objs.size X.env) fun e s' => compPost (model X.prog X.w) X.A X.xe use R (.ref s2.heap.objs.size) G2.objs.size (.error e) s') I3 (fpB fr3 npl) st3 stop
      rw [eA] at hd
      refine thn hd fun r s4 ⟨hr, I4⟩ => ?_
      subst hr
      obtain ⟨m, hm, _⟩ := I4.loc
      have pD := I4.pin (s2.heap.objs.size, { cls := .type "list", data := .seq us.toArray z }) (List.mem_append_right _ (List.mem_singleton.mpr rfl))
      have hCl : X'.env.locals = G2.objs.size := by subst hX; rfl
      have hm' : s4.heap.Ns G2.objs.size m := hCl ▸ hm
      have hC0 : H3 G2.objs.size = none := hCl ▸ I4.free
      have I5 : Inv X pins σ H3 s4 := by
        have hos : s4.os = s2.os := by subst hX; exact I4.os
        have hun : Un (frs X.stack) fp H2 H3 s2.heap s4.heap := by subst hX; exact I4.base
        have hhk : HOk X.prog X.w H3 s4.heap := by subst hX; exact I4.hok
        exact I2.call' hos hun hhk I4.bare fun b hb => ⟨(f2 b hb).2.2.2.1, (f2 b hb).2.1, (f2 b hb).2.2.2.2.1, (f2 b hb).2.2.2.2.2⟩
      have hys : ys.length ≤ sizeLine := by rw [rv.length]; omega
      refine hfin s2.heap.objs.size G2.objs.size s4 _ _ (I5.track (o := .lst ys) pD.2.1 (Nat.ne_of_gt I2.lt) (.inr I2.sz) Dcell Dpin ⟨hys, us, z, rv, pD.1⟩) (fin _ pD.2.1) ⟨?_, Nat.ne_of_gt (Nat.lt_of_lt_of_le I2.lt hCle), I2.nofs hCle, .inr (Nat.le_trans I2.sz hCle), fun x c e q => ?_, fun p hp q => ?_⟩ ⟨m, hm'⟩
      · rw [upd_ne (Ne.symm hDC)]; exact hC0
      · obtain ⟨v, q2⟩ := I2.cell x c e
        exact absurd (Nat.lt_of_lt_of_le q2.lt (by rw [q]; exact hCle)) (Nat.lt_irrefl _)
      · exact absurd (Nat.lt_of_lt_of_le (Heap.lt_size (I2.pin p hp).1) (by rw [q]; exact hCle)) (Nat.lt_irrefl _)
    · have hd := T.item X' eP eW eK eC i _ s3 (blkSt bs σ) H3 (notedBy (model X.prog X.w) X.A (compEnvC scope cl G2.objs.size X.env) fun e s' => compPost (model X.prog X.w) X.A X.xe use R (.ref s2.heap.objs.size) G2.objs.size (.error e) s') I3 (fpB fr3 npl) st3 gon
      rw [eA] at hd
      refine thn hd fun r s4 ⟨u, hr, h4⟩ => ?_
      subst hr
      refine thn h4 fun _ s5 ⟨x, H5, I5, r5, y5, st5, fr5⟩ => ?_
      have I5' := I5.pinned (fpB fr5 npl) (T.obj _ _ st5)
      have hq5 := go x (blkSt bs σ) H5 _ (step x H5 y5)
      have hgx : PG X' tg g := by subst hX; exact hg _ _ _ _ _ _
      have htx : PIfs X' ifs tt := by subst hX; exact ht _ _ _ _ _ _
      have hex : PE X' elt te := by subst hX; exact he _ _ _ _ _ _
      have hxe : ∀ e s', X'.xe e s' → False := fun e s' q => by subst hX; exact q
      have eE : X'.env = compEnvC scope cl G2.objs.size X.env := by subst hX; rfl
      have w6 := hgx _ s5 (blkSt bs σ) H5 x u _ I5' r5 hq5
      rw [eP, eW, eA, eE] at w6
      refine wpAny_mono w6 (fun _ s6 ⟨σ6, H6, I6, q6, l6, e6⟩ => ?_) fun _ _ q => (hxe _ _ q).elim
      have w7 := htx _ s6 σ6 H6 _ (notedBy (model X.prog X.w) X.A (compEnvC scope cl G2.objs.size X.env) fun e s' => compPost (model X.prog X.w) X.A X.xe use R (.ref s2.heap.objs.size) G2.objs.size (.error e) s') (fun _ _ q => (hxe _ _ q).elim) I6 q6
      rw [eP, eW, eA, eE] at w7
      refine thn w7 fun ok s7 ⟨H7, I7, q7⟩ => ?_
      have weak : ∀ {pl : List (Addr × Obj)} {H' : Hp} {s' : Shared}, Inv X' pl σ6 H' s' → Inv X' pl (blkSt bs σ) H' s' := fun {pl H' s'} I' => I'.weak l6.symm fun j v hj => by
        by_cases hjn : j < bs.length
        · unfold blkSt at hj
          rw [List.getElem?_append_left (by simpa using hjn), List.getElem?_replicate, if_pos hjn] at hj
          cases hj
        · rw [e6 j (Nat.le_of_not_lt hjn)]; exact hj
      have unp : ∀ {σ' : St} {H' : Hp} {s' : Shared}, Inv X' ([(s2.heap.objs.size, ({ cls := .type "list", data := .seq us.toArray z } : Obj))] ++ pinsAt fp s5.heap) σ' H' s' →
          (∀ b ∈ fp, ∀ o, s5.heap.get? b = some o → s'.heap.get? b = some o) ∧ (∀ b ∈ fp, H' b = none) ∧ s'.heap.get? s2.heap.objs.size = some { cls := .type "list", data := .seq us.toArray z } ∧ H' s2.heap.objs.size = none := fun {σ' H' s'} I' => by
        refine ⟨fun b hb o e => (I'.pin (b, o) (List.mem_append_right _ (List.mem_append_right _ (mem_pinsAt hb e)))).1, fun b hb => ?_, ?_, ?_⟩
        · obtain ⟨o, e, d⟩ := T.obj _ _ st5 b hb
          exact (I'.pin (b, o) (List.mem_append_right _ (List.mem_append_right _ (mem_pinsAt hb e)))).2.1
        · exact (I'.pin (s2.heap.objs.size, { cls := .type "list", data := .seq us.toArray z }) (List.mem_append_right _ (List.mem_append_left _ (List.mem_singleton.mpr rfl)))).1
        · exact (I'.pin (s2.heap.objs.size, { cls := .type "list", data := .seq us.toArray z }) (List.mem_append_right _ (List.mem_append_left _ (List.mem_singleton.mpr rfl)))).2.1
      cases ok with
      | false =>
        obtain ⟨k1, k2, k3, k4⟩ := unp I7
        refine ⟨n - (i + 1) + 1, by omega, i + 1, ys, us, z, H7, rfl, hlt', by omega, rv, pinD (weak (I7.pins_of fun p hp => nomatch hp)) k3 k4 (fun v q => by cases q), T.keep _ _ _ st5 k1, k2, ?_⟩
        simpa using q7
      | true =>
        have q7' : te σ6 H7 fun y H4 => W (i + 1) (ys ++ [y]) H4 := by simpa using q7
        have w8 := hex _ s7 σ6 H7 _ I7 q7'
        rw [eP, eW, eA, eE] at w8
        refine wpAny_mono w8 (fun uy s8 ⟨y, H8, I8, r8, q8⟩ => ?_) fun _ _ q => (hxe _ _ q).elim
        obtain ⟨k1, k2, k3, k4⟩ := unp I8
        refine append_at (hsz := by rw [List.size_toArray]; omega) k3 fun h9 sb9 g9 => ?_
        have I8' : Inv X' [] (blkSt bs σ) H8 s8 := weak (I8.pins_of fun p hp => nomatch hp)
        have eS : X'.s₀ = s2 := by subst hX; rfl
        have ePn : X'.pn = X.pn ++ pins := by subst hX; rfl
        have eCl : X'.env.cells = cl := by subst hX; rfl
        have I9 : Inv X' [] (blkSt bs σ) H8 { s8 with heap := h9 } := I8'.turned (t' := s8.toks) (it := s2.heap.objs.size) (fun b o hb e => sb9.extBut b o hb e) k4 Dloc (.inr (by rw [eS]; exact Nat.le_refl _))
          (fun x c e => Dcell x c (c1 x c (by rw [← eCl]; exact e))) (fun p hp => Dpin p (by rw [ePn] at hp; simpa using hp))
        refine ⟨n - (i + 1) + 1, by omega, i + 1, ys ++ [y], us ++ [uy], z + 1, H8, rfl, hlt', by rw [List.length_append, List.length_singleton]; omega, rv.snoc r8, pinD I9 ?_ k4 (fun v q => by cases q), T.keep _ _ _ st5 fun b hb o e => ?_, k2, q8⟩
        · rw [g9, List.push_toArray]
        · exact sb9.extBut b o (hDn b hb) (k1 b hb o e)
  exact codeAny_compStart_list (loop _ rfl) (T.self _ 0 _ _ _ (T.keep _ _ _ st2 fun b _ o e => old b o e) (loop _ rfl))
theorem pe_comp {X : Cx} {bs nb : List Str} {elt tg iter : Expr} {ifs : List Expr} {scope : Scope} {pos : Pos} {wi : TI} {g : TG} {tt : TT} {te : TE} (hc : X.calm = true) (B : BlkOk X bs nb scope) (hi : PI X tg iter wi)
    (go : GOwn bs.length g) (hg : ∀ cl C fp s H pins, PG (blk X bs nb scope cl C fp s H pins) tg g) (ht : ∀ cl C fp s H pins, PIfs (blk X bs nb scope cl C fp s H pins) ifs tt) (he : ∀ cl C fp s H pins, PE (blk X bs nb scope cl C fp s H pins) elt te)
    (hs : ∀ x, foldedSetIterable iter X.env x = pure x := by intro _; rfl) : PE X (.ListComp elt [⟨tg, iter, ifs, 0⟩] scope pos) (tComp bs wi g tt te) := by
  intro pins s σ H Q I h
  rw [eval_ListComp]
  refine wp_comp (use := none) hc B hi go hg ht he hs pins s σ H Q I h fun D C s' H' f I' q fc ⟨m, hm⟩ => ⟨m, hm, fun h'' sb => ?_⟩
  exact ⟨.ref D, H', I'.turned (t' := s'.toks) (it := C) (fun b o hb e => sb.extBut b o hb e) fc.1 fc.2.1 fc.2.2.2.1 fc.2.2.2.2.1 fc.2.2.2.2.2, rfl, q⟩
/-- x = [..] where the stores are exchanged -/
theorem ps_setC {X : Cx} {bs nb : List Str} {elt tg iter : Expr} {ifs : List Expr} {scope : Scope} {cpos pos pos' : Pos} {wi : TI} {g : TG} {tt : TT} {te : TE} {i : Nat} {x : Str} (hN : X.N.Nodup) (hi' : X.N[i]? = some x) (hx : Loc X.env.scope x) (hc : X.calm = true) (B : BlkOk X bs nb scope) (hi : PI X tg iter wi)
    (go : GOwn bs.length g) (hg : ∀ cl C fp s H pins, PG (blk X bs nb scope cl C fp s H pins) tg g) (ht : ∀ cl C fp s H pins, PIfs (blk X bs nb scope cl C fp s H pins) ifs tt) (he : ∀ cl C fp s H pins, PE (blk X bs nb scope cl C fp s H pins) elt te)
    (hsw : swapsWith (.ListComp elt [⟨tg, iter, ifs, 0⟩] scope cpos) (some (.Name x pos')) pos.line X.env = pure true := by rfl) (hf : X.fn x = true ∨ X.env.scope.names.lookup x = some .local := by first | exact .inl rfl | exact .inr rfl | assumption)
    (hs : ∀ x, foldedSetIterable iter X.env x = pure x := by intro _; rfl) : PS X (.Assign [.Name x pos'] (.ListComp elt [⟨tg, iter, ifs, 0⟩] scope cpos) pos) (tAsg (tComp bs wi g tt te) (gName i)) := by
  intro pins s σ H D I h
  rw [exec_Assign_Name_used _ _ _ _ hsw]
  refine wpAny_bind (wpAny_standAt ?_)
  rw [arm_evalThenUse_ListComp]
  refine wpAny_bind (wpAny_bind (thn (wp_comp (R := fun _ s' => SP X pins D .next s') (use := some (assign (.Name x pos') X.env)) hc B hi go hg ht he hs pins s σ H _ I h fun D' C s' H' f I' q fc ⟨m, hm⟩ => ?_) fun _ s' hsp => wpAny_pure (wpAny_pure hsp)))
  obtain ⟨oC, es, ep, ho, hd, hr⟩ := id hm
  have I2 : Inv X ((C, oC) :: pins) σ H' s' := I'.pins_of fun p hp => by
    rcases List.mem_cons.mp hp with rfl | hp
    · exact ⟨ho, fc.1, fc.2.1, fc.2.2.1, fun v z => by rw [hd] at z; cases z⟩
    · exact I'.pin p (List.mem_append_right _ hp)
  refine thn (pg_name (pos := pos') hN hi' hx hf ((C, oC) :: pins) s' σ H' (.ref D') (.ref D') D.nx I2 rfl q) fun _ s'' ⟨σ', H'', I3, q3⟩ => ?_
  have pC := I3.pin (C, oC) (List.mem_append_right _ List.mem_cons_self)
  have I4 : Inv X pins σ' H'' s'' := I3.pins_of fun p hp => I3.pin p (List.mem_append_right _ (List.mem_cons_of_mem _ hp))
  refine ⟨m, ⟨oC, es, ep, pC.1, hd, hr⟩, fun h'' sb => ⟨σ', H'', ?_, q3⟩⟩
  exact I4.turned (t' := s''.toks) (it := C) (fun b o hb e => sb.extBut b o hb e) pC.2.1 fc.2.1 fc.2.2.2.1 fc.2.2.2.2.1 fc.2.2.2.2.2
end L2

set_option Elab.async false
set_option linter.all false
set_option maxRecDepth 100000
namespace L2
open PySem PySem.Spec PyProof.Rows

section
variable {prog : Program} {w : World} {A : Around} {E : Value → Shared → Prop} {s : Shared}
/-- an iterator of a tuple (true), a list (false), and what it walks -/
noncomputable def ItK (kd : Bool) (h : Heap) (i l : Addr) (k : Nat) : Prop := match kd with
  | true => h.IsTupleIter i l k
  | false => h.IsListIter i l k
noncomputable def OfK (kd : Bool) (h : Heap) (i l : Addr) (k : Nat) (xs : Array Value) : Prop := match kd with
  | true => h.IsTupleIter i l k ∧ h.IsTuple l xs
  | false => h.IsListIter i l k ∧ h.IsList l xs
theorem ItK.at {kd : Bool} {h h' : Heap} {i l : Addr} {k : Nat} (x : ItK kd h i l k) (e : ∀ o, h.get? i = some o → h'.get? i = some o) : ItK kd h' i l k := by
  cases kd
  · exact Heap.IsListIter.at (show h.IsListIter i l k from x) e
  · exact Heap.IsTupleIter.at (show h.IsTupleIter i l k from x) e
theorem ItK.obj {kd : Bool} {h : Heap} {i l : Addr} {k : Nat} (x : ItK kd h i l k) : ∃ o, h.get? i = some o ∧ ∀ v, o.data ≠ .cell v := by
  cases kd
  · obtain ⟨o, e, _, d⟩ := (show h.IsListIter i l k from x)
    exact ⟨o, e, fun v z => by rw [d] at z; cases z⟩
  · obtain ⟨o, e, _, d⟩ := (show h.IsTupleIter i l k from x)
    exact ⟨o, e, fun v z => by rw [d] at z; cases z⟩
theorem OfK.kept {kd : Bool} {h h' : Heap} {i l : Addr} {k : Nat} {xs : Array Value} (x : OfK kd h i l k xs) (e : ∀ b o, b = i ∨ b = l → h.get? b = some o → h'.get? b = some o) : OfK kd h' i l k xs := by
  cases kd
  · obtain ⟨x, ⟨o, eo, r⟩⟩ := (show h.IsListIter i l k ∧ h.IsList l xs from x)
    exact ⟨x.at fun o q => e i o (.inl rfl) q, ⟨o, e l o (.inr rfl) eo, r⟩⟩
  · obtain ⟨x, ⟨o, eo, r⟩⟩ := (show h.IsTupleIter i l k ∧ h.IsTuple l xs from x)
    exact ⟨x.at fun o q => e i o (.inl rfl) q, ⟨o, e l o (.inr rfl) eo, r⟩⟩

theorem nextT_item {it t : Addr} {i : Nat} {xs : Array Value} {x : Value} {Q : Value → Shared → Prop} (hit : s.heap.IsTupleIter it t i) (ht : s.heap.IsTuple t xs) (hx : xs[i]? = some x)
    (hQ : ∀ h', h'.IsTupleIter it t (i + 1) → Heap.SameBut it s.heap h' → Q x { s with heap := h' }) : wpAny (model prog w) A (Builtin.SmallTypes.nextOf (.ref it)) Q E s := by
  obtain ⟨oi, ei, ci, di⟩ := id hit
  obtain ⟨ot, et, _, n, dt⟩ := ht
  unfold Builtin.SmallTypes.nextOf
  refine wpAny_bind (wpAny_callSpecial?_slot (name := Str.ofString "__next__") hit.typeIs F.slot_tuple_iterator_next
    (wpAny_call_entry F.slot_tuple_iterator_next hit.typeIs F.entry_tuple_iterator_next ?_ (F.args_tuple_iterator_next_1 _)))
  show wpAny _ _ (field (.ref it) 0 >>= _) _ _ s
  refine wpAny_bind (wpAny_field ei di (x := .ref t) rfl ?_)
  show wpAny _ _ (if (Value.ref t == Value.none) = true then _ else _) _ _ s
  rw [if_neg (show ¬ ((Value.ref t == Value.none) = true) from Bool.false_ne_true)]
  show wpAny _ _ (field (.ref it) 1 >>= _) _ _ s
  refine wpAny_bind (wpAny_field ei di (x := .int i 0) rfl ?_)
  show wpAny _ _ (seqItems? (.ref t) >>= _) _ _ s
  refine wpAny_bind (wpAny_seqItems et dt ?_)
  simp only [Int.toNat_natCast, hx]
  refine wpAny_bind (wpAny_setField ei di (by simp) (wpAny_pure ⟨x, rfl, wpAny_pure (hQ _ ?_ (Heap.SameBut.update ..))⟩))
  refine ⟨_, Heap.get?_update_self _ ei (Obj.isFreed_of_fields (Obj.data_mapFields di _)), (Obj.cls_mapFields ..).trans ci, ?_⟩
  rw [Obj.data_mapFields di]
  simp [rawInt]
theorem nextT_end {it t : Addr} {i : Nat} {xs : Array Value} {Q : Value → Shared → Prop} (hh : A.handled = none) (hit : s.heap.IsTupleIter it t i) (ht : s.heap.IsTuple t xs) (hx : xs[i]? = none)
    (hE : ∀ h' e, Heap.ExtBut it s.heap h' → (∃ o, h'.get? e = some o ∧ o.cls = .type "StopIteration") → E (.ref e) { s with heap := h' }) : wpAny (model prog w) A (Builtin.SmallTypes.nextOf (.ref it)) Q E s := by
  obtain ⟨oi, ei, ci, di⟩ := id hit
  obtain ⟨ot, et, _, n, dt⟩ := ht
  unfold Builtin.SmallTypes.nextOf
  refine wpAny_bind (wpAny_callSpecial?_slot (name := Str.ofString "__next__") hit.typeIs F.slot_tuple_iterator_next
    (wpAny_call_entry F.slot_tuple_iterator_next hit.typeIs F.entry_tuple_iterator_next ?_ (F.args_tuple_iterator_next_1 _)))
  show wpAny _ _ (field (.ref it) 0 >>= _) _ _ s
  refine wpAny_bind (wpAny_field ei di (x := .ref t) rfl ?_)
  show wpAny _ _ (if (Value.ref t == Value.none) = true then _ else _) _ _ s
  rw [if_neg (show ¬ ((Value.ref t == Value.none) = true) from Bool.false_ne_true)]
  show wpAny _ _ (field (.ref it) 1 >>= _) _ _ s
  refine wpAny_bind (wpAny_field ei di (x := .int i 0) rfl ?_)
  show wpAny _ _ (seqItems? (.ref t) >>= _) _ _ s
  refine wpAny_bind (wpAny_seqItems et dt ?_)
  simp only [Int.toNat_natCast, hx]
  refine wpAny_bind (wpAny_rule (wpAny_bind (wpAny_setField ei di (by simp) ?_)))
  show wpAny _ _ (newExc (.type "StopIteration") [] >>= _) _ _ _
  refine wpAny_bind ?_
  simp only [newExc, newTuple]
  refine wpAny_bind (wpAny_newObj_type ?_ (by size_fits))
  refine wpAny_bind (m := firstArgMember _ _) (wpAny_of_eq (a := Value.none) (by first | rfl | (simp only [firstArgMember]; rfl)) ?_)
  refine wpAny_newObj_type ?_ (by size_fits)
  simp only [raiseNew]
  refine wpAny_bind (wpAny_handled ?_)
  rw [hh]
  refine wpAny_throw (hE _ _ (fun b o hb e => ?_) ⟨_, Heap.get?_push_size _ rfl, rfl⟩)
  exact Heap.get?_push_of_some _ (Heap.get?_push_of_some _ ((Heap.SameBut.update ..).extBut b o hb e))
theorem nextS_item {kd : Bool} {it l : Addr} {i : Nat} {xs : Array Value} {x : Value} {Q : Value → Shared → Prop} (h : OfK kd s.heap it l i xs) (hne : l ≠ it) (hx : xs[i]? = some x)
    (hQ : ∀ h', ItK kd h' it l (i + 1) → Heap.SameBut it s.heap h' → Q x { s with heap := h' }) : wpAny (model prog w) A (Builtin.SmallTypes.nextOf (.ref it)) Q E s := by
  cases kd
  · exact wpAny_nextOf_list_item h.1 h.2 hx fun h' a' sb => hQ h' a' sb
  · exact nextT_item h.1 h.2 hx fun h' a' sb => hQ h' a' sb
theorem nextS_end {kd : Bool} {it l : Addr} {i : Nat} {xs : Array Value} {Q : Value → Shared → Prop} (hh : A.handled = none) (h : OfK kd s.heap it l i xs) (hx : xs[i]? = none)
    (hE : ∀ h' e, Heap.ExtBut it s.heap h' → (∃ o, h'.get? e = some o ∧ o.cls = .type "StopIteration") → E (.ref e) { s with heap := h' }) : wpAny (model prog w) A (Builtin.SmallTypes.nextOf (.ref it)) Q E s := by
  cases kd
  · exact wpAny_nextOf_list_end hh h.1 h.2 hx hE
  · exact nextT_end hh h.1 h.2 hx hE

theorem zipS_item {k1 k2 : Bool} {z TI TO i1 i2 l1 l2 : Addr} {k : Nat} {xs ys : Array Value} {x y a b : Value} {Q : Option Value → Shared → Prop} (D : ZipApart z TI TO i1 i2 l1 l2)
    (hz : IsZip s.heap z TI TO .none) (hTI : IsPair s.heap TI (.ref i1) (.ref i2)) (hTO : IsPair s.heap TO a b) (h1 : OfK k1 s.heap i1 l1 k xs) (h2 : OfK k2 s.heap i2 l2 k ys) (hx : xs[k]? = some x) (hy : ys[k]? = some y)
    (hQ : ∀ h', IsZip h' z TI TO (rawInt s.heap.objs.size) → IsPair h' TO x y → ItK k1 h' i1 l1 (k + 1) → ItK k2 h' i2 l2 (k + 1) → IsPair h' s.heap.objs.size x y →
      (∀ c o, c ≠ z → c ≠ TO → c ≠ i1 → c ≠ i2 → s.heap.get? c = some o → h'.get? c = some o) → Q (some (.ref s.heap.objs.size)) { s with heap := h' }) :
    wpAny (model prog w) A (pyNext (.ref z)) Q E s := by
  have hT : s.TypeIs (.ref z) "zip" := ⟨_, hz, rfl⟩
  unfold pyNext
  refine wpAny_bind (wpAny_attempt (wpAny_callSpecial?_slot (name := Str.ofString "__next__") hT F.slot_zip_next (wpAny_call_entry F.slot_zip_next hT F.entry_zip_next ?_ (F.args_zip_next_1 _))))
  show wpAny _ _ (field (.ref z) 2 >>= _) _ _ _
  refine wpAny_bind (wpAny_field hz rfl (x := .bool false) rfl ?_)
  show wpAny _ _ (field (.ref z) 3 >>= _) _ _ _
  refine wpAny_bind (wpAny_field hz rfl (x := .ref TI) rfl (wpAny_bind (wpAny_seqItems hTI rfl ?_)))
  show wpAny _ _ (Builtin.SmallTypes.ownedTupleIsFree (.ref z) >>= _) _ _ _
  refine wpAny_bind ?_
  unfold Builtin.SmallTypes.ownedTupleIsFree
  refine wpAny_bind (wpAny_field hz rfl (x := .none) rfl (wpAny_pure ?_))
  simp only [if_true]
  refine wpAny_bind (wpAny_rule (wpAny_bind (wpAny_field hz rfl (x := .ref TO) rfl (wpAny_bind (wpAny_setField_rec hz (by simp) fun g1 z1 b1 => ?_)))))
  replace z1 : IsZip g1 z TI TO .ellipsis := z1
  refine wpAny_bind ?_
  simp only [List.zipIdx_cons, List.zipIdx_nil, List.forIn_cons, List.forIn_nil]
  -- the first
  refine wpAny_bind (wpAny_bind (wpAny_onRaise ?_))
  show wpAny _ _ (Builtin.SmallTypes.nextOf (.ref i1) >>= _) _ _ _
  have q1 : OfK k1 g1 i1 l1 k xs := h1.kept fun c o hc e => b1.extBut c o (by rcases hc with rfl | rfl; exact D.i1z; exact D.l1z) e
  refine wpAny_bind (nextS_item q1 D.l1i1 hx fun g2 p1 b2 => wpAny_pure ?_)
  have t2 : IsPair g2 TO a b := b2.extBut _ _ D.TOi1 (b1.extBut _ _ D.TOz hTO)
  refine wpAny_bind (wpAny_seqItems t2 rfl (wpAny_bind (wpAny_updateSeq_pair t2 fun g3 t3 b3 => ?_)))
  replace t3 : IsPair g3 TO x b := t3
  refine wpAny_bind (wpAny_letGo (wpAny_pure ?_))
  -- the second
  refine wpAny_bind (wpAny_bind (wpAny_onRaise ?_))
  show wpAny _ _ (Builtin.SmallTypes.nextOf (.ref i2) >>= _) _ _ _
  have q2 : OfK k2 g3 i2 l2 k ys := h2.kept fun c o hc e => by
    have n1 : c ≠ z := by rcases hc with rfl | rfl; exact D.i2z; exact D.l2z
    have n2 : c ≠ i1 := by rcases hc with rfl | rfl; exact D.i12.symm; exact D.l2i1
    have n3 : c ≠ TO := by rcases hc with rfl | rfl; exact D.TOi2.symm; exact D.l2TO
    exact b3.extBut c o n3 (b2.extBut c o n2 (b1.extBut c o n1 e))
  refine wpAny_bind (nextS_item q2 D.l2i2 hy fun g4 p2 b4 => wpAny_pure ?_)
  have t4 : IsPair g4 TO x b := b4.extBut _ _ D.TOi2 t3
  refine wpAny_bind (wpAny_seqItems t4 rfl (wpAny_bind (wpAny_updateSeq_pair t4 fun g5 t5 b5 => ?_)))
  replace t5 : IsPair g5 TO x y := t5
  refine wpAny_bind (wpAny_letGo (wpAny_pure (wpAny_pure (wpAny_bind (wpAny_seqItems t5 rfl (wpAny_bind (wpAny_newTuple ?_)))))))
  have sz : g5.objs.size = s.heap.objs.size := by rw [b5.1, b4.1, b3.1, b2.1, b1.1]
  have z5 : IsZip g5 z TI TO .ellipsis := b5.extBut _ _ D.TOz.symm (b4.extBut _ _ D.i2z.symm (b3.extBut _ _ D.TOz.symm (b2.extBut _ _ D.i1z.symm z1)))
  have k5 : ∀ c o, c ≠ z → c ≠ TO → c ≠ i1 → c ≠ i2 → s.heap.get? c = some o → g5.get? c = some o := fun c o c1 c2 c3 c4 e =>
    b5.extBut _ _ c2 (b4.extBut _ _ c4 (b3.extBut _ _ c2 (b2.extBut _ _ c3 (b1.extBut _ _ c1 e))))
  have p1' : ItK k1 g5 i1 l1 (k + 1) := p1.at fun o e => b5.extBut _ _ D.TOi1.symm (b4.extBut _ _ D.i12 (b3.extBut _ _ D.TOi1.symm e))
  have p2' : ItK k2 g5 i2 l2 (k + 1) := p2.at fun o e => b5.extBut _ _ D.TOi2.symm e
  show wpAny _ _ (Builtin.SmallTypes.ownedTupleHandOut (.ref z) (.ref g5.objs.size) >>= _) _ _ _
  refine wpAny_bind ?_
  unfold Builtin.SmallTypes.ownedTupleHandOut
  have z6 : IsZip (g5.push { cls := .type "tuple", data := .seq #[x, y] }) z TI TO .ellipsis := Heap.get?_push_of_some _ z5
  refine wpAny_bind (wpAny_setField_rec z6 (by simp) fun g7 z7 b7 => ?_)
  replace z7 : IsZip g7 z TI TO (rawInt g5.objs.size) := z7
  refine wpAny_setField_rec z7 (by simp) fun g8 z8 b8 => ?_
  replace z8 : IsZip g8 z TI TO (rawInt g5.objs.size) := z8
  have up : ∀ c o, c ≠ z → g5.get? c = some o → g8.get? c = some o := fun c o c1 e => b8.extBut _ _ c1 (b7.extBut _ _ c1 (Heap.get?_push_of_some _ e))
  have nz : g5.objs.size ≠ z := Nat.ne_of_gt (Heap.lt_size z5)
  have t8 : IsPair g8 g5.objs.size x y := b8.extBut _ _ nz (b7.extBut _ _ nz (Heap.get?_push_size _ rfl))
  rw [sz] at z8 t8
  refine wpAny_pure ⟨_, rfl, wpAny_pure ?_⟩
  show Q (some (.ref g5.objs.size)) _
  rw [sz]
  exact hQ g8 z8 (up _ _ D.TOz t5) (p1'.at fun o e => up _ o D.i1z e) (p2'.at fun o e => up _ o D.i2z e) t8 fun c o c1 c2 c3 c4 e => up c o c1 (k5 c o c1 c2 c3 c4 e)

theorem zipS_end {k1 k2 : Bool} {z TI TO i1 i2 l1 l2 : Addr} {k : Nat} {xs ys : Array Value} {a b : Value} {Q : Option Value → Shared → Prop} (hh : A.handled = none) (D : ZipApart z TI TO i1 i2 l1 l2)
    (hz : IsZip s.heap z TI TO .none) (hTI : IsPair s.heap TI (.ref i1) (.ref i2)) (hTO : IsPair s.heap TO a b) (h1 : OfK k1 s.heap i1 l1 k xs) (h2 : OfK k2 s.heap i2 l2 k ys) (hend : xs[k]? = none ∨ ys[k]? = none)
    (hQ : ∀ h', (∀ c o, c ≠ z → c ≠ TO → c ≠ i1 → c ≠ i2 → s.heap.get? c = some o → h'.get? c = some o) → Q none { s with heap := h' }) :
    wpAny (model prog w) A (pyNext (.ref z)) Q E s := by
  have hT : s.TypeIs (.ref z) "zip" := ⟨_, hz, rfl⟩
  unfold pyNext
  refine wpAny_bind (wpAny_attempt (wpAny_callSpecial?_slot (name := Str.ofString "__next__") hT F.slot_zip_next (wpAny_call_entry F.slot_zip_next hT F.entry_zip_next ?_ (F.args_zip_next_1 _))))
  have fin : ∀ (g : Heap) (e : Addr), (∀ c o, c ≠ z → c ≠ TO → c ≠ i1 → c ≠ i2 → s.heap.get? c = some o → g.get? c = some o) → (∃ o, g.get? e = some o ∧ o.cls = .type "StopIteration") →
      wpAny (model prog w) A (do if ← isInstance (.ref e) (.type "StopIteration") then pure none else throw (.ref e)) Q E { s with heap := g } := fun g e hk ⟨o, ho, hc⟩ =>
    wpAny_bind (wpAny_isInstance (T := "StopIteration") (b := true) ⟨o, ho, hc⟩ isSubtype_stop (wpAny_pure (hQ _ hk)))
  show wpAny _ _ (field (.ref z) 2 >>= _) _ _ _
  refine wpAny_bind (wpAny_field hz rfl (x := .bool false) rfl ?_)
  show wpAny _ _ (field (.ref z) 3 >>= _) _ _ _
  refine wpAny_bind (wpAny_field hz rfl (x := .ref TI) rfl (wpAny_bind (wpAny_seqItems hTI rfl ?_)))
  show wpAny _ _ (Builtin.SmallTypes.ownedTupleIsFree (.ref z) >>= _) _ _ _
  refine wpAny_bind ?_
  unfold Builtin.SmallTypes.ownedTupleIsFree
  refine wpAny_bind (wpAny_field hz rfl (x := .none) rfl (wpAny_pure ?_))
  simp only [if_true]
  refine wpAny_bind (wpAny_rule (wpAny_bind (wpAny_field hz rfl (x := .ref TO) rfl (wpAny_bind (wpAny_setField_rec hz (by simp) fun g1 z1 b1 => ?_)))))
  replace z1 : IsZip g1 z TI TO .ellipsis := z1
  refine wpAny_bind ?_
  simp only [List.zipIdx_cons, List.zipIdx_nil, List.forIn_cons, List.forIn_nil]
  refine wpAny_bind (wpAny_bind (wpAny_onRaise ?_))
  show wpAny _ _ (Builtin.SmallTypes.nextOf (.ref i1) >>= _) _ _ _
  have q1 : OfK k1 g1 i1 l1 k xs := h1.kept fun c o hc e => b1.extBut c o (by rcases hc with rfl | rfl; exact D.i1z; exact D.l1z) e
  cases hx : xs[k]? with
  | none =>
    refine wpAny_bind (nextS_end hh q1 hx fun g2 e b2 he => ?_)
    obtain ⟨oe, eo, ce⟩ := he
    have z2 : IsZip g2 z TI TO .ellipsis := b2 _ _ D.i1z.symm z1
    have ne : e ≠ z := fun q => by subst q; rw [z2] at eo; cases eo; simp at ce
    refine wpAny_setField_rec z2 (by simp) fun g3 _ b3 => fin g3 e (fun c o c1 _ c3 _ q => b3.extBut _ _ c1 (b2 _ _ c3 (b1.extBut _ _ c1 q))) ⟨oe, b3.extBut _ _ ne eo, ce⟩
  | some x =>
    have hy : ys[k]? = none := by
      rcases hend with h | h
      · rw [hx] at h; cases h
      · exact h
    refine wpAny_bind (nextS_item q1 D.l1i1 hx fun g2 p1 b2 => wpAny_pure ?_)
    have t2 : IsPair g2 TO a b := b2.extBut _ _ D.TOi1 (b1.extBut _ _ D.TOz hTO)
    refine wpAny_bind (wpAny_seqItems t2 rfl (wpAny_bind (wpAny_updateSeq_pair t2 fun g3 t3 b3 => ?_)))
    refine wpAny_bind (wpAny_letGo (wpAny_pure ?_))
    refine wpAny_bind (wpAny_bind (wpAny_onRaise ?_))
    show wpAny _ _ (Builtin.SmallTypes.nextOf (.ref i2) >>= _) _ _ _
    have q2 : OfK k2 g3 i2 l2 k ys := h2.kept fun c o hc e => by
      have n1 : c ≠ z := by rcases hc with rfl | rfl; exact D.i2z; exact D.l2z
      have n2 : c ≠ i1 := by rcases hc with rfl | rfl; exact D.i12.symm; exact D.l2i1
      have n3 : c ≠ TO := by rcases hc with rfl | rfl; exact D.TOi2.symm; exact D.l2TO
      exact b3.extBut c o n3 (b2.extBut c o n2 (b1.extBut c o n1 e))
    refine wpAny_bind (nextS_end hh q2 hy fun g4 e b4 he => ?_)
    obtain ⟨oe, eo, ce⟩ := he
    have z4 : IsZip g4 z TI TO .ellipsis := b4 _ _ D.i2z.symm (b3.extBut _ _ D.TOz.symm (b2.extBut _ _ D.i1z.symm z1))
    have ne : e ≠ z := fun q => by subst q; rw [z4] at eo; cases eo; simp at ce
    refine wpAny_setField_rec z4 (by simp) fun g5 _ b5 => fin g5 e (fun c o c1 c2 c3 c4 q => b5.extBut _ _ c1 (b4 _ _ c4 (b3.extBut _ _ c2 (b2.extBut _ _ c3 (b1.extBut _ _ c1 q))))) ⟨oe, b5.extBut _ _ ne eo, ce⟩
end

/-- what zip walks: each a list or a tuple -/
noncomputable def SqX (K : PySem.W.Frag) (H : Hp) (a : Addr) (xs : List V) : Prop := SqL K H a xs ∨ SqT K H a xs
theorem SqX.ne {X : Cx} {pins : List (Addr × Obj)} {σ : St} {H : Hp} {s : Shared} {a b : Addr} {xs : List V} (I : Inv X pins σ H s) (h : SqX X.K H a xs) (f : FpOk X pins H b) : a ≠ b := by
  have tr : ∀ {u : HO}, Rd H a u → a ≠ b := fun {u} r => by
    rcases r with r | ⟨o, r⟩
    · exact ne_of_none r f.1
    · exact ne_of_none r f.1
  have kk : ∀ {o : Obj}, X.K.lookup a = some o → a ≠ b := fun {o} e z => by
    have eb : X.base.get? a = some o := I.ok.mod.kin a o e
    rcases f.2.2.2.1 with q | q
    · exact I.ok.noex a o eb (z ▸ q)
    · exact absurd (Nat.lt_of_lt_of_le (Heap.lt_size eb) (Nat.le_trans I.ok.bsz (by rw [z]; exact q))) (Nat.lt_irrefl _)
  rcases h with (r | ⟨o, _, _, e, _⟩) | (r | ⟨o, _, _, e, _⟩)
  · exact tr r
  · exact kk e
  · exact tr r
  · exact kk e
theorem notBoth {h : Heap} {a : Addr} {xs ys : Array Value} (h1 : h.IsList a xs) (h2 : h.IsTuple a ys) : False := by
  obtain ⟨o, e, c, _⟩ := h1
  obtain ⟨o', e', c', _⟩ := h2
  rw [e] at e'; cases e'
  rw [c] at c'
  exact absurd c' (by decide)
theorem Inv.seqX_inj {X : Cx} {pins : List (Addr × Obj)} {σ : St} {H : Hp} {s : Shared} {a : Addr} {xs ys : List V} (I : Inv X pins σ H s) (h : SqX X.K H a xs) (h' : SqX X.K H a ys) : xs = ys := by
  rcases h with h | h <;> rcases h' with h' | h'
  · exact I.list_inj h h'
  · obtain ⟨_, _, p, _⟩ := I.list h
    obtain ⟨_, _, q, _⟩ := I.tuple h'
    exact (notBoth p.isList q).elim
  · obtain ⟨_, _, p, _⟩ := I.list h'
    obtain ⟨_, _, q, _⟩ := I.tuple h
    exact (notBoth p.isList q).elim
  · exact I.tuple_inj h h'
/-- several untracked records of ours have turned -/
theorem Inv.turnedL {X : Cx} {pins : List (Addr × Obj)} {σ : St} {H : Hp} {s : Shared} {h' : Heap} {t' : Nat} {ch : List Addr} (I : Inv X pins σ H s) (k : ∀ b o, b ∉ ch → s.heap.get? b = some o → h'.get? b = some o) (hn : ∀ b ∈ ch, FpOk X pins H b) : Inv X pins σ H { s with heap := h', toks := t' } := by
  have nit : ∀ b u, H b = some u → b ∉ ch := fun b u e z => by rw [(hn b z).1] at e; cases e
  refine I.step (g' := s.gens) (d' := s.drawn) (ch := ch) (fun b hb => ?_) (fun b o _ _ hc e _ => k b o hc e) (fun b o _ _ hc e _ => ⟨o.slots, k b o hc e⟩) (fun _ _ _ _ n => n)
    (fun b o hc e => ⟨o, k b o hc e⟩) (fun _ _ e => e) (fun _ _ _ e => e) (fun b ps e => ⟨#[], by rw [e]; simp⟩) (fun m hm => ?_) (fun b u e => ?_) I.bare
  · obtain ⟨_, f1, _, f3, f4, f5⟩ := hn b hb
    exact ⟨f3, f1, f4, f5⟩
  · obtain ⟨o, es, ep, ho, r⟩ := hm
    exact ⟨o, es, ep, k _ o (fun z => (hn _ z).2.1 rfl) ho, r⟩
  · refine (I.hok b u e).stay (fun c v hc q => k c v ?_ q) (fun _ q => q) fun _ _ q => q
    rcases hc with z | z
    · rw [z]; exact nit b u e
    · exact nit c _ z
/-- by its kind: a tuple (true), a list (false) -/
noncomputable def SqK (kd : Bool) (K : PySem.W.Frag) (H : Hp) (a : Addr) (xs : List V) : Prop := match kd with
  | true => SqT K H a xs
  | false => SqL K H a xs
theorem SqK.x {kd : Bool} {K : PySem.W.Frag} {H : Hp} {a : Addr} {xs : List V} (h : SqK kd K H a xs) : SqX K H a xs := by
  cases kd
  · exact .inl h
  · exact .inr h
theorem Inv.sof {X : Cx} {pins : List (Addr × Obj)} {σ : St} {H : Hp} {s : Shared} {kd : Bool} {i a : Addr} {k : Nat} {xs : List V} (I : Inv X pins σ H s) (h : SqK kd X.K H a xs) (it : ItK kd s.heap i a k) : ∃ its : List Value, Vals xs its ∧ OfK kd s.heap i a k its.toArray := by
  cases kd
  · obtain ⟨its, rv, p, hz⟩ := I.list h
    exact ⟨its, rv, it, p.isList⟩
  · obtain ⟨its, rv, p, hz⟩ := I.tuple h
    exact ⟨its, rv, it, p⟩
/-- zip of two -/
noncomputable def Itz (k1 k2 : Bool) (K : PySem.W.Frag) (a b : Addr) : It :=
  ⟨fun i H => ∃ xs ys x y, SqK k1 K H a xs ∧ SqK k2 K H b ys ∧ xs[i]? = some x ∧ ys[i]? = some y,
   fun i H v H' => ∃ p, v = .ref p ∧ H p = none ∧ ∃ x y, H' = upd H p (.tup [x, y]) ∧ ∀ xs ys, SqK k1 K H a xs → SqK k2 K H b ys → xs[i]? = some x ∧ ys[i]? = some y,
   fun i H => ∃ xs ys, SqK k1 K H a xs ∧ SqK k2 K H b ys ∧ (xs.length ≤ i ∨ ys.length ≤ i)⟩
structure ZipAt (k1 k2 : Bool) (z TI TO i1 i2 a b : Addr) (i : Nat) (h : Heap) : Prop where
  hz : IsZip h z TI TO .none
  hTI : IsPair h TI (.ref i1) (.ref i2)
  hTO : ∃ x y, IsPair h TO x y
  h1 : ItK k1 h i1 a i
  h2 : ItK k2 h i2 b i
structure ZipD (z TI TO i1 i2 : Addr) : Prop where
  TIz : TI ≠ z
  TOz : TO ≠ z
  i1z : i1 ≠ z
  i2z : i2 ≠ z
  TITO : TI ≠ TO
  TIi1 : TI ≠ i1
  TIi2 : TI ≠ i2
  TOi1 : TO ≠ i1
  TOi2 : TO ≠ i2
  i12 : i1 ≠ i2
theorem SqK.inj {X : Cx} {pins : List (Addr × Obj)} {σ : St} {H : Hp} {s : Shared} {kd : Bool} {a : Addr} {xs ys : List V} (I : Inv X pins σ H s) (h : SqK kd X.K H a xs) (h' : SqK kd X.K H a ys) : xs = ys := I.seqX_inj h.x h'.x
theorem turn_zip {P : Program} {w : World} {K : PySem.W.Frag} {es : List Expr} {k : Nat} {pos : Pos} {k1 k2 : Bool} {z TI TO i1 i2 a b : Addr} (D : ZipD z TI TO i1 i2) :
    Turn P w K (.Tuple es k pos) (Itz k1 k2 K a b) [z, TI, TO, i1, i2] z (fun i h => ZipAt k1 k2 z TI TO i1 i2 a b i h) where
  mem := by simp
  obj := fun i h st c hc => by
    have hc' : c = z ∨ c = TI ∨ c = TO ∨ c = i1 ∨ c = i2 := by simpa using hc
    rcases hc' with rfl | rfl | rfl | rfl | rfl
    · exact ⟨_, st.hz, fun v q => by cases q⟩
    · exact ⟨_, st.hTI, fun v q => by cases q⟩
    · obtain ⟨x, y, e⟩ := st.hTO
      exact ⟨_, e, fun v q => by cases q⟩
    · exact st.h1.obj
    · exact st.h2.obj
  keep := fun i h h' st kk => by
    obtain ⟨x, y, e⟩ := st.hTO
    exact ⟨kk z (by simp) _ st.hz, kk TI (by simp) _ st.hTI, ⟨x, y, kk TO (by simp) _ e⟩, st.h1.at fun o q => kk i1 (by simp) o q, st.h2.at fun o q => kk i2 (by simp) o q⟩
  item := by
    intro X hP hw hK hc i pins s σ H E I hf st hg
    subst hP hw hK
    obtain ⟨xs, ys, x, y, sx, sy, ex, ey⟩ := hg
    obtain ⟨us, rx, ox⟩ := I.sof sx st.h1
    obtain ⟨vs, ry, oy⟩ := I.sof sy st.h2
    obtain ⟨u, hu, ru⟩ := rx.get ex
    obtain ⟨v, hv, rvv⟩ := ry.get ey
    obtain ⟨x0, y0, eTO⟩ := st.hTO
    have fz := hf z (by simp)
    have fTO := hf TO (by simp)
    have f1 := hf i1 (by simp)
    have f2 := hf i2 (by simp)
    have ZA : ZipApart z TI TO i1 i2 a b := ⟨D.TIz, D.TOz, D.i1z, D.i2z, D.TITO, D.TIi1, D.TIi2, D.TOi1, D.TOi2, D.i12, sx.x.ne I fz, sx.x.ne I fTO, sx.x.ne I f1, sx.x.ne I f2, sy.x.ne I fz, sy.x.ne I fTO, sy.x.ne I f1, sy.x.ne I f2⟩
    refine zipS_item ZA st.hz st.hTI eTO ox oy (x := u) (y := v) (by simpa using hu) (by simpa using hv) fun h' g1 g2 g3 g4 g5 g6 => ?_
    have hT : H s.heap.objs.size = none := I.hok.fresh (Nat.le_refl _)
    have I1 : Inv X pins σ H { s with heap := h' } := I.turnedL (t' := s.toks) (ch := [z, TO, i1, i2]) (fun c o hc e => g6 c o (fun q => hc (by simp [q])) (fun q => hc (by simp [q])) (fun q => hc (by simp [q])) (fun q => hc (by simp [q])) e)
      (fun c hc => hf c (by
        have hc' : c = z ∨ c = TO ∨ c = i1 ∨ c = i2 := by simpa using hc
        rcases hc' with rfl | rfl | rfl | rfl <;> simp))
    have hTloc : s.heap.objs.size ≠ X.env.locals := Nat.ne_of_gt I.lt
    have I2 : Inv X pins σ (upd H s.heap.objs.size (.tup [x, y])) { s with heap := h' } := I1.track hT hTloc (.inr I.sz)
      (fun n c e q => by
        obtain ⟨vv, q2⟩ := I.cell n c e
        exact absurd q2.lt (by rw [q]; exact Nat.lt_irrefl _))
      (fun p hp q => absurd (Heap.lt_size (I.pin p hp).1) (by rw [q]; exact Nat.lt_irrefl _))
      ⟨by show 2 ≤ sizeLine; rw [sizeLine_eq]; decide, [u, v], .cons ru (.cons rvv .nil), ⟨_, g5, rfl, _, rfl⟩⟩
    refine ⟨_, rfl, wpAny_letOwnedTupleGo_zip g1 fun h2 z2 b2 => ?_⟩
    have zl : z < s.heap.objs.size := Heap.lt_size st.hz
    have uz : ∀ c, c ∈ [z, TI, TO, i1, i2] → (upd H s.heap.objs.size (.tup [x, y])) c = none := fun c hc => by
      have hlt : c < s.heap.objs.size := by
        have hc' : c = z ∨ c = TI ∨ c = TO ∨ c = i1 ∨ c = i2 := by simpa using hc
        rcases hc' with rfl | rfl | rfl | rfl | rfl
        · exact zl
        · exact Heap.lt_size st.hTI
        · exact Heap.lt_size eTO
        · obtain ⟨o, e, _⟩ := st.h1.obj; exact Heap.lt_size e
        · obtain ⟨o, e, _⟩ := st.h2.obj; exact Heap.lt_size e
      rw [upd_ne (Nat.ne_of_lt hlt)]
      exact (hf c hc).1
    have I3 : Inv X pins σ (upd H s.heap.objs.size (.tup [x, y])) { s with heap := h2 } := Inv.turned (s := { s with heap := h' }) I2 (t' := s.toks) (it := z) (fun c o hc e => b2.extBut c o hc e) (uz z (by simp)) fz.2.1 fz.2.2.2.1 fz.2.2.2.2.1 fz.2.2.2.2.2
    refine ⟨.ref s.heap.objs.size, _, I3, rfl, ⟨_, rfl, hT, x, y, rfl, fun xs' ys' hx' hy' => ?_⟩, ⟨z2, b2.extBut _ _ D.TIz (g6 _ _ D.TIz D.TITO D.TIi1 D.TIi2 st.hTI), ⟨_, _, b2.extBut _ _ D.TOz g2⟩, ?_, ?_⟩, uz⟩
    · rw [hx'.inj I sx, hy'.inj I sy]
      exact ⟨ex, ey⟩
    · exact g3.at fun o q => b2.extBut _ _ D.i1z q
    · exact g4.at fun o q => b2.extBut _ _ D.i2z q
  done := by
    intro X hP hw hK hc i pins s σ H E I hf st hg
    subst hP hw hK
    obtain ⟨xs, ys, sx, sy, hend⟩ := hg
    obtain ⟨us, rx, ox⟩ := I.sof sx st.h1
    obtain ⟨vs, ry, oy⟩ := I.sof sy st.h2
    obtain ⟨x0, y0, eTO⟩ := st.hTO
    have fz := hf z (by simp)
    have fTO := hf TO (by simp)
    have f1 := hf i1 (by simp)
    have f2 := hf i2 (by simp)
    have ZA : ZipApart z TI TO i1 i2 a b := ⟨D.TIz, D.TOz, D.i1z, D.i2z, D.TITO, D.TIi1, D.TIi2, D.TOi1, D.TOi2, D.i12, sx.x.ne I fz, sx.x.ne I fTO, sx.x.ne I f1, sx.x.ne I f2, sy.x.ne I fz, sy.x.ne I fTO, sy.x.ne I f1, sy.x.ne I f2⟩
    have lx := rx.length
    have ly := ry.length
    refine zipS_end (I.ok.hd hc) ZA st.hz st.hTI eTO ox oy ?_ fun h' g6 => ⟨rfl, ?_⟩
    · rcases hend with q | q
      · exact .inl (by simp; omega)
      · exact .inr (by simp; omega)
    · exact I.turnedL (t' := s.toks) (ch := [z, TO, i1, i2]) (fun c o hc e => g6 c o (fun q => hc (by simp [q])) (fun q => hc (by simp [q])) (fun q => hc (by simp [q])) (fun q => hc (by simp [q])) e)
        (fun c hc => hf c (by
          have hc' : c = z ∨ c = TO ∨ c = i1 ∨ c = i2 := by simpa using hc
          rcases hc' with rfl | rfl | rfl | rfl <;> simp))
  self := fun _ _ _ _ _ st h => wpAny_pyIter_zip st.hz h
end L2

set_option Elab.async false
set_option linter.all false
set_option maxRecDepth 100000
namespace L2
open PySem PySem.Spec PyProof.Rows
noncomputable def ExcAt (e C dx : Addr) (h : Heap) : Prop := ∃ vs, h.get? e = some { cls := .ref C, dict := some dx, data := .fields vs }
/-- an exception ahead of its raise: its class, its dict -/
noncomputable def ExcIs (e C : Addr) (dx : Option Addr) (h : Heap) : Prop := ∃ t, h.get? e = some { cls := .ref C, dict := dx, data := .fields #[.ref t, .none, .none, .none, .bool false, .none] }
theorem ExcIs.keep {e C : Addr} {dx : Option Addr} {h h' : Heap} (x : ExcIs e C dx h) (k : ∀ o, h.get? e = some o → h'.get? e = some o) : ExcIs e C dx h' := let ⟨t, q⟩ := x; ⟨t, k _ q⟩
/-- an own exception as data: its class, its field -/
noncomputable def excD (C : Addr) (fld : Str) (d : PyData) : PyData := .dict [(.tuple [.int (C : Nat), .str fld], d)]
theorem ExcAt.keep {e C dx : Addr} {h h' : Heap} (x : ExcAt e C dx h) (k : ∀ o, h.get? e = some o → h'.get? e = some o) : ExcAt e C dx h' := let ⟨vs, q⟩ := x; ⟨vs, k _ q⟩
structure ExcC (K : PySem.W.Frag) (C : Addr) : Prop where
  ga : PySem.W.findIn K (.ref C) "__getattribute__" = some (some (.builtin "BaseException.__getattribute__"))
  gt : PySem.W.findIn K (.ref C) "__getattr__" = some none
  hd : PySem.W.hasDictIn K C = true
  be : PySem.W.mroIn K C (.type "BaseException") = some true
  cl : PySem.W.findIn K (.ref C) "__class__" = some (some (.builtin "object.__class__"))
  cg : PySem.W.specialIn K (.builtin "object.__class__") "__get__" = some (some (.builtin "getset_descriptor.__get__"))
  ct : PySem.W.takesIn K (.builtin "object.__class__") = some true
  ob : PySem.W.mroIn K C (.type "object") = some true
  n1 : PySem.W.kitOne K (.ref C) (.type "tuple") = some false
  n2 : PySem.W.kitOne K (.ref C) (.type "list") = some false
  n3 : PySem.W.kitOne K (.ref C) (.type "bool") = some false
  n4 : PySem.W.kitOne K (.ref C) (.type "int") = some false
  n5 : PySem.W.kitOne K (.ref C) (.type "str") = some false
noncomputable def five (n : String) : Prop := n = "tuple" ∨ n = "list" ∨ n = "bool" ∨ n = "int" ∨ n = "str"
theorem ExcC.five {K : PySem.W.Frag} {C : Addr} (T : ExcC K C) {n : String} (h : L2.five n) : PySem.W.kitOne K (.ref C) (.type n) = some false := by
  rcases h with rfl | rfl | rfl | rfl | rfl
  · exact T.n1
  · exact T.n2
  · exact T.n3
  · exact T.n4
  · exact T.n5
section
variable {prog : Program} {w : World} {A : Around} {E : Value → Shared → Prop} {s : Shared} {K : PySem.W.Frag} {x C : Addr} {ox : Obj} {od : Option Obj} {name : Str}
theorem exc_callC {tk : Tok} {R : Result → Shared → Prop} (T : ExcC K C) (X : K.In s.heap) (I : PySem.W.InstAt s.heap x ox C od) (hf : PySem.W.findObj K C od "__class__" = some (.bind (.builtin "getset_descriptor.__get__") (.builtin "object.__class__")))
    (h : R (.ok (.ret (.ref C))) s) :
    codeAny (model prog w) A (.call (.builtin "BaseException.__getattribute__") ⟨[.ref x, .str "__class__" tk], []⟩) R s := by
  obtain ⟨hh, g, d, t, os⟩ := s
  refine codeAny_call_builtin F.excAttr_ValueError.ga.plain F.entry_bexc_ga ?_
  have L0 := I.type (M := model prog w)
  have L1 := PySem.W.looks_find (M := model prog w) X I hf
  have L2 := PySem.W.looks_mroIn (M := model prog w) X T.be
  have hk : builtinKind "BaseException.__getattribute__" = some .slot := by decide +kernel
  have hsplit : splitId "BaseException.__getattribute__" = some ("BaseException", "__getattribute__") := by decide +kernel
  have ha := F.args_bexc_ga (.ref x) (.str "__class__" tk)
  simp only [checkBuiltinCall, hk, hsplit]
  refine wpAny_bind ?_
  unfold isInstance
  refine wpAny_bind (L0.at (L2.at ?_))
  repeat (first | wp_step)
  refine wpAny_loadPart_at I.at_ ?_
  rw [I.cls]
  refine wpAny_pure (wpAny_bind (L1.at ?_))
  dsimp only
  repeat (any_goals (first | assumption | wp_step))
  refine PySem.W.class_get (s := ⟨hh, g, d, t, os⟩) X I T.ob ?_
  repeat (any_goals (first | assumption | wp_step))
theorem exc_byC {tk : Tok} {fill expr : Bool} {Q : Value → Shared → Prop} (T : ExcC K C) (X : K.In s.heap) (I : PySem.W.InstAt s.heap x ox C od) (hf : PySem.W.findObj K C od "__class__" = some (.bind (.builtin "getset_descriptor.__get__") (.builtin "object.__class__"))) (h : Q (.ref C) s) :
    wpAny (model prog w) A (getAttrBy (.ref x) (.str "__class__" tk) fill expr) Q E s := by
  obtain ⟨hp, g, d, t, os⟩ := s
  have L0 := I.type (M := model prog w)
  have L1 := PySem.W.looks_findIn (M := model prog w) X T.ga
  have L2 := PySem.W.looks_findIn (M := model prog w) X T.gt
  have f3 := F.excAttr_ValueError.ga.bind (.ref x)
  have hx0 : (expr && onTheHeap (Value.builtin "BaseException.__getattribute__")) = false := by cases expr <;> rfl
  have hx2 : (Value.builtin "BaseException.__getattribute__" == Value.builtin "object.__getattribute__") = false := by decide +kernel
  have hx1 : (onTheHeap (Value.ref C) && Value.builtin "BaseException.__getattribute__" == Value.builtin "object.__getattribute__") = false := by rw [hx2]; rfl
  unfold getAttrBy
  refine wpAny_holding (wpAny_bind (L0.at (wpAny_bind (L1.at ?_))))
  dsimp only
  rw [if_neg (by rw [hx1]; decide)]
  unfold getAttrByItsOwn
  repeat (any_goals (first | assumption | (with_reducible refine L2.at ?_) | wp_step))
  refine exc_callC (s := ⟨hp, g, d, t, os⟩) T X I hf ?_
  dsimp only
  rw [PySem.W.handedOut_of rfl]
  exact wpAny_pure h
theorem exc_clsOf {Q : Option Value → Shared → Prop} {o : Obj} (T : ExcC K C) (X : K.In s.heap) (I : PySem.W.InstAt s.heap x ox C (some o)) (h : Q (some (.ref C)) { s with toks := s.toks + 1 }) : wpAny (model prog w) A (getAttr? (.ref x) "__class__") Q E s := by
  have hf : PySem.W.findObj K C (some o) "__class__" = some (.bind (.builtin "getset_descriptor.__get__") (.builtin "object.__class__")) := PySem.W.findObj_data (by obtain ⟨cd, hc, _⟩ := PySem.W.any_some T.hd; rw [hc]; rfl) T.cl T.cg T.ct
  unfold getAttr? getAttrBy?
  refine wpAny_bind (wpAny_mkText (wpAny_bind (wpAny_attempt (exc_byC (s := { s with toks := s.toks + 1 }) T X I hf ?_))))
  exact wpAny_pure h
theorem kitx_exc {dx : Addr} (T : ExcC K C) : PySem.W.KitX K (.ref x) (.ref C) (fun h => ExcAt x C dx h ∧ ∃ o, h.get? dx = some o) where
  ty := fun _ _ _ I => by
    obtain ⟨⟨vs, h1⟩, _⟩ := I
    exact (PySem.W.Looks.ld h1).andThen .now
  it := fun _ _ X _ => by
    obtain ⟨cdD, hcD, _⟩ := PySem.W.any_some T.hd
    unfold PySem.W.clsIn at hcD
    split at hcD
    · rename_i c' d' cd' sl' ho
      intro A' Q' E' s' k q
      unfold isType loadHead
      exact wpAny_bind (wpAny_loadPart (k _ _ (X _ _ ho)) (wpAny_pure q))
    · cases hcD
  ne := fun h tp dd its n sl X htp => by
    obtain ⟨cdD, hcD, _⟩ := PySem.W.any_some T.hd
    refine Bool.eq_false_iff.mpr fun q => ?_
    have e : C = tp := Value.ref.inj (beq_iff_eq.mp q)
    subst e
    unfold PySem.W.clsIn at hcD
    split at hcD
    · rename_i c' d' cd' sl' ho
      have z := (X _ _ ho).symm.trans htp
      cases z
    · cases hcD
  ca := fun X I k => by
    obtain ⟨⟨vs, h1⟩, o, h2⟩ := I
    exact exc_clsOf T X (ox := _) (o := o) ⟨h1, rfl, rfl, h2⟩ k
end
end L2

set_option Elab.async false
set_option linter.all false
set_option maxRecDepth 100000
namespace L2
open PySem PySem.Spec PyProof.Rows
noncomputable def itO (kd : Bool) (l : Addr) : Obj := match kd with
  | true => { cls := .type "tuple_iterator", data := .fields #[.ref l, .int 0 0] }
  | false => { cls := .type "list_iterator", data := .fields #[.ref l, .int 0 0] }
noncomputable def SeqK (kd : Bool) (h : Heap) (l : Addr) (xs : Array Value) : Prop := match kd with
  | true => h.IsTuple l xs
  | false => h.IsList l xs
theorem SeqK.push {kd : Bool} {h : Heap} {l : Addr} {xs : Array Value} (x : SeqK kd h l xs) (o : Obj) : SeqK kd (h.push o) l xs := by
  cases kd
  · exact Heap.IsList.push (show h.IsList l xs from x) o
  · exact Heap.IsTuple.push (show h.IsTuple l xs from x) o
theorem ItK.new {kd : Bool} {h : Heap} {i l : Addr} (e : h.get? i = some (itO kd l)) : ItK kd h i l 0 := by
  cases kd
  · exact ⟨_, e, rfl, rfl⟩
  · exact ⟨_, e, rfl, rfl⟩
theorem iterK {prog : Program} {w : World} {A : Around} {E : Value → Shared → Prop} {s : Shared} {kd : Bool} {l : Addr} {xs : Array Value} {Q : Value → Shared → Prop} (x : SeqK kd s.heap l xs)
    (hQ : Q (.ref s.heap.objs.size) { s with heap := s.heap.push (itO kd l) }) : wpAny (model prog w) A (pyIter (.ref l)) Q E s := by
  cases kd
  · exact wpAny_pyIter_list (show s.heap.IsList l xs from x) hQ
  · exact wpAny_pyIter_tuple (show s.heap.IsTuple l xs from x) hQ
noncomputable abbrev zh1 (k1 : Bool) (h : Heap) (a : Addr) : Heap := h.push (itO k1 a)
noncomputable abbrev zh2 (k1 k2 : Bool) (h : Heap) (a b : Addr) : Heap := (zh1 k1 h a).push (itO k2 b)
noncomputable abbrev zh3 (k1 k2 : Bool) (h : Heap) (a b : Addr) : Heap := (zh2 k1 k2 h a b).push { cls := .type "tuple", data := .seq #[.ref h.objs.size, .ref (zh1 k1 h a).objs.size] }
noncomputable abbrev zh4 (k1 k2 : Bool) (h : Heap) (a b : Addr) : Heap := (zh3 k1 k2 h a b).push { cls := .type "tuple", data := .seq #[.none, .none] }
noncomputable abbrev zh5 (k1 k2 : Bool) (h : Heap) (a b : Addr) : Heap := (zh4 k1 k2 h a b).push { cls := .type "zip", data := .fields #[.none, .bool false, .bool false, .ref (zh2 k1 k2 h a b).objs.size, .ref (zh3 k1 k2 h a b).objs.size] }
theorem meets_zipK (k1 k2 : Bool) (a b : Addr) (xs ys : Array Value) :
    Meets (Builtin.«zip.__new__» ⟨[.type "zip", .ref a, .ref b], []⟩) (fun _ R s => SeqK k1 s.heap a xs ∧ SeqK k2 s.heap b ys ∧
      R (.ok (.ret (.ref (zh4 k1 k2 s.heap a b).objs.size))) { s with heap := zh5 k1 k2 s.heap a b }) :=
  .of_wp fun prog w A R s h => by
    obtain ⟨hp, g, d, tk, os⟩ := s
    obtain ⟨x1, x2, h⟩ := h
    have hsub := sub_zip
    have y1 : SeqK k1 (Shared.heap ⟨hp, g, d, tk, os⟩) a xs := x1
    have y2 : SeqK k2 (Shared.heap ⟨hp.push (itO k1 a), g, d, tk, os⟩) b ys := SeqK.push x2 _
    wp_walk using iterK y1, iterK y2
    exact ⟨_, rfl, h⟩
section
variable {prog : Program} {w : World} {A : Around} {E : Value → Shared → Prop} {s : Shared}
theorem call_zipK {k1 k2 : Bool} {a b : Addr} {xs ys : Array Value} {Q : Value → Shared → Prop} (x1 : SeqK k1 s.heap a xs) (x2 : SeqK k2 s.heap b ys)
    (h : ∀ h', ZipAt k1 k2 (s.heap.objs.size + 4) (s.heap.objs.size + 2) (s.heap.objs.size + 3) s.heap.objs.size (s.heap.objs.size + 1) a b 0 h' →
      (∀ c o, s.heap.get? c = some o → h'.get? c = some o) → Q (.ref (s.heap.objs.size + 4)) { s with heap := h' }) :
    wpAny (model prog w) A (call (.type "zip") [.ref a, .ref b]) Q E s := by
  refine callType_new F.called_zip (by decide) (F.typeCall_zip_2 _ _) (F.newCall_zip_2 _ _) (fun obj => F.args_object_init_3 obj _ _) F.entry_zip_new (meets_zipK k1 k2 a b xs ys) ⟨x1, x2, ?_⟩
  have z1 : (zh1 k1 s.heap a).objs.size = s.heap.objs.size + 1 := Heap.size_push ..
  have z2 : (zh2 k1 k2 s.heap a b).objs.size = s.heap.objs.size + 2 := by rw [Heap.size_push, z1]
  have z3 : (zh3 k1 k2 s.heap a b).objs.size = s.heap.objs.size + 3 := by rw [Heap.size_push, z2]
  have z4 : (zh4 k1 k2 s.heap a b).objs.size = s.heap.objs.size + 4 := by rw [Heap.size_push, z3]
  have g5 : (zh5 k1 k2 s.heap a b).get? (zh4 k1 k2 s.heap a b).objs.size = some _ := Heap.get?_push_size _ rfl
  have g4 : (zh5 k1 k2 s.heap a b).get? (zh3 k1 k2 s.heap a b).objs.size = some _ := Heap.get?_push_of_some _ (Heap.get?_push_size _ rfl)
  have g3 : (zh5 k1 k2 s.heap a b).get? (zh2 k1 k2 s.heap a b).objs.size = some _ := Heap.get?_push_of_some _ (Heap.get?_push_of_some _ (Heap.get?_push_size _ rfl))
  have f2 : (itO k2 b).isFreed = false := by cases k2 <;> rfl
  have f1 : (itO k1 a).isFreed = false := by cases k1 <;> rfl
  have g2 : (zh5 k1 k2 s.heap a b).get? (zh1 k1 s.heap a).objs.size = some _ := Heap.get?_push_of_some _ (Heap.get?_push_of_some _ (Heap.get?_push_of_some _ (Heap.get?_push_size _ f2)))
  have g1 : (zh5 k1 k2 s.heap a b).get? s.heap.objs.size = some _ := Heap.get?_push_of_some _ (Heap.get?_push_of_some _ (Heap.get?_push_of_some _ (Heap.get?_push_of_some _ (Heap.get?_push_size _ f1))))
  show _ ∧ _
  rw [z2, z3, z4] at g5
  rw [z1, z2] at g3
  rw [z3] at g4
  rw [z1] at g2
  rw [z4]
  exact ⟨⟨_, g5, rfl⟩, h _ ⟨g5, g3, ⟨_, _, g4⟩, .new g1, .new g2⟩ fun c o x =>
    Heap.get?_push_of_some _ (Heap.get?_push_of_some _ (Heap.get?_push_of_some _ (Heap.get?_push_of_some _ (Heap.get?_push_of_some _ x))))⟩
end
theorem zipD_new (n : Nat) : ZipD (n + 4) (n + 2) (n + 3) n (n + 1) := by
  constructor <;> (show @Ne Nat _ _) <;> omega
section
variable {X : Cx} {es : List Expr} {k : Nat} {tp : Pos}
theorem Inv.seqK {pins : List (Addr × Obj)} {σ : St} {H : Hp} {s : Shared} {kd : Bool} {a : Addr} {xs : List V} (I : Inv X pins σ H s) (h : SqK kd X.K H a xs) : ∃ its : List Value, SeqK kd s.heap a its.toArray := by
  cases kd
  · obtain ⟨its, _, p, _⟩ := I.list h
    exact ⟨its, p.isList⟩
  · obtain ⟨its, _, p, _⟩ := I.tuple h
    exact ⟨its, p⟩
end
section
variable {bs : List Str} {g : TG} {te : TE} {σ : St} {H : Hp} {Q : VK}
end

section
variable {X : Cx}
theorem call_isinst : CallR X (.builtin "isinstance") (fun xs H Q => ∃ x n t b, xs = [x, .ty n] ∧ TyOf X.K H x t ∧ PySem.W.kitOne X.K t (.type n) = some b ∧ Q (.bl b) H) := by
  intro pins s σ H xs us Q I r h
  obtain ⟨x, n, t, b, rfl, ty, e, q⟩ := h
  obtain ⟨u, c, rfl, rx, rc⟩ := vals2 r
  cases rc
  exact isinst_ok I rx ty e fun tk => ⟨.bl b, H, I.tok tk, rfl, q⟩
end
structure Bt (m : Nat) (i : Int) : Prop where
  lt : i.natAbs < 2 ^ m
theorem Bt.mono {m n : Nat} {i : Int} (h : Bt m i) (hl : m ≤ n) : Bt n i := ⟨Nat.lt_of_lt_of_le h.lt (Nat.pow_le_pow_right (by decide) hl)⟩
theorem Bt.of_le {m : Nat} {i j : Int} (h : Bt m j) (hl : i.natAbs ≤ j.natAbs) : Bt m i := ⟨Nat.lt_of_le_of_lt hl h.lt⟩
theorem Bt.neg {m : Nat} {i : Int} (h : Bt m i) : Bt m (-i) := h.of_le (by omega)
theorem Bt.abs {m : Nat} {i : Int} (h : Bt m i) : Bt m (if i < 0 then -i else i) := h.of_le (by split <;> omega)
theorem Bt.mul {m n : Nat} {i j : Int} (h : Bt m i) (h' : Bt n j) : Bt (m + n) (i * j) := ⟨by
  rw [Int.natAbs_mul, Nat.pow_add]
  exact Nat.mul_lt_mul'' h.lt h'.lt⟩
theorem Bt.add {m : Nat} {i j : Int} (h : Bt m i) (h' : Bt m j) : Bt (m + 1) (i + j) := ⟨by
  rw [Nat.pow_succ]
  have := Int.natAbs_add_le i j
  have := h.lt
  have := h'.lt
  omega⟩
theorem Bt.sub {m : Nat} {i j : Int} (h : Bt m i) (h' : Bt m j) : Bt (m + 1) (i - j) := by
  rw [Int.sub_eq_add_neg]
  exact h.add h'.neg
theorem Bt.fdiv {m : Nat} {i j : Int} (h : Bt m i) : Bt m (i.fdiv j) := h.of_le (PySem.natAbs_fdiv_le i j)
theorem Bt.small {i : Int} (h1 : -(2 ^ 62) < i) (h2 : i < 2 ^ 62) : Bt 62 i := ⟨by omega⟩
theorem Bt.mulOk {m n : Nat} {i j : Int} (h : Bt m i) (h' : Bt n j) (hm : m + n ≤ 134217728) : IntMulOk i j := IntMulOk.of_le (intBits_le_iff.mpr h.lt) (intBits_le_iff.mpr h'.lt) hm
section
variable {X : Cx}
/-- a product of numbers of any such size -/
theorem op_mulB : OpR X (binaryOp .Mult) (rI (fun i j => Bt 60000 i ∧ Bt 60000 j) fun i j => .int (i * j)) := opI fun i j _ _ _ _ _ hc q => mul_int q (hc.1.mulOk hc.2 (by decide))
/-- // by a number of either sign -/
theorem op_fdivB : OpR X (binaryOp .FloorDiv) (rI (fun _ j => j ≠ 0 ∧ Bt 8000 j) fun i j => .int (i.fdiv j)) := opI fun i j _ _ _ _ _ hc q => floordiv_int hc.1 q (.inl (PyProof.noPylong_of_log2 (by
  have h := hc.2.lt
  have h0 : j.natAbs ≠ 0 := by have := hc.1; omega
  have := (Nat.log2_lt h0).mpr h
  omega)))

mutual
inductive Dt (K : PySem.W.Frag) (H : Hp) : V → PyData → Prop
  | non : Dt K H .non .none
  | bl (b) : Dt K H (.bl b) (.bool b)
  | int (i) : Dt K H (.int i) (.int i)
  | str (x) : Dt K H (.str x) (.str x)
  | tup {a xs ds} : SqT K H a xs → Dts K H xs ds → Dt K H (.ref a) (.tuple ds)
  | lst {a xs ds} : SqL K H a xs → Dts K H xs ds → Dt K H (.ref a) (.list ds)
  | exc {ea C dx fld v d} : ExcC K C → PySem.W.findIn K (.ref C) fld = some none → H ea = some (.ext (ExcAt ea C dx)) → H dx = some (.xd [(fld, v)]) → Dt K H v d → Dt K H (.ref ea) (excD C fld d)
inductive Dts (K : PySem.W.Frag) (H : Hp) : List V → List PyData → Prop
  | nil : Dts K H [] []
  | cons {x xs d ds} : Dt K H x d → Dts K H xs ds → Dts K H (x :: xs) (d :: ds)
end
theorem Same.seqT {K : PySem.W.Frag} {H H' : Hp} {a : Addr} {xs : List V} (e : Same H H') (h : SqT K H a xs) : SqT K H' a xs := by
  rcases h with (h | ⟨o, h⟩) | h
  · exact .inl (.inl (e _ _ h))
  · exact .inl (.inr ⟨o, e _ _ h⟩)
  · exact .inr h
theorem Same.new {H : Hp} {p : Addr} {o : HO} (h : H p = none) : Same H (upd H p o) := fun b u e => by rw [upd_ne (ne_of_none e h)]; exact e
mutual
theorem Dt.same {K : PySem.W.Frag} {H H' : Hp} (e : Same H H') {x : V} {d : PyData} (h : Dt K H x d) : Dt K H' x d := by
  cases h with
  | non => exact .non
  | bl b => exact .bl b
  | int i => exact .int i
  | str x => exact .str x
  | tup h t => exact .tup (e.seqT h) (Dts.same e t)
  | lst h t => exact .lst (e.seq h) (Dts.same e t)
  | exc c n h1 h2 t => exact .exc c n (e _ _ h1) (e _ _ h2) (Dt.same e t)
theorem Dts.same {K : PySem.W.Frag} {H H' : Hp} (e : Same H H') {xs : List V} {ds : List PyData} (h : Dts K H xs ds) : Dts K H' xs ds := by
  cases h with
  | nil => exact .nil
  | cons h t => exact .cons (Dt.same e h) (Dts.same e t)
end
theorem Dts.length {K : PySem.W.Frag} {H : Hp} : ∀ {xs : List V} {ds : List PyData}, Dts K H xs ds → xs.length = ds.length
  | _, _, .nil => rfl
  | _, _, .cons _ t => by rw [List.length_cons, List.length_cons, Dts.length t]
theorem Dts.get {K : PySem.W.Frag} {H : Hp} : ∀ {xs : List V} {ds : List PyData} {i : Nat} {d : PyData}, Dts K H xs ds → ds[i]? = some d → ∃ x, xs[i]? = some x ∧ Dt K H x d
  | _, _, _, _, .nil, e => by simp at e
  | _, _, 0, _, .cons h _, e => by simp at e; subst e; exact ⟨_, rfl, h⟩
  | _, _, i + 1, d, .cons _ t, e => by
    obtain ⟨x, h1, h2⟩ := Dts.get (i := i) (d := d) t (by simpa using e)
    exact ⟨x, by simpa using h1, h2⟩
mutual
theorem Inv.reads {pins : List (Addr × Obj)} {σ : St} {H : Hp} {s : Shared} (I : Inv X pins σ H s) {x : V} {u : Value} {d : PyData} (h : Dt X.K H x d) (r : RelV x u) (hc : d.canLay0 = true) : ∃ as, Reads s.heap u d as := by
  cases h with
  | non => cases r; exact ⟨_, .none⟩
  | bl b => cases r; exact ⟨_, .bool b⟩
  | int i => obtain ⟨t, rfl⟩ := r; exact ⟨_, .int i t⟩
  | str y => obtain ⟨t, rfl⟩ := r; exact ⟨_, .str y t⟩
  | tup h t =>
    cases r
    obtain ⟨its, rv, ⟨o, e, c, n, dd⟩, _⟩ := I.tuple h
    obtain ⟨as, ra⟩ := Inv.readsAll I t rv (by rw [PyData.canLay0] at hc; exact hc)
    exact ⟨_, .tuple e c dd (by simpa using ra)⟩
  | lst h t =>
    cases r
    obtain ⟨its, rv, pl, _⟩ := I.list h
    obtain ⟨o, e, c, n, dd⟩ := pl.isList
    obtain ⟨as, ra⟩ := Inv.readsAll I t rv (by rw [PyData.canLay0] at hc; exact hc)
    exact ⟨_, .list e c dd (by simpa using ra)⟩
  | exc _ _ _ _ _ => rw [excD, PyData.canLay0] at hc; cases hc
theorem Inv.readsAll {pins : List (Addr × Obj)} {σ : St} {H : Hp} {s : Shared} (I : Inv X pins σ H s) {xs : List V} {us : List Value} {ds : List PyData} (h : Dts X.K H xs ds) (r : Vals xs us) (hc : PyData.canLayAll0 ds = true) : ∃ as, ReadsAll s.heap us ds as := by
  cases h with
  | nil => cases r; exact ⟨_, .nil⟩
  | cons h t =>
    cases r with
    | cons r rr =>
      rw [PyData.canLayAll0, Bool.and_eq_true] at hc
      obtain ⟨as, ra⟩ := Inv.reads I h r hc.1
      obtain ⟨bs, rb⟩ := Inv.readsAll I t rr hc.2
      exact ⟨_, .cons ra rb⟩
end
theorem op_eqD (hu : X.A.units + 64 < cLine) : OpR X (compareOp .Eq) (fun x y H Q => ∃ d e, Dt X.K H x d ∧ Dt X.K H y e ∧ SeqAt.shaped d = true ∧ SeqAt.shaped e = true ∧ Q (.bl (PyData.eqv d e)) H) := by
  intro pins s σ H x y v u Q I rx ry h
  obtain ⟨d, e, h1, h2, s1, s2, q⟩ := h
  obtain ⟨as, ra⟩ := I.reads h1 rx (SeqAt.canLay_of_shaped s1)
  obtain ⟨bs, rb⟩ := I.reads h2 ry (SeqAt.canLay_of_shaped s2)
  exact eq_dataH ra rb s1 s2 hu ⟨.bl _, H, I, rfl, q⟩
theorem op_neD (hu : X.A.units + 64 < cLine) : OpR X (compareOp .NotEq) (fun x y H Q => ∃ d e, Dt X.K H x d ∧ Dt X.K H y e ∧ SeqAt.shaped d = true ∧ SeqAt.shaped e = true ∧ Q (.bl (!PyData.eqv d e)) H) := by
  intro pins s σ H x y v u Q I rx ry h
  obtain ⟨d, e, h1, h2, s1, s2, q⟩ := h
  obtain ⟨as, ra⟩ := I.reads h1 rx (SeqAt.canLay_of_shaped s1)
  obtain ⟨bs, rb⟩ := I.reads h2 ry (SeqAt.canLay_of_shaped s2)
  exact ne_dataH ra rb s1 s2 hu ⟨.bl _, H, I, rfl, q⟩
end
theorem scal_int (i j : Int) : scal (.int i) (.int j) = true := rfl
theorem scal_str (i j : Str) : scal (.str i) (.str j) = true := rfl
theorem scal_bl (i j : Bool) : scal (.bl i) (.bl j) = true := rfl
end L2

set_option Elab.async false
set_option linter.all false
set_option maxRecDepth 100000
namespace L2
open PySem PySem.Spec PyProof.Rows
noncomputable def tyOf : PyData → String
  | .none => "NoneType"
  | .bool _ => "bool"
  | .int _ => "int"
  | .str _ => "str"
  | .tuple _ => "tuple"
  | .list _ => "list"
  | _ => "dict"
/-- is a value of this type an instance of that one (of five) -/
noncomputable def isI (d : PyData) (n : String) : Bool := tyOf d == n || (tyOf d == "bool" && n == "int")
theorem kit_five {K : PySem.W.Frag} : ∀ {t n : String}, (t = "NoneType" ∨ t = "bool" ∨ t = "int" ∨ t = "str" ∨ t = "tuple" ∨ t = "list") → five n → PySem.W.kitOne K (.type t) (.type n) = some (t == n || (t == "bool" && n == "int")) := by
  intro t n ht hn
  rcases ht with rfl | rfl | rfl | rfl | rfl | rfl <;> rcases hn with rfl | rfl | rfl | rfl | rfl <;> first | rfl | decide +kernel
section
variable {X : Cx}
theorem call_isD : CallR X (.builtin "isinstance") (fun xs H Q => ∃ x n d, xs = [x, .ty n] ∧ Dt X.K H x d ∧ five n ∧ Q (.bl (isI d n)) H) := by
  intro pins s σ H xs us Q I r h
  obtain ⟨x, n, d, rfl, hd, hn, q⟩ := h
  obtain ⟨u, c, rfl, rx, rc⟩ := vals2 r
  cases rc
  have fin : ∀ tk, EP X pins σ Q (.bool (isI d n)) { s with toks := tk } := fun tk => ⟨.bl _, H, I.tok tk, rfl, q⟩
  cases hd with
  | non => cases rx; exact PySem.W.kia_one PySem.W.kitx_none I.kIn True.intro (kit_five (by simp) hn) (fun z => nomatch z) fin
  | bl b => cases rx; exact PySem.W.kia_one PySem.W.kitx_bool I.kIn True.intro (kit_five (by simp) hn) (fun z => nomatch z) fin
  | int i => obtain ⟨t, rfl⟩ := rx; exact PySem.W.kia_one PySem.W.kitx_int I.kIn True.intro (kit_five (by simp) hn) (fun z => nomatch z) fin
  | str y => obtain ⟨t, rfl⟩ := rx; exact PySem.W.kia_one PySem.W.kitx_str I.kIn True.intro (kit_five (by simp) hn) (fun z => nomatch z) fin
  | tup h t =>
    cases rx
    obtain ⟨its, rv, ⟨o, e, c, n, dd⟩, _⟩ := I.tuple h
    exact PySem.W.kia_one PySem.W.kitx_tuple I.kIn ⟨o, e, c⟩ (kit_five (by simp) hn) (fun z => nomatch z) fin
  | lst h t =>
    cases rx
    obtain ⟨its, rv, pl, _⟩ := I.list h
    obtain ⟨o, e, c, n, dd⟩ := pl.isList
    exact PySem.W.kia_one PySem.W.kitx_list I.kIn ⟨o, e, c⟩ (kit_five (by simp) hn) (fun z => nomatch z) fin
  | exc c nf h1 h2 t =>
    rename_i ea C dx fld v d
    cases rx
    obtain ⟨mA, ⟨ob, es, ep, ho, _⟩, _⟩ := I.hok _ _ h2
    have e0 : isI (excD C fld d) n = false := by rcases hn with rfl | rfl | rfl | rfl | rfl <;> rfl
    rw [e0] at fin
    exact PySem.W.kia_one (kitx_exc c) I.kIn ⟨(I.hok _ _ h1).1, ob, ho⟩ (c.five hn) (fun z => nomatch z) fin
end
section
variable {prog : Program} {w : World} {A : Around} {E : Value → Shared → Prop} {s : Shared}
theorem getItem_whole {t sl : Addr} {items : Array Value} {vl vu : Value} {lo hi : Option Int} {Q : Value → Shared → Prop} (ht : IsTup s.heap t items) (hs : s.heap.IsSliceOf sl vl vu .none) (pl : IsPart vl lo) (pu : IsPart vu hi)
    (hw : HT.sIx items.size 0 lo = 0 ∧ HT.sIx items.size items.size hi = items.size) (h : Q (.ref t) s) : wpAny (model prog w) A (getItem (.ref t) (.ref sl)) Q E s := by
  obtain ⟨os, hos, hcs, hds⟩ := id hs
  have hTs : s.TypeIs (.ref sl) "slice" := ⟨os, hos, hcs⟩
  unfold getItem
  try with_reducible refine wpAny_holding ?_
  first | refine wpAny_bind (wpAny_pure ?_) | skip
  refine wpAny_bind (wpAny_sequenceKey ht.typeIs (by decide) ?_)
  refine wpAny_bind (wpAny_callSpecial?_slot (name := Str.ofString "__getitem__") ht.typeIs PyProof.Rows.slot_tuple_getitem (wpAny_call_entry PyProof.Rows.slot_tuple_getitem ht.typeIs entry_tuple_getitem ?_ (args_tuple_getitem _ _)))
  show wpAny _ _ (Builtin.Tuple.tupleItemsOf (.ref t) >>= _) _ _ s
  refine wpAny_bind (tupleItemsOf_ ht (wpAny_bind (wpAny_typeOf hTs ?_)))
  rw [if_pos (by decide)]
  refine wpAny_bind (HT.sliceApplied_gen hs pl pu ?_)
  rw [hw.1, hw.2]
  show wpAny _ _ (if ((((0 : Nat) : Int)) == 0 && (1 : Int) == 1 && (items.size - 0) == items.size) = true then _ else _) _ _ s
  rw [if_pos (by simp)]
  show wpAny _ _ (Builtin.Tuple.tupleIsExact (.ref t) >>= _) _ _ s
  unfold Builtin.Tuple.tupleIsExact
  refine wpAny_bind (wpAny_bind (wpAny_typeOf ht.typeIs (wpAny_pure ?_)))
  rw [if_pos (by decide)]
  first
    | exact wpAny_bind (wpAny_rule (wpAny_bind (wpAny_pure ⟨_, rfl, wpAny_pure h⟩)))
    | exact wpAny_bind (wpAny_rule (wpAny_pure ⟨_, rfl, wpAny_pure h⟩))
    | exact wpAny_bind (wpAny_rule (wpAny_bind (wpAny_pure (wpAny_pure ⟨_, rfl, wpAny_pure h⟩))))
theorem cat_nil {t b : Addr} {vs ws : List Value} {Q : Value → Shared → Prop} (ht : IsTup s.heap t vs.toArray) (hb : IsTup s.heap b ws.toArray) (hv : vs = []) (h : Q (.ref b) s) : wpAny (model prog w) A (binaryOp .Add (.ref t) (.ref b)) Q E s := by
  obtain ⟨⟨cls, dd, data, sl⟩, ho, hc, n, hd⟩ := id ht
  obtain ⟨⟨cls2, dd2, data2, sl2⟩, ho2, hc2, n2, hd2⟩ := id hb
  simp only at hc hd hc2 hd2
  subst hc hd hc2 hd2
  exact concat_meets ⟨_, ho, rfl⟩ ⟨_, ho2, rfl⟩ noFill_tuple_add seq_tuple_add PySem.F.slot_tuple_add PySem.F.entry_tuple_add (PySem.F.args_tuple_add_2 _ _)
    (tuple_addW0 t b vs.toArray ws.toArray n n2 dd dd2 sl sl2 (by simp [hv])) ⟨ho, ho2, h⟩
end
section
variable {X : Cx}
end
theorem ex2 {α β : Type} {x : α} {l : β} {P : α → β → Prop} : (∃ v r, (x = v ∧ l = r) ∧ P v r) ↔ P x l := ⟨fun ⟨_, _, ⟨h1, h2⟩, h⟩ => by subst h1; subst h2; exact h, fun h => ⟨x, l, ⟨rfl, rfl⟩, h⟩⟩
theorem FnOk.or {P : Program} {w : World} {K : PySem.W.Frag} {mg : Str → Option Value} {base : Heap} {CX : CXT} {k : Nat} {f : Addr} {fd : FuncData} {ps : List Str} {sp sp' : Sp} (F : FnOk P w K mg base CX k f fd ps sp) (G : FnOk P w K mg base CX k f fd ps sp') :
    FnOk P w K mg base CX k f fd ps (fun vs H Q E => sp vs H Q E ∨ sp' vs H Q E) :=
  ⟨fun vs H Q E h => h.elim (F.len vs H Q E) (G.len vs H Q E), fun A outer s H args us vs Q E hr he hb hv hs => hs.elim (F.run A outer s H args us vs Q E hr he hb hv) (G.run A outer s H args us vs Q E hr he hb hv)⟩
end L2

set_option Elab.async false
set_option linter.all false
set_option maxRecDepth 100000
namespace L2
open PySem PySem.Spec PyProof.Rows
/-- plain data, or a list of the body's own (no one else holds it) -/
inductive PV where
  | dat (d : PyData)
  | own (l : List PyData)
noncomputable def PV.d : PV → PyData
  | .dat d => d
  | .own l => .list l
@[simp] theorem PV.d_dat (d : PyData) : (PV.dat d).d = d := rfl
@[simp] theorem PV.d_own (l : List PyData) : (PV.own l).d = .list l := rfl
noncomputable abbrev Ds := List (Option PV)
noncomputable abbrev As := List (Option Addr)
/-- the heap without own lists (as) and without what callers keep for themselves (O) -/
noncomputable def hid (H : Hp) (as : As) (O : List Addr) : Hp := fun b => if b ∈ O ∨ some b ∈ as then none else H b
theorem hid_some {H : Hp} {as : As} {O : List Addr} {b : Addr} {o : HO} : hid H as O b = some o ↔ (b ∉ O ∧ some b ∉ as ∧ H b = some o) := by
  unfold hid
  split
  · rename_i h
    constructor
    · intro z; cases z
    · rintro ⟨h1, h2, _⟩
      exact (h.elim h1 h2).elim
  · rename_i h
    constructor
    · intro z; exact ⟨fun q => h (.inl q), fun q => h (.inr q), z⟩
    · rintro ⟨_, _, z⟩; exact z
theorem hid_le {H H' : Hp} {as as' : As} {O O' : List Addr} (e : ∀ b o, b ∉ O → some b ∉ as → H b = some o → b ∉ O' ∧ some b ∉ as' ∧ H' b = some o) : Same (hid H as O) (hid H' as' O') := fun b o h => by
  obtain ⟨h1, h2, h3⟩ := hid_some.mp h
  exact hid_some.mpr (e b o h1 h2 h3)
theorem hid_same {H H' : Hp} {as : As} {O : List Addr} (e : Same H H') : Same (hid H as O) (hid H' as O) := hid_le fun b o h1 h2 h3 => ⟨h1, h2, e b o h3⟩
theorem hid_sub {H H' : Hp} {as as' : As} {O : List Addr} (e : Same H H') (h : ∀ b, some b ∈ as' → some b ∈ as) : Same (hid H as O) (hid H' as' O) := hid_le fun b o h1 h2 h3 => ⟨h1, fun z => h2 (h b z), e b o h3⟩
theorem hid_all {H : Hp} {as : As} {O : List Addr} : Same (hid H as O) H := fun b o h => (hid_some.mp h).2.2
/-- own lists as part of what is kept -/
theorem hid_as {H : Hp} {as bs : As} {O : List Addr} : hid H (bs ++ as) O = hid H bs (O ++ as.filterMap id) := by
  funext b
  unfold hid
  have : (b ∈ O ∨ some b ∈ bs ++ as) ↔ (b ∈ O ++ as.filterMap id ∨ some b ∈ bs) := by
    simp only [List.mem_append, List.mem_filterMap, id]
    constructor
    · rintro (h | h | h)
      · exact .inl (.inl h)
      · exact .inr h
      · exact .inl (.inr ⟨_, h, rfl⟩)
    · rintro ((h | ⟨x, h, e⟩) | h)
      · exact .inl h
      · subst e; exact .inr (.inr h)
      · exact .inr (.inl h)
  by_cases c : b ∈ O ∨ some b ∈ bs ++ as
  · rw [if_pos c, if_pos (this.mp c)]
  · rw [if_neg c, if_neg (fun z => c (this.mpr z))]

noncomputable def SlotOk (K : PySem.W.Frag) (O : List Addr) (as : As) (H : Hp) (si : Option (Option V)) (ai : Option (Option Addr)) : PV → Prop
  | .dat d => ∃ v, si = some (some v) ∧ Dt K (hid H as O) v d
  | .own l => ∃ a xs, si = some (some (.ref a)) ∧ ai = some (some a) ∧ H a = some (.lst xs) ∧ Dts K (hid H as O) xs l
/-- the state of a body: the slots hold the data ds; H₀ the heap at the entry -/
structure DS (K : PySem.W.Frag) (O : List Addr) (H₀ : Hp) (as : As) (σ : St) (H : Hp) (ds : Ds) : Prop where
  ls : σ.length = ds.length
  la : as.length = ds.length
  same : Same H₀ H
  new : ∀ a, some a ∈ as → H₀ a = none ∧ ∃ xs, H a = some (.lst xs)
  dom : ∀ a ∈ O, ∃ o, H₀ a = some o
  inj : ∀ (i j : Nat) (a : Addr), as[i]? = some (some a) → as[j]? = some (some a) → i = j
  slot : ∀ (i : Nat) (pv : PV), ds[i]? = some (some pv) → SlotOk K O as H σ[i]? as[i]? pv
noncomputable def vis (fr : Bool) (as : As) : As := if fr = true then as else []
theorem vis_mem {fr : Bool} {as : As} {b : Addr} (h : some b ∈ vis fr as) : some b ∈ as := by
  unfold vis at h
  split at h
  · exact h
  · simp at h
/-- what an expression is worth: data that may be kept, or a new list -/
noncomputable def RX (K : PySem.W.Frag) (O : List Addr) (va : As) (H H' : Hp) (v : V) : PV → Prop
  | .dat d => Dt K (hid H' va O) v d
  | .own l => ∃ a xs, v = .ref a ∧ H a = none ∧ H' a = some (.lst xs) ∧ Dts K (hid H' (some a :: va) O) xs l
/-- O and va lie in the heap -/
structure Dom (H : Hp) (va : As) (O : List Addr) : Prop where
  o : ∀ a ∈ O, ∃ u, H a = some u
  a : ∀ a, some a ∈ va → ∃ u, H a = some u
section
variable {K : PySem.W.Frag} {O : List Addr} {H₀ H H' H2 : Hp} {as va : As} {σ : St} {ds : Ds} {v : V} {pv : PV} {fr : Bool}
theorem Dom.same (D : Dom H va O) (e : Same H H') : Dom H' va O := ⟨fun a h => let ⟨u, z⟩ := D.o a h; ⟨u, e _ _ z⟩, fun a h => let ⟨u, z⟩ := D.a a h; ⟨u, e _ _ z⟩⟩
theorem DS.dm (S : DS K O H₀ as σ H ds) : Dom H (vis fr as) O := ⟨fun a h => let ⟨u, z⟩ := S.dom a h; ⟨u, S.same _ _ z⟩, fun a h => let ⟨_, z⟩ := (S.new a (vis_mem h)).2; ⟨_, z⟩⟩
theorem DS.nO (S : DS K O H₀ as σ H ds) {a : Addr} (h : some a ∈ as) : a ∉ O := fun z => by
  obtain ⟨o, e⟩ := S.dom a z
  rw [(S.new a h).1] at e
  cases e
theorem SlotOk.grow {si : Option (Option V)} {ai : Option (Option Addr)} (h : SlotOk K O as H si ai pv) (e : Same H H') : SlotOk K O as H' si ai pv := by
  cases pv with
  | dat d => obtain ⟨v, e1, h⟩ := h; exact ⟨v, e1, h.same (hid_same e)⟩
  | own l => obtain ⟨a, xs, e1, e2, e3, h⟩ := h; exact ⟨a, xs, e1, e2, e _ _ e3, h.same (hid_same e)⟩
theorem DS.grow (S : DS K O H₀ as σ H ds) (e : Same H H') : DS K O H₀ as σ H' ds :=
  ⟨S.ls, S.la, S.same.trans e, fun a h => ⟨(S.new a h).1, let ⟨o, z⟩ := (S.new a h).2; ⟨o, e _ _ z⟩⟩, S.dom, S.inj, fun i pv h => (S.slot i pv h).grow e⟩
theorem RX.grow (h : RX K O va H H' v pv) (e : Same H' H2) : RX K O va H H2 v pv := by
  cases pv with
  | dat d => exact Dt.same (hid_same e) h
  | own l => obtain ⟨a, xs, e1, e2, e3, h⟩ := h; exact ⟨a, xs, e1, e2, e _ _ e3, h.same (hid_same e)⟩
/-- seen from an earlier heap -/
theorem RX.back (h : RX K O va H H' v pv) (e : Same H2 H) : RX K O va H2 H' v pv := by
  cases pv with
  | dat d => exact h
  | own l => obtain ⟨a, xs, e1, e2, e3, h⟩ := h; exact ⟨a, xs, e1, e.free e2, e3, h⟩
theorem RX.dt (h : RX K O va H H' v pv) (D : Dom H va O) : Dt K (hid H' va O) v pv.d := by
  cases pv with
  | dat d => exact h
  | own l =>
    obtain ⟨a, xs, rfl, e2, e3, h⟩ := h
    refine .lst (SqL.of (hid_some.mpr ⟨fun z => ?_, fun z => ?_, e3⟩)) (h.same (hid_sub (Same.refl _) fun b z => List.mem_cons_of_mem _ z))
    · obtain ⟨u, z⟩ := D.o a z
      rw [e2] at z; cases z
    · obtain ⟨u, z⟩ := D.a a z
      rw [e2] at z; cases z
/-- fewer lists hidden -/
theorem RX.less {vb : As} (h : RX K O va H H' v pv) (s : ∀ b, some b ∈ vb → some b ∈ va) : RX K O vb H H' v pv := by
  cases pv with
  | dat d => exact Dt.same (hid_sub (Same.refl _) s) h
  | own l =>
    obtain ⟨a, xs, rfl, e2, e3, h⟩ := h
    refine ⟨a, xs, rfl, e2, e3, h.same (hid_sub (Same.refl _) fun b z => ?_)⟩
    rcases List.mem_cons.mp z with z | z
    · rw [z]; exact List.mem_cons_self
    · exact List.mem_cons_of_mem _ (s b z)
theorem hid_vis : Same (hid H as O) (hid H (vis fr as) O) := hid_sub (Same.refl _) fun _ h => vis_mem h
/-- data without a heap -/
noncomputable def Flat : PyData → Bool
  | .none => true
  | .bool _ => true
  | .int _ => true
  | .str _ => true
  | _ => false
theorem Dt.flat {d : PyData} (h : Dt K H v d) (f : Flat d = true) : Dt K H' v d := by
  cases h with
  | non => exact .non
  | bl b => exact .bl b
  | int i => exact .int i
  | str x => exact .str x
  | tup _ _ => cases f
  | lst _ _ => cases f
  | exc _ _ _ _ _ => cases f
theorem Dts.append : ∀ {xs ys : List V} {ds es : List PyData}, Dts K H xs ds → Dts K H ys es → Dts K H (xs ++ ys) (ds ++ es)
  | _, _, _, _, .nil, h => h
  | _, _, _, _, .cons a t, h => .cons a (Dts.append t h)
theorem Dts.get' : ∀ {xs : List V} {ds : List PyData} {i : Nat} {x : V}, Dts K H xs ds → xs[i]? = some x → ∃ d, ds[i]? = some d ∧ Dt K H x d
  | _, _, _, _, .nil, e => by simp at e
  | _, _, 0, _, .cons h _, e => by simp at e; subst e; exact ⟨_, rfl, h⟩
  | _, _, i + 1, d, .cons _ t, e => by
    obtain ⟨x, h1, h2⟩ := Dts.get' (i := i) (x := d) t (by simpa using e)
    exact ⟨x, by simpa using h1, h2⟩
theorem Dts.take : ∀ {xs : List V} {ds : List PyData} (n : Nat), Dts K H xs ds → Dts K H (xs.take n) (ds.take n)
  | _, _, 0, _ => by simp; exact .nil
  | _, _, _ + 1, .nil => by simp; exact .nil
  | _, _, n + 1, .cons h t => by simp only [List.take_succ_cons]; exact .cons h (Dts.take n t)
theorem Dts.drop : ∀ {xs : List V} {ds : List PyData} (n : Nat), Dts K H xs ds → Dts K H (xs.drop n) (ds.drop n)
  | _, _, 0, h => by simpa using h
  | _, _, _ + 1, .nil => by simp; exact .nil
  | _, _, n + 1, .cons h t => by simp only [List.drop_succ_cons]; exact Dts.drop n t
theorem Dts.reverse : ∀ {xs : List V} {ds : List PyData}, Dts K H xs ds → Dts K H xs.reverse ds.reverse
  | _, _, .nil => by simp; exact .nil
  | _, _, .cons h t => by simp only [List.reverse_cons]; exact (Dts.reverse t).append (.cons h .nil)
theorem Dts.set : ∀ {xs : List V} {ds : List PyData} (i : Nat) {x : V} {d : PyData}, Dts K H xs ds → Dt K H x d → Dts K H (xs.set i x) (ds.set i d)
  | _, _, _, _, _, .nil, _ => by simp; exact .nil
  | _, _, 0, _, _, .cons _ t, h => by simp only [List.set_cons_zero]; exact .cons h t
  | _, _, i + 1, _, _, .cons a t, h => by simp only [List.set_cons_succ]; exact .cons a (Dts.set i t h)
end

noncomputable def TX (K : PySem.W.Frag) (fr : Bool) (te : TE) (F : Ds → Option PV) : Prop :=
  ∀ (O : List Addr) (H₀ : Hp) (as : As) (σ : St) (H : Hp) (ds : Ds) (pv : PV) (Q : VK), DS K O H₀ as σ H ds → F ds = some pv → (∀ v H', Same H H' → RX K O (vis fr as) H H' v pv → Q v H') → te σ H Q
structure PX (X : Cx) (fr : Bool) (e : Expr) (te : TE) (F : Ds → Option PV) : Prop where
  p : PE X e te
  t : TX X.K fr te F
noncomputable def TTX (K : PySem.W.Frag) (tt : TT) (F : Ds → Option Bool) : Prop :=
  ∀ (O : List Addr) (H₀ : Hp) (as : As) (σ : St) (H : Hp) (ds : Ds) (b : Bool) (Q : Bool → Hp → Prop), DS K O H₀ as σ H ds → F ds = some b → (∀ H', Same H H' → Q b H') → tt σ H Q
structure PTX (X : Cx) (e : Expr) (tt : TT) (F : Ds → Option Bool) : Prop where
  p : PT X e tt
  t : TTX X.K tt F
structure PWX (X : Cx) (e : Expr) (tt : TT) (F : Ds → Option Bool) : Prop where
  p : PW X e tt
  t : TTX X.K tt F
noncomputable def TAX (K : PySem.W.Frag) (fr : Bool) (t : TA) (F : Ds → Option (List PyData)) : Prop :=
  ∀ (O : List Addr) (H₀ : Hp) (as : As) (σ : St) (H : Hp) (ds : Ds) (l : List PyData) (Q : List V → Hp → Prop), DS K O H₀ as σ H ds → F ds = some l → (∀ vs H', Same H H' → Dts K (hid H' (vis fr as) O) vs l → Q vs H') → t σ H Q
structure PAX (X : Cx) (fr : Bool) (es : List Expr) (t : TA) (F : Ds → Option (List PyData)) : Prop where
  p : PA X es t
  t : TAX X.K fr t F
/-- an operation of two values -/
noncomputable def R2X (K : PySem.W.Frag) (r : R2) (f : PyData → PyData → Option PV) : Prop :=
  ∀ (O : List Addr) (va : As) (H : Hp) (x y : V) (d e : PyData) (pv : PV) (Q : VK), Dom H va O → Dt K (hid H va O) x d → Dt K (hid H va O) y e → f d e = some pv → (∀ v H', Same H H' → RX K O va H H' v pv → Q v H') → r x y H Q
noncomputable def R1X (K : PySem.W.Frag) (r : V → Hp → VK → Prop) (f : PyData → Option PV) : Prop :=
  ∀ (O : List Addr) (va : As) (H : Hp) (x : V) (d : PyData) (pv : PV) (Q : VK), Dom H va O → Dt K (hid H va O) x d → f d = some pv → (∀ v H', Same H H' → RX K O va H H' v pv → Q v H') → r x H Q
noncomputable def RNX (K : PySem.W.Frag) (r : List V → Hp → VK → Prop) (f : List PyData → Option PV) : Prop :=
  ∀ (O : List Addr) (va : As) (H : Hp) (xs : List V) (ds : List PyData) (pv : PV) (Q : VK), Dom H va O → Dts K (hid H va O) xs ds → f ds = some pv → (∀ v H', Same H H' → RX K O va H H' v pv → Q v H') → r xs H Q

noncomputable def fVar (i : Nat) : Ds → Option PV := fun ds => match ds[i]? with
  | some (some (.dat d)) => some (.dat d)
  | _ => none
/-- lent: an own list may be looked at -/
noncomputable def fVarB (i : Nat) : Ds → Option PV := fun ds => match ds[i]? with
  | some (some pv) => some (.dat pv.d)
  | _ => none
noncomputable def fC (d : PyData) : Ds → Option PV := fun _ => some (.dat d)
section
variable {X : Cx} {fr : Bool} {e a b c : Expr} {es rest : List Expr} {te ta tb tc : TE} {tt tu : TT} {t : TA} {Fa Fb Fc F : Ds → Option PV} {Ft Fu : Ds → Option Bool} {Fl : Ds → Option (List PyData)} {pos : Pos}
theorem px_var (i : Nat) (h : PE X e (tVar i)) : PX X fr e (tVar i) (fVar i) := ⟨h, by
  intro O H₀ as σ H ds pv Q S hf q
  unfold fVar at hf
  split at hf
  · rename_i d hd
    cases hf
    obtain ⟨v, e1, h⟩ := S.slot i _ hd
    exact ⟨v, e1, q v H (Same.refl H) (h.same hid_vis)⟩
  · cases hf⟩
theorem px_c {v : V} {d : PyData} (h : PE X e (tC v)) (hd : ∀ H, Dt X.K H v d) : PX X fr e (tC v) (fC d) := ⟨h, by
  intro O H₀ as σ H ds pv Q S hf q
  cases hf
  exact q v H (Same.refl H) (hd _)⟩
theorem px_int {i : Int} {j} : PX X fr (.Constant (.int i) j pos) (tC (.int i)) (fC (.int i)) := px_c pe_int fun _ => .int i
theorem px_bl {i : Bool} {j} : PX X fr (.Constant (.bool i) j pos) (tC (.bl i)) (fC (.bool i)) := px_c pe_bl fun _ => .bl i
theorem px_str {i : Str} {j} : PX X fr (.Constant (.str i) j pos) (tC (.str i)) (fC (.str i)) := px_c pe_str fun _ => .str i
theorem px_non {j} : PX X fr (.Constant .none j pos) (tC .non) (fC .none) := px_c pe_non fun _ => .non

/-- what was looked at may be kept, where it has no heap -/
noncomputable def fFlat (F : Ds → Option PV) : Ds → Option PV := fun ds => (F ds).bind fun pv => if Flat pv.d = true then some (.dat pv.d) else none
noncomputable def fOp (f : PyData → PyData → Option PV) (Fa Fb : Ds → Option PV) : Ds → Option PV := fun ds => (Fa ds).bind fun x => (Fb ds).bind fun y => f x.d y.d
theorem tx_op {r : R2} {f : PyData → PyData → Option PV} (hr : R2X X.K r f) (ha : PX X fr a ta Fa) (hb : PX X fr b tb Fb) : TX X.K fr (tOp r ta tb) (fOp f Fa Fb) := by
  intro O H₀ as σ H ds pv Q S hf q
  unfold fOp at hf
  cases h1 : Fa ds with
  | none => rw [h1] at hf; cases hf
  | some x =>
    rw [h1] at hf
    simp only [Option.bind_some] at hf
    cases h2 : Fb ds with
    | none => rw [h2] at hf; cases hf
    | some y =>
      rw [h2] at hf
      simp only [Option.bind_some] at hf
      refine ha.t O H₀ as σ H ds x _ S h1 fun v H1 e1 r1 => ?_
      refine hb.t O H₀ as σ H1 ds y _ (S.grow e1) h2 fun u H2 e2 r2 => ?_
      have S2 := (S.grow e1).grow e2
      refine hr O (vis fr as) H2 v u x.d y.d pv Q S2.dm ((r1.grow e2).dt S.dm) (r2.dt (S.grow e1).dm) hf fun w H3 e3 r3 => ?_
      exact q w H3 ((e1.trans e2).trans e3) (r3.back (e1.trans e2))
theorem px_op {op : Operator} {r : R2} {f : PyData → PyData → Option PV} (ho : OpR X (binaryOp op) r) (hr : R2X X.K r f) (ha : PX X fr a ta Fa) (hb : PX X fr b tb Fb) : PX X fr (.BinOp a op b pos) (tOp r ta tb) (fOp f Fa Fb) :=
  ⟨pe_op ho ha.p hb.p, tx_op hr ha hb⟩
theorem px_cmp {op : CmpOp} {r : R2} {f : PyData → PyData → Option PV} (ho : OpR X (compareOp op) r) (hr : R2X X.K r f) (hm : behindInMarks op b = false) (ha : PX X fr a ta Fa) (hb : PX X fr b tb Fb) : PX X fr (.Compare a [op] [b] pos) (tOp r ta tb) (fOp f Fa Fb) :=
  ⟨pe_cmpR ho ha.p hb.p hm, tx_op hr ha hb⟩
theorem px_ix {r : R2} {f : PyData → PyData → Option PV} (ho : IxR X r) (hr : R2X X.K r f) (ha : PX X fr a ta Fa) (hb : PX X fr b tb Fb) (hs : PlainIx b) : PX X fr (.Subscript a b pos) (tOp r ta tb) (fOp f Fa Fb) :=
  ⟨pe_ix ho ha.p hb.p hs, tx_op hr ha hb⟩
noncomputable def fUn (f : PyData → Option PV) (Fa : Ds → Option PV) : Ds → Option PV := fun ds => (Fa ds).bind fun x => f x.d
theorem px_un {op : UnaryOp} {r : V → Hp → VK → Prop} {f : PyData → Option PV} (ho : UnR X (unaryOp op) r) (hr : R1X X.K r f) (ha : PX X fr a ta Fa) : PX X fr (.UnaryOp op a pos) (tUn r ta) (fUn f Fa) := ⟨pe_un ho ha.p, by
  intro O H₀ as σ H ds pv Q S hf q
  unfold fUn at hf
  cases h1 : Fa ds with
  | none => rw [h1] at hf; cases hf
  | some x =>
    rw [h1] at hf
    simp only [Option.bind_some] at hf
    refine ha.t O H₀ as σ H ds x _ S h1 fun v H1 e1 r1 => ?_
    refine hr O (vis fr as) H1 v x.d pv Q (S.grow e1).dm (r1.dt S.dm) hf fun w H3 e3 r3 => ?_
    exact q w H3 (e1.trans e3) (r3.back e1)⟩

noncomputable def asB : PyData → Option Bool
  | .bool b => some b
  | _ => none
noncomputable def bVal (F : Ds → Option PV) : Ds → Option Bool := fun ds => (F ds).bind fun x => asB x.d
theorem ttx_b {te : TE} (h : TX X.K fr te F) : TTX X.K (tB te) (bVal F) := by
  intro O H₀ as σ H ds b Q S hf q
  unfold bVal at hf
  cases h1 : F ds with
  | none => rw [h1] at hf; cases hf
  | some x =>
    rw [h1] at hf
    simp only [Option.bind_some] at hf
    refine h O H₀ as σ H ds x _ S h1 fun v H1 e1 r1 => ?_
    have d := r1.dt S.dm
    generalize x.d = z at d hf
    cases z with
    | bool c => cases hf; cases d; exact ⟨_, rfl, q H1 e1⟩
    | _ => cases hf
theorem ptx_val (h : PX X fr e te F) (he : ∀ whole, isTrue e X.env whole = (do let v ← whole; standAt e.pos; holding [v] (truthy v)) := by intro _; rfl) : PTX X e (tB te) (bVal F) := ⟨pt_val h.p he, ttx_b h.t⟩
theorem ptx_cmp {op : CmpOp} {r : R2} {f : PyData → PyData → Option PV} (ho : OpR X (compareOp op) r) (hr : R2X X.K r f) (hm : behindInMarks op b = false) (ha : PX X fr a ta Fa) (hb : PX X fr b tb Fb) : PTX X (.Compare a [op] [b] pos) (tTest (tOp r ta tb)) (bVal (fOp f Fa Fb)) :=
  ⟨pt_cmpR ho ha.p hb.p hm, ttx_b (tx_op hr ha hb)⟩
noncomputable def bNot (F : Ds → Option Bool) : Ds → Option Bool := fun ds => (F ds).bind fun b => some (!b)
noncomputable def bAnd (F G : Ds → Option Bool) : Ds → Option Bool := fun ds => (F ds).bind fun b => if b = true then G ds else some false
noncomputable def bOr (F G : Ds → Option Bool) : Ds → Option Bool := fun ds => (F ds).bind fun b => if b = true then some true else G ds
theorem ttx_and (h : TTX X.K tt Ft) (k : TTX X.K tu Fu) : TTX X.K (tAnd tt tu) (bAnd Ft Fu) := by
  intro O H₀ as σ H ds b Q S hf q
  unfold bAnd at hf
  cases h1 : Ft ds with
  | none => rw [h1] at hf; cases hf
  | some x =>
    rw [h1] at hf
    simp only [Option.bind_some] at hf
    refine h O H₀ as σ H ds x _ S h1 fun H1 e1 => ?_
    cases x with
    | true => exact k O H₀ as σ H1 ds b Q (S.grow e1) hf fun H2 e2 => q H2 (e1.trans e2)
    | false => cases hf; exact q H1 e1
theorem pwx_and1 (h : PTX X a tt Ft) : PWX X (.BoolOp .And [a] pos) tt Ft := ⟨pw_and1 h.p, h.t⟩
theorem pwx_and (h : PTX X a tt Ft) (k : PWX X (.BoolOp .And (b :: rest) pos) tu Fu) : PWX X (.BoolOp .And (a :: b :: rest) pos) (tAnd tt tu) (bAnd Ft Fu) := ⟨pw_and h.p k.p, ttx_and h.t k.t⟩
theorem PWX.pt (h : PWX X a tt Ft) : PTX X a tt Ft := ⟨PW.pt h.p, h.t⟩
/-- and, or, not as values -/
noncomputable def fAnd (Fa Fb : Ds → Option PV) : Ds → Option PV := fun ds => (bVal Fa ds).bind fun b => if b = true then Fb ds else some (.dat (.bool false))
noncomputable def fOr (Fa Fb : Ds → Option PV) : Ds → Option PV := fun ds => (bVal Fa ds).bind fun b => if b = true then some (.dat (.bool true)) else Fb ds
noncomputable def fNot (Fa : Ds → Option PV) : Ds → Option PV := fun ds => (bVal Fa ds).bind fun b => some (.dat (.bool !b))
noncomputable def fIf (Ft : Ds → Option Bool) (Fa Fb : Ds → Option PV) : Ds → Option PV := fun ds => (Ft ds).bind fun b => if b = true then Fa ds else Fb ds
/-- a op b op' c -/
noncomputable def fChain (f g : PyData → PyData → Option PV) (Fa Fb Fc : Ds → Option PV) : Ds → Option PV := fun ds => (Fa ds).bind fun x => (Fb ds).bind fun y => (f x.d y.d).bind fun r => (asB r.d).bind fun k =>
  if k = true then (Fc ds).bind fun z => g y.d z.d else some (.dat (.bool false))
noncomputable def aNil : Ds → Option (List PyData) := fun _ => some []
noncomputable def aCons (F : Ds → Option PV) (G : Ds → Option (List PyData)) : Ds → Option (List PyData) := fun ds => (F ds).bind fun x => (G ds).bind fun l => some (x.d :: l)
theorem pax_nil : PAX X fr [] tNil aNil := ⟨pa_nil, by
  intro O H₀ as σ H ds l Q S hf q
  cases hf
  exact q [] H (Same.refl H) .nil⟩
theorem pax_cons (h : PX X fr e te F) (k : PAX X fr es t Fl) (hs : starEach (e :: es) X.env = (false, eval e X.env) :: starEach es X.env := by rfl) : PAX X fr (e :: es) (tCons te t) (aCons F Fl) := ⟨pa_cons h.p k.p hs, by
  intro O H₀ as σ H ds l Q S hf q
  unfold aCons at hf
  cases h1 : F ds with
  | none => rw [h1] at hf; cases hf
  | some x =>
    cases h2 : Fl ds with
    | none => rw [h1, h2] at hf; cases hf
    | some m =>
      rw [h1, h2] at hf
      cases hf
      refine h.t O H₀ as σ H ds x _ S h1 fun v H1 e1 r1 => ?_
      refine k.t O H₀ as σ H1 ds m _ (S.grow e1) h2 fun vs H2 e2 r2 => ?_
      exact q (v :: vs) H2 (e1.trans e2) (.cons ((r1.grow e2).dt S.dm) r2)⟩
theorem Dom.fresh {H : Hp} {va : As} {O : List Addr} (D : Dom H va O) {p : Addr} (h : H p = none) : p ∉ O ∧ some p ∉ va := by
  refine ⟨fun z => ?_, fun z => ?_⟩
  · obtain ⟨u, z⟩ := D.o p z
    rw [h] at z; cases z
  · obtain ⟨u, z⟩ := D.a p z
    rw [h] at z; cases z
/-- a new tuple, a new list -/
theorem rx_tup {K : PySem.W.Frag} {H : Hp} {va : As} {O : List Addr} {p : Addr} {vs : List V} {l : List PyData} (D : Dom H va O) (h : H p = none) (hd : Dts K (hid H va O) vs l) : RX K O va H (upd H p (.tup vs)) (.ref p) (.dat (.tuple l)) := by
  obtain ⟨h1, h2⟩ := D.fresh h
  exact Dt.tup (SqT.of (hid_some.mpr ⟨h1, h2, upd_same⟩)) (hd.same (hid_same (Same.new h)))
theorem rx_lst {K : PySem.W.Frag} {H : Hp} {va : As} {O : List Addr} {p : Addr} {vs : List V} {l : List PyData} (h : H p = none) (hd : Dts K (hid H va O) vs l) : RX K O va H (upd H p (.lst vs)) (.ref p) (.own l) := by
  refine ⟨p, vs, rfl, h, upd_same, hd.same (hid_le fun b o h1 h2 h3 => ⟨h1, fun z => ?_, ?_⟩)⟩
  · rcases List.mem_cons.mp z with z | z
    · cases z; rw [h] at h3; cases h3
    · exact h2 z
  · exact Same.new h _ _ h3
noncomputable def fTup (Fl : Ds → Option (List PyData)) : Ds → Option PV := fun ds => (Fl ds).bind fun l => if l.length ≤ 1000000 then some (.dat (.tuple l)) else none
noncomputable def fLst (Fl : Ds → Option (List PyData)) : Ds → Option PV := fun ds => (Fl ds).bind fun l => if l.length ≤ 1000000 then some (.own l) else none
theorem szM {n : Nat} (h : n ≤ 1000000) : n ≤ sizeLine := Nat.le_trans h (by rw [sizeLine_eq]; decide)
theorem px_tup {x1} (h : PAX X fr es t Fl) : PX X fr (.Tuple es x1 pos) (tTup t) (fTup Fl) := ⟨pe_tup h.p, by
  intro O H₀ as σ H ds pv Q S hf q
  unfold fTup at hf
  cases h1 : Fl ds with
  | none => rw [h1] at hf; cases hf
  | some l =>
    rw [h1] at hf
    simp only [Option.bind_some] at hf
    split at hf
    · rename_i hl
      cases hf
      refine h.t O H₀ as σ H ds l _ S h1 fun vs H1 e1 r1 => ⟨by rw [r1.length]; exact szM hl, fun p hp => ?_⟩
      exact q _ _ (e1.trans (Same.new hp)) (RX.back (rx_tup (S.grow e1).dm hp r1) e1)
    · cases hf⟩
theorem px_lst (h : PAX X fr es t Fl) : PX X fr (.List es pos) (tLst t) (fLst Fl) := ⟨pe_lst h.p, by
  intro O H₀ as σ H ds pv Q S hf q
  unfold fLst at hf
  cases h1 : Fl ds with
  | none => rw [h1] at hf; cases hf
  | some l =>
    rw [h1] at hf
    simp only [Option.bind_some] at hf
    split at hf
    · rename_i hl
      cases hf
      refine h.t O H₀ as σ H ds l _ S h1 fun vs H1 e1 r1 => ⟨by rw [r1.length]; exact szM hl, fun p hp => ?_⟩
      exact q _ _ (e1.trans (Same.new hp)) (RX.back (rx_lst hp r1) e1)
    · cases hf⟩
noncomputable def fCall (F : List PyData → Option PV) (Fl : Ds → Option (List PyData)) : Ds → Option PV := fun ds => (Fl ds).bind F
theorem tx_cb {r : List V → Hp → VK → Prop} {f : List PyData → Option PV} (hr : RNX X.K r f) (h : PAX X fr es t Fl) : TX X.K fr (tCB r t) (fCall f Fl) := by
  intro O H₀ as σ H ds pv Q S hf q
  unfold fCall at hf
  cases h1 : Fl ds with
  | none => rw [h1] at hf; cases hf
  | some l =>
    rw [h1] at hf
    simp only [Option.bind_some] at hf
    refine h.t O H₀ as σ H ds l _ S h1 fun vs H1 e1 r1 => ?_
    refine hr O (vis fr as) H1 vs l pv Q (S.grow e1).dm r1 hf fun w H3 e3 r3 => ?_
    exact q w H3 (e1.trans e3) (r3.back e1)
theorem px_callB {id : String} {x : Str} {p : Pos} {r : List V → Hp → VK → Prop} {f : List PyData → Option PV} (hc : CallR X (.builtin id) r) (hr : RNX X.K r f) (hg : Gl X x) (hm : X.mg x = none) (hv : bootBuiltins x = some (.builtin id)) (ha : PAX X fr (e :: es) t Fl) (hn : x ≠ "__name__" := by decide) (hdb : (x == ("__debug__" : Str)) = false := by decide)
    (he : starEach (e :: es) X.env = (false, eval e X.env) :: starEach es X.env := by rfl) (hpl : (backTo pos (starEach es X.env)).any (·.1) = false := by rfl) : PX X fr (.Call (.Name x p) (e :: es) [] pos) (tCB r t) (fCall f Fl) := ⟨pe_callB hc hg hm hv ha.p hn hdb he hpl, tx_cb hr ha⟩
theorem px_callTy {T : String} {x : Str} {p : Pos} {r : List V → Hp → VK → Prop} {f : List PyData → Option PV} (hc : CallR X (.type T) r) (hr : RNX X.K r f) (hg : Gl X x) (hm : X.mg x = none) (hv : bootBuiltins x = some (.type T)) (ha : PAX X fr (e :: es) t Fl) (hn : x ≠ "__name__" := by decide) (hdb : (x == ("__debug__" : Str)) = false := by decide)
    (he : starEach (e :: es) X.env = (false, eval e X.env) :: starEach es X.env := by rfl) (hpl : (backTo pos (starEach es X.env)).any (·.1) = false := by rfl) : PX X fr (.Call (.Name x p) (e :: es) [] pos) (tCB r t) (fCall f Fl) := ⟨pe_callTy hc hg hm hv ha.p hn hdb he hpl, tx_cb hr ha⟩
/-- a def's promise, by a function of data -/
noncomputable def spF (K : PySem.W.Frag) (F : List PyData → Option PV) : Sp := fun vs H Q _ => ∃ (O : List Addr) (ds : List PyData) (pv : PV), (∀ a ∈ O, ∃ u, H a = some u) ∧ Dts K (hid H [] O) vs ds ∧ F ds = some pv ∧ ∀ v H', Same H H' → RX K O [] H H' v pv → Q v H'
theorem tx_call {E : XK} {f : List PyData → Option PV} (h : PAX X fr es t Fl) : TX X.K fr (tCall (spF X.K f) [] E t) (fCall f Fl) := by
  intro O H₀ as σ H ds pv Q S hf q
  unfold fCall at hf
  cases h1 : Fl ds with
  | none => rw [h1] at hf; cases hf
  | some l =>
    rw [h1] at hf
    simp only [Option.bind_some] at hf
    refine h.t O H₀ as σ H ds l _ S h1 fun vs H1 e1 r1 => ?_
    have D := (S.grow e1).dm (fr := fr)
    rw [List.append_nil]
    have hh : ∀ H, hid H (vis fr as) O = hid H [] (O ++ (vis fr as).filterMap id) := fun H => hid_as (bs := [])
    refine ⟨O ++ (vis fr as).filterMap id, l, pv, fun a ha => ?_, by rw [← hh]; exact r1, hf, fun v H2 e2 r2 => q v H2 (e1.trans e2) ?_⟩
    · rcases List.mem_append.mp ha with ha | ha
      · exact D.o a ha
      · obtain ⟨x, hx, e⟩ := List.mem_filterMap.mp ha
        have e' : x = some a := e
        subst e'
        exact D.a a hx
    · cases pv with
      | dat d =>
        have r2' : Dt X.K (hid H2 [] (O ++ (vis fr as).filterMap id)) v d := r2
        rw [← hh] at r2'
        exact r2'
      | own l =>
        obtain ⟨a, xs, e3, e4, e5, r3⟩ := r2
        refine ⟨a, xs, e3, e1.free e4, e5, ?_⟩
        rw [show (some a :: vis fr as : As) = [some a] ++ vis fr as from rfl, hid_as]
        exact r3
theorem px_call {CX : CXT} {E : XK} {k : Nat} {f : Addr} {fd : FuncData} {ps : List Str} {x : Str} {p : Pos} {f' : List PyData → Option PV} (G : FnOk X.prog X.w X.K X.mg X.base CX k f fd ps (spF X.K f')) (hr : Room k X.A) (hg : Gl X x) (hm : X.mg x = some (.ref f)) (hk : PySem.W.keepIn X.K (.ref f) = true) (hb : Binds X.K fd ps []) (hx : Passes CX X E)
    (ha : PAX X fr (e :: es) t Fl) (hdb : (x == ("__debug__" : Str)) = false := by decide) (he : starEach (e :: es) X.env = (false, eval e X.env) :: starEach es X.env := by rfl) (hpl : (backTo pos (starEach es X.env)).any (·.1) = false := by rfl) :
    PX X fr (.Call (.Name x p) (e :: es) [] pos) (tCall (spF X.K f') [] E t) (fCall f' Fl) := ⟨pe_call G hr hg hm hk hb .nil hx ha.p hdb he hpl, tx_call ha⟩
end
end L2

set_option Elab.async false
set_option linter.all false
set_option maxRecDepth 100000
namespace L2
open PySem PySem.Spec PyProof.Rows
noncomputable def frz (ds : Ds) : Ds := ds.map (Option.map fun pv => .dat pv.d)
theorem rep_mem {b : Addr} {n : Nat} : some b ∉ (List.replicate n none : As) := fun z => by simp [List.mem_replicate] at z
theorem hid_rep {H : Hp} {n : Nat} {O : List Addr} : hid H (List.replicate n none) O = hid H [] O := by
  funext b
  unfold hid
  have h1 := rep_mem (b := b) (n := n)
  by_cases c : b ∈ O
  · rw [if_pos (.inl c), if_pos (.inl c)]
  · rw [if_neg (fun z => z.elim c h1), if_neg (fun z => z.elim c (by simp))]
section
variable {K : PySem.W.Frag} {O : List Addr} {H₀ H H' : Hp} {as : As} {σ : St} {ds : Ds} {v : V} {pv : PV} {fr : Bool}
theorem SlotOk.frz {si : Option (Option V)} {ai bi : Option (Option Addr)} {bs : As} (S : DS K O H₀ as σ H ds) (hi : ∀ a, ai = some (some a) → some a ∈ as) (h : SlotOk K O as H si ai pv) (hb : ∀ b, some b ∈ bs → some b ∈ as)
    (ho : ∀ a, ai = some (some a) → some a ∉ bs) : SlotOk K O bs H si bi (.dat pv.d) := by
  cases pv with
  | dat d => obtain ⟨v, e1, h⟩ := h; exact ⟨v, e1, h.same (hid_sub (Same.refl _) hb)⟩
  | own l =>
    obtain ⟨a, xs, e1, e2, e3, h⟩ := h
    exact ⟨_, e1, .lst (SqL.of (hid_some.mpr ⟨S.nO (hi a e2), ho a e2, e3⟩)) (h.same (hid_sub (Same.refl _) hb))⟩
theorem DS.frz (S : DS K O H₀ as σ H ds) : DS K O H₀ (List.replicate ds.length none) σ H (frz ds) where
  ls := by simp [L2.frz, S.ls]
  la := by simp [L2.frz]
  same := S.same
  new := fun a h => absurd h rep_mem
  dom := S.dom
  inj := fun i j a h _ => absurd (List.mem_of_getElem? h) rep_mem
  slot := fun i pv h => by
    unfold L2.frz at h
    rw [List.getElem?_map] at h
    cases hd : ds[i]? with
    | none => rw [hd] at h; cases h
    | some x =>
      cases x with
      | none => rw [hd] at h; cases h
      | some w =>
        rw [hd] at h
        cases h
        exact (S.slot i w hd).frz S (fun a e => List.mem_of_getElem? e) (fun b z => absurd z rep_mem) (fun a _ => rep_mem)
/-- one own list becomes plain data -/
noncomputable def frz1 (i : Nat) (ds : Ds) : Ds := match ds[i]? with
  | some (some (.own l)) => ds.set i (some (.dat (.list l)))
  | _ => ds
theorem DS.frz1 (S : DS K O H₀ as σ H ds) (i : Nat) : ∃ as', DS K O H₀ as' σ H (frz1 i ds) := by
  unfold L2.frz1
  split
  · rename_i l hd
    refine ⟨as.set i none, ?_⟩
    have sub : ∀ b, some b ∈ as.set i none → some b ∈ as := fun b z => by
      rcases List.mem_or_eq_of_mem_set z with z | z
      · exact z
      · cases z
    refine ⟨by simp [S.ls], by simp [S.la], S.same, fun a h => S.new a (sub a h), S.dom, fun j k a h1 h2 => ?_, fun j pv h => ?_⟩
    · have f : ∀ j, (as.set i none)[j]? = some (some a) → as[j]? = some (some a) := fun j z => by
        rw [List.getElem?_set] at z
        split at z
        · split at z <;> cases z
        · exact z
      exact S.inj j k a (f j h1) (f k h2)
    · rw [List.getElem?_set] at h
      by_cases hij : i = j
      · subst hij
        rw [if_pos rfl] at h
        split at h
        · cases h
          have sl := S.slot i _ hd
          refine SlotOk.frz S (fun a e => List.mem_of_getElem? e) sl sub fun a e z => ?_
          obtain ⟨k, hk⟩ := List.mem_iff_getElem?.mp z
          rw [List.getElem?_set] at hk
          by_cases hik : i = k
          · subst hik
            rw [if_pos rfl] at hk
            split at hk <;> cases hk
          · rw [if_neg hik] at hk
            exact hik (S.inj i k a e hk)
        · cases h
      · rw [if_neg hij] at h
        have sl := S.slot j pv h
        rw [List.getElem?_set_ne hij]
        cases pv with
        | dat d => obtain ⟨v, e1, h⟩ := sl; exact ⟨v, e1, h.same (hid_sub (Same.refl _) sub)⟩
        | own l' => obtain ⟨a, xs, e1, e2, e3, h⟩ := sl; exact ⟨a, xs, e1, e2, e3, h.same (hid_sub (Same.refl _) sub)⟩
  · exact ⟨as, S⟩
end
section
variable {X : Cx} {fr : Bool} {e : Expr} {te : TE} {F : Ds → Option PV}
noncomputable def fFrz (F : Ds → Option PV) : Ds → Option PV := fun ds => F (frz ds)
theorem px_frz (h : PX X true e te F) : PX X false e te (fFrz F) := ⟨h.p, by
  intro O H₀ as σ H ds pv Q S hf q
  refine h.t O H₀ _ σ H _ pv Q S.frz hf fun v H' e r => q v H' e ?_
  exact r.less fun b z => by simp [vis] at z⟩
end

noncomputable def ItOk (K : PySem.W.Frag) (O : List Addr) (Hb : Hp) (J : It) (items : List PyData) : Prop :=
  ∀ H', Same Hb H' → ∀ i, (i < items.length → J.go i H') ∧ (items.length ≤ i → J.stop i H') ∧
    ∀ x H'', J.yld i H' x H'' → i < items.length → Same H' H'' ∧ ∃ d, items[i]? = some d ∧ ∀ vb : As, (∀ b, some b ∈ vb → Hb b = none ∧ ∃ o, H' b = some o) → (∀ b ∈ O, ∃ o, Hb b = some o) → Dt K (hid H'' vb O) x d
noncomputable def TIX (K : PySem.W.Frag) (fr : Bool) (wi : TI) (Fi : Ds → Option (List PyData)) : Prop :=
  ∀ (O : List Addr) (H₀ : Hp) (as : As) (σ : St) (H : Hp) (ds : Ds) (items : List PyData) (R : It → Hp → Prop), DS K O H₀ as σ H ds → Fi ds = some items → (∀ J H1, Same H H1 → ItOk K O (hid H1 (vis fr as) []) J items → R J H1) → wi σ H R
structure PIX (X : Cx) (fr : Bool) (tg e : Expr) (wi : TI) (Fi : Ds → Option (List PyData)) : Prop where
  p : PI X tg e wi
  t : TIX X.K fr wi Fi
noncomputable def iSeq (K : PySem.W.Frag) (tl : TE) : TI := fun σ H R => tl σ H fun x H1 => ∃ a, x = .ref a ∧ (((∃ xs, SqL K H1 a xs) ∧ R (Itl K a) H1) ∨ ((∃ xs, SqT K H1 a xs) ∧ R (Itt K a) H1))
theorem pi_seq {X : Cx} {tg l : Expr} {tl : TE} (hl : PE X l tl) : PI X tg l (iSeq X.K tl) := by
  intro pins s σ H R I h
  refine thn (hl pins s σ H _ I h) fun v s1 ⟨x, H1, I1, r1, q1⟩ => ?_
  obtain ⟨a, e, (⟨⟨xs, hq⟩, q⟩ | ⟨⟨xs, hq⟩, q⟩)⟩ := q1
  · subst e
    cases r1
    obtain ⟨its, rv, p, hz⟩ := I1.list hq
    refine wpAny_pyIter_list p.isList ?_
    refine ⟨s1.heap.objs.size, [s1.heap.objs.size], _, _, H1, rfl, I1.kept (t' := s1.toks) fun b o e => Heap.get?_push_of_some _ e, turn_list a _, ⟨_, Heap.get?_push_size _ rfl, rfl, rfl⟩, fun b hb => ?_, q⟩
    have e : b = s1.heap.objs.size := by simpa using hb
    subst e
    exact I1.fpOk (Nat.le_refl _) (I1.hok.fresh (Nat.le_refl _))
  · subst e
    cases r1
    obtain ⟨its, rv, p, hz⟩ := I1.tuple hq
    refine wpAny_pyIter_tuple (show s1.heap.IsTuple a its.toArray from p) ?_
    refine ⟨s1.heap.objs.size, [s1.heap.objs.size], _, _, H1, rfl, I1.kept (t' := s1.toks) fun b o e => Heap.get?_push_of_some _ e, turn_tuple a _, ⟨_, Heap.get?_push_size _ rfl, rfl, rfl⟩, fun b hb => ?_, q⟩
    have e : b = s1.heap.objs.size := by simpa using hb
    subst e
    exact I1.fpOk (Nat.le_refl _) (I1.hok.fresh (Nat.le_refl _))
noncomputable def seqOf : PyData → Option (List PyData)
  | .list l => some l
  | .tuple l => some l
  | _ => none
noncomputable def iSq (F : Ds → Option PV) : Ds → Option (List PyData) := fun ds => (F ds).bind fun pv => seqOf pv.d
theorem it_seq {K : PySem.W.Frag} {O : List Addr} {H1 H' H'' : Hp} {va vb : As} {x : V} {d : PyData} (h : Dt K (hid H1 va O) x d) (e : Same (hid H1 va []) H') (e2 : Same H' H'') (hv : ∀ b, some b ∈ vb → hid H1 va [] b = none ∧ ∃ o, H' b = some o) : Dt K (hid H'' vb O) x d :=
  h.same (hid_le fun b o h1 h2 h3 => by
    have hb : hid H1 va [] b = some o := hid_some.mpr ⟨by simp, h2, h3⟩
    refine ⟨h1, fun z => ?_, e2 _ _ (e _ _ hb)⟩
    rw [(hv b z).1] at hb
    cases hb)
theorem hid_O {H1 : Hp} {va : As} {O : List Addr} : Same (hid H1 va O) (hid H1 va []) := hid_le fun b o _ h2 h3 => ⟨by simp, h2, h3⟩
section
variable {X : Cx} {fr : Bool} {tg e a b : Expr} {te : TE} {ta : TA} {F : Ds → Option PV} {Fl : Ds → Option (List PyData)} {p pos : Pos}
theorem pix_seq (h : PX X fr e te F) : PIX X fr tg e (iSeq X.K te) (iSq F) := ⟨pi_seq h.p, by
  intro O H₀ as σ H ds items R S hf q
  unfold iSq at hf
  cases h1 : F ds with
  | none => rw [h1] at hf; cases hf
  | some pv =>
    rw [h1] at hf
    simp only [Option.bind_some] at hf
    refine h.t O H₀ as σ H ds pv _ S h1 fun v H1 e1 r1 => ?_
    have d := r1.dt S.dm
    generalize pv.d = z at d hf
    cases d with
    | lst hs ht =>
      rename_i a xs l
      cases hf
      have hl := ht.length
      refine ⟨a, rfl, .inl ⟨⟨xs, hid_all.seq hs⟩, q _ H1 e1 fun H' e' i => ?_⟩⟩
      have hs' : SqL X.K H' a xs := e'.seq (hid_O.seq hs)
      refine ⟨fun hi => ⟨xs, xs[i]'(by omega), hs', List.getElem?_eq_getElem _⟩, fun hi => ⟨xs, hs', by omega⟩, fun x H'' y hi => ?_⟩
      obtain ⟨e3, y⟩ := y
      subst e3
      obtain ⟨d, ed, dd⟩ := ht.get' (y xs hs')
      exact ⟨Same.refl _, d, ed, fun vb hv _ => it_seq dd e' (Same.refl _) hv⟩
    | tup hs ht =>
      rename_i a xs l
      cases hf
      have hl := ht.length
      refine ⟨a, rfl, .inr ⟨⟨xs, hid_all.seqT hs⟩, q _ H1 e1 fun H' e' i => ?_⟩⟩
      have hs' : SqT X.K H' a xs := e'.seqT (hid_O.seqT hs)
      refine ⟨fun hi => ⟨xs, xs[i]'(by omega), hs', List.getElem?_eq_getElem _⟩, fun hi => ⟨xs, hs', by omega⟩, fun x H'' y hi => ?_⟩
      obtain ⟨e3, y⟩ := y
      subst e3
      obtain ⟨d, ed, dd⟩ := ht.get' (y xs hs')
      exact ⟨Same.refl _, d, ed, fun vb hv _ => it_seq dd e' (Same.refl _) hv⟩
    | _ => cases hf⟩
noncomputable def rngI (lo : Int) (n : Nat) : List PyData := (List.range n).map fun k => .int (lo + (k : Nat))
theorem it_rng {K : PySem.W.Frag} {O : List Addr} {Hb : Hp} {lo : Int} {n : Nat} : ItOk K O Hb (Itr lo n) (rngI lo n) := by
  intro H' e i
  have hl : (rngI lo n).length = n := by simp [rngI]
  refine ⟨fun hi => (by rw [hl] at hi; exact hi), fun hi => (by rw [hl] at hi; exact hi), fun x H'' y hi => ?_⟩
  obtain ⟨e1, e2⟩ := y
  subst e1
  subst e2
  rw [hl] at hi
  refine ⟨Same.refl _, .int (lo + i), ?_, fun vb _ _ => .int _⟩
  simp [rngI, List.getElem?_range hi]
noncomputable def rng1 : List PyData → Option (List PyData)
  | [.int j] => @ite _ (-(4611686018427387904) ≤ j ∧ j < 4611686018427387904) (Classical.propDecidable _) (some (rngI 0 j.toNat)) none
  | _ => none
noncomputable def iFn (f : List PyData → Option (List PyData)) (Fl : Ds → Option (List PyData)) : Ds → Option (List PyData) := fun ds => (Fl ds).bind f
theorem pix_range1 (hg : Gl X "range") (hm : X.mg "range" = none) (ha : PAX X fr [a] ta Fl) (hs : starEach [a] X.env = [(false, eval a X.env)] := by rfl) : PIX X fr tg (.Call (.Name "range" p) [a] [] pos) (iRng1 ta) (iFn rng1 Fl) := ⟨pi_range1 hg hm ha.p hs, by
  intro O H₀ as σ H ds items R S hf q
  unfold iFn at hf
  cases h1 : Fl ds with
  | none => rw [h1] at hf; cases hf
  | some l =>
    rw [h1] at hf
    simp only [Option.bind_some] at hf
    refine ha.t O H₀ as σ H ds l _ S h1 fun vs H1 e1 r1 => ?_
    unfold rng1 at hf
    split at hf
    · rename_i j
      split at hf
      · rename_i hj
        cases hf
        cases r1 with
        | cons r rr =>
          cases r
          cases rr
          exact ⟨j, rfl, hj.1, hj.2, q _ H1 e1 it_rng⟩
      · cases hf
    · cases hf⟩
/-- zip of two sequences -/
noncomputable def iZipX (K : PySem.W.Frag) (ta : TA) : TI := fun σ H R => ta σ H fun vs H1 => ∃ a b k1 k2, vs = [.ref a, .ref b] ∧ (∃ xs, SqK k1 K H1 a xs) ∧ (∃ ys, SqK k2 K H1 b ys) ∧ R (Itz k1 k2 K a b) H1
theorem pi_zipX {es : List Expr} {k : Nat} {tp : Pos} (hg : Gl X "zip") (hm : X.mg "zip" = none) (ha : PA X [a, b] ta) (hs : starEach [a, b] X.env = [(false, eval a X.env), (false, eval b X.env)] := by rfl) (hs2 : starEach [b] X.env = [(false, eval b X.env)] := by rfl) :
    PI X (.Tuple es k tp) (.Call (.Name "zip" p) [a, b] [] pos) (iZipX X.K ta) := by
  intro pins s σ H R I h
  refine Call_ (ld_blt I hg hm boot_zip (PyProof.Rows.callWith_type1 (thn (ha pos pins s σ H _ I h) fun us s1 ⟨vs, H1, I1, r1, q1⟩ => ?_) (by rw [hs, hs2]) (by rw [hs2]; rfl)))
  obtain ⟨x, y, k1, k2, e, ⟨xs, hx⟩, ⟨ys, hy⟩, q⟩ := q1
  subst e
  obtain ⟨u, v, e, r2, r3⟩ := vals2 r1
  subst e
  cases r2
  cases r3
  obtain ⟨us, sx⟩ := I1.seqK hx
  obtain ⟨vs, sy⟩ := I1.seqK hy
  refine call_zipK sx sy fun h' Z kk => ?_
  refine wpAny_pyIter_zip Z.hz ?_
  have I2 : Inv X pins σ H1 { s1 with heap := h' } := I1.kept (t' := s1.toks) kk
  refine ⟨s1.heap.objs.size + 4, _, _, _, H1, rfl, I2, turn_zip (zipD_new _), Z, fun b hb => ?_, q⟩
  have hb' : b = s1.heap.objs.size + 4 ∨ b = s1.heap.objs.size + 2 ∨ b = s1.heap.objs.size + 3 ∨ b = s1.heap.objs.size ∨ b = s1.heap.objs.size + 1 := by simpa using hb
  have hge : s1.heap.objs.size ≤ b := by
    rcases hb' with e | e | e | e | e <;> rw [e]
    · exact Nat.le_add_right _ _
    · exact Nat.le_add_right _ _
    · exact Nat.le_add_right _ _
    · exact Nat.le_refl _
    · exact Nat.le_add_right _ _
  exact I1.fpOk hge (I1.hok.fresh hge)
theorem Same.seqK {kd : Bool} {K : PySem.W.Frag} {H H' : Hp} {a : Addr} {xs : List V} (e : Same H H') (h : SqK kd K H a xs) : SqK kd K H' a xs := by
  cases kd
  · exact e.seq h
  · exact e.seqT h
theorem Dt.seqK {K : PySem.W.Frag} {H : Hp} {v : V} {d : PyData} {l : List PyData} (h : Dt K H v d) (hd : seqOf d = some l) : ∃ a kd xs, v = .ref a ∧ SqK kd K H a xs ∧ Dts K H xs l := by
  cases h with
  | lst hs ht => cases hd; exact ⟨_, false, _, rfl, hs, ht⟩
  | tup hs ht => cases hd; exact ⟨_, true, _, rfl, hs, ht⟩
  | _ => cases hd
noncomputable def zipD : List PyData → Option (List PyData)
  | [d, e] => (seqOf d).bind fun l => (seqOf e).bind fun m => some (List.zipWith (fun x y => .tuple [x, y]) l m)
  | _ => none
theorem pix_zip {es : List Expr} {k : Nat} {tp : Pos} (hg : Gl X "zip") (hm : X.mg "zip" = none) (ha : PAX X fr [a, b] ta Fl) (hs : starEach [a, b] X.env = [(false, eval a X.env), (false, eval b X.env)] := by rfl) (hs2 : starEach [b] X.env = [(false, eval b X.env)] := by rfl) :
    PIX X fr (.Tuple es k tp) (.Call (.Name "zip" p) [a, b] [] pos) (iZipX X.K ta) (iFn zipD Fl) := ⟨pi_zipX hg hm ha.p hs hs2, by
  intro O H₀ as σ H ds items R S hf q
  unfold iFn at hf
  cases h1 : Fl ds with
  | none => rw [h1] at hf; cases hf
  | some l =>
    rw [h1] at hf
    simp only [Option.bind_some] at hf
    refine ha.t O H₀ as σ H ds l _ S h1 fun vs H1 e1 r1 => ?_
    unfold zipD at hf
    split at hf
    · rename_i d1 d2
      cases hl : seqOf d1 with
      | none => rw [hl] at hf; cases hf
      | some l1 =>
        cases hl2 : seqOf d2 with
        | none => rw [hl, hl2] at hf; cases hf
        | some l2 =>
          rw [hl, hl2] at hf
          cases hf
          cases r1 with
          | cons r rr =>
            cases rr with
            | cons r' rr =>
              cases rr
              obtain ⟨a, k1, xs, rfl, s1, t1⟩ := r.seqK hl
              obtain ⟨b, k2, ys, rfl, s2, t2⟩ := r'.seqK hl2
              refine ⟨a, b, k1, k2, rfl, ⟨xs, hid_all.seqK s1⟩, ⟨ys, hid_all.seqK s2⟩, q _ H1 e1 fun H' e' i => ?_⟩
              have s1' : SqK k1 X.K H' a xs := e'.seqK (hid_O.seqK s1)
              have s2' : SqK k2 X.K H' b ys := e'.seqK (hid_O.seqK s2)
              have g1 := t1.length
              have g2 := t2.length
              rw [List.length_zipWith]
              refine ⟨fun hi => ⟨xs, ys, xs[i]'(by omega), ys[i]'(by omega), s1', s2', List.getElem?_eq_getElem _, List.getElem?_eq_getElem _⟩, fun hi => ⟨xs, ys, s1', s2', by omega⟩, fun x H'' y hi => ?_⟩
              obtain ⟨pp, z1, z2, x', y', z3, z4⟩ := y
              obtain ⟨z5, z6⟩ := z4 xs ys s1' s2'
              subst z1
              subst z3
              obtain ⟨dx, ex, hx⟩ := t1.get' z5
              obtain ⟨dy, ey, hy⟩ := t2.get' z6
              refine ⟨Same.new z2, .tuple [dx, dy], by rw [List.getElem?_zipWith, ex, ey], fun vb hv hO => ?_⟩
              refine .tup (SqT.of (hid_some.mpr ⟨fun z => ?_, fun z => ?_, upd_same⟩)) (.cons (it_seq hx e' (Same.new z2) hv) (.cons (it_seq hy e' (Same.new z2) hv) .nil))
              · obtain ⟨o, z⟩ := hO _ z
                rw [e' _ _ z] at z2
                cases z2
              · obtain ⟨_, o, z⟩ := hv _ z
                rw [z] at z2
                cases z2
    · cases hf⟩
end

/-- a block's targets -/
noncomputable def TGB (K : PySem.W.Frag) (n : Nat) (g : TG) (gt : PyData → Option (List PyData)) : Prop :=
  ∀ (O : List Addr) (va : As) (H : Hp) (v : V) (d : PyData) (σ : St) (bs : List PyData) (Q : St → Hp → Prop), Dt K (hid H va O) v d → gt d = some bs → (∀ vs, Dts K (hid H va O) vs bs → vs.length = n → Q (vs.map some ++ σ) H) → g v (List.replicate n none ++ σ) H Q
noncomputable def gtName : PyData → Option (List PyData) := fun d => some [d]
noncomputable def gtTup (n : Nat) : PyData → Option (List PyData)
  | .tuple l => if l.length = n then some l else none
  | _ => none
theorem tgb_name {K : PySem.W.Frag} : TGB K 1 (gName 0) gtName := by
  intro O va H v d σ bs Q hd hg q
  cases hg
  exact q [v] (.cons hd .nil) rfl
noncomputable def dats (l : List PyData) : Ds := l.map fun d => some (.dat d)
@[simp] theorem dats_nil : dats [] = [] := rfl
@[simp] theorem dats_cons (d : PyData) (l : List PyData) : dats (d :: l) = some (.dat d) :: dats l := rfl
theorem Dts.slots {K : PySem.W.Frag} {H : Hp} {vs : List V} {l : List PyData} (h : Dts K H vs l) {i : Nat} {pv : PV} (e : (dats l)[i]? = some (some pv)) : ∃ d v, pv = .dat d ∧ vs[i]? = some v ∧ Dt K H v d := by
  unfold dats at e
  rw [List.getElem?_map] at e
  cases hd : l[i]? with
  | none => rw [hd] at e; cases e
  | some d =>
    rw [hd] at e
    cases e
    obtain ⟨x, h1, h2⟩ := h.get hd
    exact ⟨d, x, rfl, h1, h2⟩
theorem hid_pre {H : Hp} {n : Nat} {as : As} {O : List Addr} : hid H (List.replicate n none ++ as) O = hid H as O := by
  funext b
  unfold hid
  have : some b ∈ List.replicate n none ++ as ↔ some b ∈ as := by
    rw [List.mem_append]
    exact ⟨fun z => z.elim (fun z => absurd z rep_mem) id, .inr⟩
  by_cases c : b ∈ O ∨ some b ∈ as
  · rw [if_pos (c.imp id this.mpr), if_pos c]
  · rw [if_neg (fun z => c (z.imp id this.mp)), if_neg c]
theorem DS.pre {K : PySem.W.Frag} {O : List Addr} {H₀ H : Hp} {as : As} {σ : St} {ds : Ds} {vs : List V} {l : List PyData} (S : DS K O H₀ as σ H ds) (h : Dts K (hid H as O) vs l) :
    DS K O H₀ (List.replicate l.length none ++ as) (vs.map some ++ σ) H (dats l ++ ds) where
  ls := by simp [dats, S.ls, h.length]
  la := by simp [dats, S.la]
  same := S.same
  new := fun a z => S.new a ((List.mem_append.mp z).elim (fun z => absurd z rep_mem) id)
  dom := S.dom
  inj := fun i j a h1 h2 => by
    have f : ∀ i, (List.replicate l.length none ++ as)[i]? = some (some a) → l.length ≤ i ∧ as[i - l.length]? = some (some a) := fun i z => by
      rw [List.getElem?_append] at z
      split at z
      · exact absurd (List.mem_of_getElem? z) rep_mem
      · rename_i hi
        rw [List.length_replicate] at hi z
        exact ⟨by omega, z⟩
    obtain ⟨h3, h4⟩ := f i h1
    obtain ⟨h5, h6⟩ := f j h2
    have := S.inj _ _ a h4 h6
    omega
  slot := fun i pv e => by
    have hl := h.length
    have ld : (dats l).length = l.length := by simp [dats]
    rw [List.getElem?_append] at e
    split at e
    · rename_i hi
      rw [ld] at hi
      obtain ⟨d, v, rfl, h1, h2⟩ := h.slots e
      refine ⟨v, ?_, by rw [hid_pre]; exact h2⟩
      rw [List.getElem?_append_left (by simp; omega), List.getElem?_map, h1]
      rfl
    · rename_i hi
      rw [ld] at hi e
      have sl := S.slot _ pv e
      rw [List.getElem?_append_right (by simp; omega), List.getElem?_append_right (by simp; omega)]
      simp only [List.length_map, List.length_replicate, hl]
      cases pv with
      | dat d => obtain ⟨v, e1, h⟩ := sl; exact ⟨v, e1, by rw [hid_pre]; exact h⟩
      | own l' => obtain ⟨a, xs, e1, e2, e3, h⟩ := sl; exact ⟨a, xs, e1, e2, e3, by rw [hid_pre]; exact h⟩
noncomputable def compD (gt : PyData → Option (List PyData)) (Fc : Ds → Option Bool) (Fe : Ds → Option PV) (ds : Ds) : List PyData → Option (List PyData)
  | [] => some []
  | x :: r => (gt x).bind fun bs => (Fc (dats bs ++ ds)).bind fun b => if b = true then (Fe (dats bs ++ ds)).bind fun y => (compD gt Fc Fe ds r).bind fun l => some (y.d :: l) else compD gt Fc Fe ds r
noncomputable def fComp (Fi : Ds → Option (List PyData)) (gt : PyData → Option (List PyData)) (Fc : Ds → Option Bool) (Fe : Ds → Option PV) : Ds → Option PV := fun ds => (Fi ds).bind fun items => if items.length ≤ 1000000 then (compD gt Fc Fe ds items).bind fun l => some (.own l) else none
structure PIfsX (X : Cx) (ifs : List Expr) (t : TT) (F : Ds → Option Bool) : Prop where
  p : PIfs X ifs t
  t : TTX X.K t F
noncomputable def bTrue : Ds → Option Bool := fun _ => some true
theorem pifsx_nil {X : Cx} : PIfsX X [] tIfs0 bTrue := ⟨pifs_nil, by
  intro O H₀ as σ H ds b Q S hf q
  cases hf
  exact q H (Same.refl H)⟩
theorem px_comp {X : Cx} {bs nb : List Str} {elt tg iter : Expr} {ifs : List Expr} {scope : Scope} {pos : Pos} {wi : TI} {g : TG} {tt : TT} {te : TE} {Fi : Ds → Option (List PyData)} {gt : PyData → Option (List PyData)} {Fc : Ds → Option Bool} {Fe : Ds → Option PV}
    (hc : X.calm = true) (B : BlkOk X bs nb scope) (hi : PIX X true tg iter wi Fi) (go : GOwn bs.length g) (hg : ∀ cl C fp s H pins, PG (blk X bs nb scope cl C fp s H pins) tg g) (hgt : TGB X.K bs.length g gt) (ht : ∀ cl C fp s H pins, PIfsX (blk X bs nb scope cl C fp s H pins) ifs tt Fc) (he : ∀ cl C fp s H pins, PX (blk X bs nb scope cl C fp s H pins) true elt te Fe)
    (hs : ∀ x, foldedSetIterable iter X.env x = pure x := by intro _; rfl) : PX X true (.ListComp elt [⟨tg, iter, ifs, 0⟩] scope pos) (tComp bs wi g tt te) (fComp Fi gt Fc Fe) := ⟨pe_comp hc B hi.p go hg (fun _ _ _ _ _ _ => (ht _ _ _ _ _ _).p) (fun _ _ _ _ _ _ => (he _ _ _ _ _ _).p) hs, by
  intro O H₀ as σ H ds pv Q S hf q
  have tE : TX X.K true te Fe := (he [] 0 [] X.s₀ X.H₀ []).t
  have tC : TTX X.K tt Fc := (ht [] 0 [] X.s₀ X.H₀ []).t
  unfold fComp at hf
  cases h1 : Fi ds with
  | none => rw [h1] at hf; cases hf
  | some items =>
    rw [h1] at hf
    simp only [Option.bind_some] at hf
    split at hf
    · rename_i hn
      cases h2 : compD gt Fc Fe ds items with
      | none => rw [h2] at hf; cases hf
      | some l =>
        rw [h2] at hf
        cases hf
        refine hi.t O H₀ as σ H ds items _ S h1 fun J H1 e1 it => ?_
        have S1 := S.grow e1
        have it' : ItOk X.K O (hid H1 as []) J items := it
        refine ⟨items.length, fun i ys H' => i ≤ items.length ∧ Same H1 H' ∧ ∃ l1 l2, Dts X.K (hid H' as O) ys l1 ∧ compD gt Fc Fe ds (items.drop i) = some l2 ∧ l1 ++ l2 = l, szM hn, ⟨Nat.zero_le _, Same.refl _, [], l, .nil, h2, rfl⟩, ?_⟩
        rintro i ys H' ⟨hi', e2, l1, l2, d1, c2, el⟩
        have S2 := S1.grow e2
        obtain ⟨go', st', yl'⟩ := it' H' (hid_all.trans e2) i
        by_cases hlt : i < items.length
        · refine .inr ⟨go' hlt, hlt, fun x H'' y => ?_⟩
          obtain ⟨e3, d, ed, dt⟩ := yl' x H'' y hlt
          have S3 := S2.grow e3
          have dx : Dt X.K (hid H'' as O) x d := dt as (fun b hb => ⟨by unfold hid; rw [if_pos (.inr hb)], let ⟨_, z⟩ := (S2.new b hb).2; ⟨_, z⟩⟩) fun b hb => by
            obtain ⟨o, z⟩ := S.dom b hb
            refine ⟨o, hid_some.mpr ⟨by simp, fun z2 => ?_, S1.same _ _ z⟩⟩
            rw [(S.new b z2).1] at z
            cases z
          have ed' : items.drop i = d :: items.drop (i + 1) := by
            rw [List.drop_eq_getElem_cons hlt]
            have : items[i] = d := by
              have z := List.getElem?_eq_getElem hlt
              rw [ed] at z
              exact (Option.some.inj z).symm
            rw [this]
          rw [ed'] at c2
          unfold compD at c2
          cases h3 : gt d with
          | none => rw [h3] at c2; cases c2
          | some bs' =>
            rw [h3] at c2
            simp only [Option.bind_some] at c2
            cases h4 : Fc (dats bs' ++ ds) with
            | none => rw [h4] at c2; cases c2
            | some b =>
              rw [h4] at c2
              simp only [Option.bind_some] at c2
              refine hgt O as H'' x d σ bs' _ dx h3 fun vs dv lv => ?_
              have S4 := S3.pre dv
              refine tC O H₀ _ _ H'' _ b _ S4 h4 fun H5 e5 => ?_
              cases b with
              | false =>
                rw [if_neg (by decide)] at c2
                rw [if_neg (by decide)]
                exact ⟨hlt, (e2.trans e3).trans e5, l1, l2, d1.same (hid_same (e3.trans e5)), c2, el⟩
              | true =>
                rw [if_pos rfl] at c2
                rw [if_pos rfl]
                cases h5 : Fe (dats bs' ++ ds) with
                | none => rw [h5] at c2; cases c2
                | some yv =>
                  rw [h5] at c2
                  simp only [Option.bind_some] at c2
                  cases h6 : compD gt Fc Fe ds (items.drop (i + 1)) with
                  | none => rw [h6] at c2; cases c2
                  | some l3 =>
                    rw [h6] at c2
                    cases c2
                    refine tE O H₀ _ _ H5 _ yv _ (S4.grow e5) h5 fun u H6 e6 r6 => ?_
                    have d6 := r6.dt (S4.grow e5).dm
                    have d7 : Dt X.K (hid H6 as O) u yv.d := by
                      have z : Dt X.K (hid H6 (List.replicate bs'.length none ++ as) O) u yv.d := d6
                      rw [hid_pre] at z
                      exact z
                    exact ⟨hlt, ((e2.trans e3).trans e5).trans e6, l1 ++ [yv.d], l3, (d1.same (hid_same ((e3.trans e5).trans e6))).append (.cons d7 .nil), h6, by rw [← el]; simp⟩
        · have hi2 : i = items.length := by omega
          subst hi2
          rw [List.drop_length] at c2
          cases c2
          rw [List.append_nil] at el
          subst el
          exact .inl ⟨st' (Nat.le_refl _), fun p hp => q _ _ ((e1.trans e2).trans (Same.new hp)) (RX.back (rx_lst hp d1) (e1.trans e2))⟩
    · cases hf⟩
end L2

set_option Elab.async false
set_option linter.all false
set_option maxRecDepth 100000
namespace L2
open PySem PySem.Spec PyProof.Rows
inductive Out where
  | next (ds : Ds)
  | ret (pv : PV)
  | brk (ds : Ds)
  | cont (ds : Ds)
  | up (x : PyData)
/-- an exception on its way out of a body -/
noncomputable def UpAt (K : PySem.W.Frag) (O : List Addr) (H : Hp) (ea : Addr) (x : PyData) : Prop := ∃ C dx fld v d, x = excD C fld d ∧ ExcC K C ∧ PySem.W.findIn K (.ref C) fld = some none ∧ H ea = some (.ext (ExcIs ea C (some dx))) ∧ H dx = some (.xd [(fld, v)]) ∧ dx ∉ O ∧ Dt K (hid H [] (ea :: O)) v d
noncomputable def EndsOk (X : Cx) (O : List Addr) (H₀ : Hp) (D : Ends) : Out → Prop
  | .next ds => ∀ as σ H, DS X.K O H₀ as σ H ds → D.nx σ H
  | .brk ds => ∀ as σ H, DS X.K O H₀ as σ H ds → D.bk σ H
  | .cont ds => ∀ as σ H, DS X.K O H₀ as σ H ds → D.ct σ H
  | .ret pv => ∀ v H, Same H₀ H → RX X.K O [] H₀ H v pv → D.rt v H
  | .up x => ∀ ea H, Same H₀ H → H₀ ea = none → UpAt X.K O H ea x → ∀ pins σ s, Inv X pins σ H s → X.xe (.ref ea) s
noncomputable def TSX (X : Cx) (t : TS) (G : Ds → Option Out) : Prop :=
  ∀ (O : List Addr) (H₀ : Hp) (as : As) (σ : St) (H : Hp) (ds : Ds) (D : Ends) (o : Out), DS X.K O H₀ as σ H ds → G ds = some o → EndsOk X O H₀ D o → t D σ H
structure PSX (X : Cx) (st : Stmt) (t : TS) (G : Ds → Option Out) : Prop where
  p : PS X st t
  t : TSX X t G
structure PSsX (X : Cx) (st : List Stmt) (t : TS) (G : Ds → Option Out) : Prop where
  p : PSs X st t
  t : TSX X t G
noncomputable def gNext : Ds → Option Out := fun ds => some (.next ds)
noncomputable def gSeq (G1 G2 : Ds → Option Out) : Ds → Option Out := fun ds => (G1 ds).bind fun o => match o with
  | .next ds' => G2 ds'
  | o => some o
section
variable {X : Cx} {st : Stmt} {rest sa sb : List Stmt} {t u : TS} {G G1 G2 : Ds → Option Out} {fr : Bool} {e c : Expr} {te : TE} {tt : TT} {F : Ds → Option PV} {Ft : Ds → Option Bool} {pos : Pos}
theorem pssx_nil : PSsX X [] tNext gNext := ⟨pss_nil, by
  intro O H₀ as σ H ds D o S hf q
  cases hf
  exact q as σ H S⟩
theorem pssx_one (h : PSX X st t G) : PSsX X [st] t G := ⟨pss_one h.p, h.t⟩
theorem pssx_cons (h1 : PSX X st t G1) (h2 : PSsX X rest u G2) : PSsX X (st :: rest) (tSeq t u) (gSeq G1 G2) := ⟨pss_cons h1.p h2.p, by
  intro O H₀ as σ H ds D o S hf q
  unfold gSeq at hf
  cases e1 : G1 ds with
  | none => rw [e1] at hf; cases hf
  | some o1 =>
    rw [e1] at hf
    simp only [Option.bind_some] at hf
    refine h1.t O H₀ as σ H ds { D with nx := u D } o1 S e1 ?_
    cases o1 with
    | next ds1 => exact fun as' σ' H' S' => h2.t O H₀ as' σ' H' ds1 D o S' hf q
    | ret pv => cases hf; exact q
    | brk ds1 => cases hf; exact q
    | cont ds1 => cases hf; exact q
    | up x => cases hf; exact q⟩
/-- own lists become plain data ahead of a statement -/
noncomputable def gFrz1 (i : Nat) (G : Ds → Option Out) : Ds → Option Out := fun ds => G (frz1 i ds)
theorem DS.set {K : PySem.W.Frag} {O : List Addr} {H₀ H : Hp} {as : As} {σ : St} {ds : Ds} {v : V} {d : PyData} (S : DS K O H₀ as σ H ds) (i : Nat) (h : Dt K (hid H as O) v d) : DS K O H₀ (as.set i none) (σ.set i (some v)) H (ds.set i (some (.dat d))) := by
  have sub : ∀ b, some b ∈ as.set i none → some b ∈ as := fun b z => by
    rcases List.mem_or_eq_of_mem_set z with z | z
    · exact z
    · cases z
  refine ⟨by simp [S.ls], by simp [S.la], S.same, fun a h => S.new a (sub a h), S.dom, fun j k a h1 h2 => ?_, fun j pv hj => ?_⟩
  · have f : ∀ j, (as.set i none)[j]? = some (some a) → as[j]? = some (some a) := fun j z => by
      rw [List.getElem?_set] at z
      split at z
      · split at z <;> cases z
      · exact z
    exact S.inj j k a (f j h1) (f k h2)
  · by_cases hij : i = j
    · subst hij
      rw [List.getElem?_set] at hj
      rw [if_pos rfl] at hj
      split at hj
      · rename_i hl
        cases hj
        exact ⟨v, by rw [List.getElem?_set_self (by rw [S.ls]; exact hl)], h.same (hid_sub (Same.refl _) sub)⟩
      · cases hj
    · rw [List.getElem?_set_ne hij] at hj
      have sl := S.slot j pv hj
      rw [List.getElem?_set_ne hij, List.getElem?_set_ne hij]
      cases pv with
      | dat d => obtain ⟨v, e1, h⟩ := sl; exact ⟨v, e1, h.same (hid_sub (Same.refl _) sub)⟩
      | own l' => obtain ⟨a, xs, e1, e2, e3, h⟩ := sl; exact ⟨a, xs, e1, e2, e3, h.same (hid_sub (Same.refl _) sub)⟩
/-- a list of one's own is stored -/
theorem DS.setO {K : PySem.W.Frag} {O : List Addr} {H₀ H : Hp} {as : As} {σ : St} {ds : Ds} {l : List PyData} (S : DS K O H₀ as σ H ds) (i : Nat) {a : Addr} {xs : List V} (hn : H₀ a = none) (ha : some a ∉ as) (hH : H a = some (.lst xs))
    (hv : ∀ j pv, ds[j]? = some (some pv) → j ≠ i → SlotOk K O (some a :: as) H σ[j]? as[j]? pv) (h : Dts K (hid H (some a :: as) O) xs l) : DS K O H₀ (as.set i (some a)) (σ.set i (some (.ref a))) H (ds.set i (some (.own l))) := by
  have sub : ∀ b, some b ∈ as.set i (some a) → some b ∈ some a :: as := fun b z => by
    rcases List.mem_or_eq_of_mem_set z with z | z
    · exact List.mem_cons_of_mem _ z
    · rw [z]; exact List.mem_cons_self
  refine ⟨by simp [S.ls], by simp [S.la], S.same, fun b hb => ?_, S.dom, fun j k b h1 h2 => ?_, fun j pv hj => ?_⟩
  · rcases List.mem_cons.mp (sub b hb) with z | z
    · cases z; exact ⟨hn, _, hH⟩
    · exact S.new b z
  · have f : ∀ j, (as.set i (some a))[j]? = some (some b) → (j = i ∧ b = a) ∨ (j ≠ i ∧ as[j]? = some (some b)) := fun j z => by
      rw [List.getElem?_set] at z
      split at z
      · rename_i e
        split at z
        · cases z; exact .inl ⟨e.symm, rfl⟩
        · cases z
      · rename_i e
        exact .inr ⟨fun q => e q.symm, z⟩
    rcases f j h1 with ⟨e1, e2⟩ | ⟨e1, e2⟩ <;> rcases f k h2 with ⟨e3, e4⟩ | ⟨e3, e4⟩
    · rw [e1, e3]
    · subst e2; exact absurd (List.mem_of_getElem? e4) ha
    · subst e4; exact absurd (List.mem_of_getElem? e2) ha
    · exact S.inj j k b e2 e4
  · by_cases hij : i = j
    · subst hij
      rw [List.getElem?_set] at hj
      rw [if_pos rfl] at hj
      split at hj
      · rename_i hl
        cases hj
        exact ⟨a, xs, by rw [List.getElem?_set_self (by rw [S.ls]; exact hl)], by rw [List.getElem?_set_self (by rw [S.la]; exact hl)], hH, h.same (hid_sub (Same.refl _) sub)⟩
      · cases hj
    · rw [List.getElem?_set_ne hij] at hj
      have sl := hv j pv hj (fun z => hij z.symm)
      rw [List.getElem?_set_ne hij, List.getElem?_set_ne hij]
      cases pv with
      | dat d => obtain ⟨v, e1, h⟩ := sl; exact ⟨v, e1, h.same (hid_sub (Same.refl _) sub)⟩
      | own l' => obtain ⟨a, xs, e1, e2, e3, h⟩ := sl; exact ⟨a, xs, e1, e2, e3, h.same (hid_sub (Same.refl _) sub)⟩
theorem DS.store {K : PySem.W.Frag} {O : List Addr} {H₀ H H1 : Hp} {as : As} {σ : St} {ds : Ds} {v : V} {pv : PV} (S : DS K O H₀ as σ H ds) (e1 : Same H H1) (i : Nat) (r : RX K O as H H1 v pv) : ∃ as', DS K O H₀ as' (σ.set i (some v)) H1 (ds.set i (some pv)) := by
  have S1 := S.grow e1
  cases pv with
  | dat d => exact ⟨_, S1.set i r⟩
  | own l =>
    obtain ⟨a, xs, rfl, e2, e3, h⟩ := r
    have na : some a ∉ as := fun z => by
      obtain ⟨_, o, z⟩ := S.new a z
      rw [e2] at z; cases z
    have sm : Same (hid H as O) (hid H1 (some a :: as) O) := hid_le fun b o h1 h2 h3 => ⟨h1, fun z => by
      rcases List.mem_cons.mp z with z | z
      · cases z; rw [e2] at h3; cases h3
      · exact h2 z, e1 _ _ h3⟩
    refine ⟨_, S1.setO i (S.same.free e2) na e3 (fun j pv hj _ => ?_) h⟩
    have sl := S.slot j pv hj
    cases pv with
    | dat d => obtain ⟨v, z1, z⟩ := sl; exact ⟨v, z1, z.same sm⟩
    | own l' => obtain ⟨a', xs', z1, z2, z3, z⟩ := sl; exact ⟨a', xs', z1, z2, e1 _ _ z3, z.same sm⟩
/-- x = e -/
noncomputable def gSet (i : Nat) (F : Ds → Option PV) : Ds → Option Out := fun ds => (F ds).bind fun pv => some (.next (ds.set i (some pv)))
/-- x = e, as plain data -/
noncomputable def gSetD (i : Nat) (F : Ds → Option PV) : Ds → Option Out := fun ds => (F ds).bind fun pv => some (.next (ds.set i (some (.dat pv.d))))
theorem psx_set {i : Nat} {x : Str} {pos' : Pos} (hN : X.N.Nodup) (hi : X.N[i]? = some x) (hx : Loc X.env.scope x) (he : PX X true e te F) (hs : swapsWith e (some (.Name x pos')) pos.line X.env = pure false := by rfl) (hf : X.fn x = true ∨ X.env.scope.names.lookup x = some .local := by first | exact .inl rfl | exact .inr rfl | assumption) :
    PSX X (.Assign [.Name x pos'] e pos) (tAsg te (gName i)) (gSet i F) := ⟨ps_set hN hi hx he.p hs hf, by
  intro O H₀ as σ H ds D o S h q
  unfold gSet at h
  cases e1 : F ds with
  | none => rw [e1] at h; cases h
  | some pv =>
    rw [e1] at h
    cases h
    refine he.t O H₀ as σ H ds pv _ S e1 fun v H1 s1 r1 => ?_
    obtain ⟨as', S'⟩ := S.store s1 i r1
    exact q as' _ _ S'⟩
theorem psx_setD {i : Nat} {x : Str} {pos' : Pos} (hN : X.N.Nodup) (hi : X.N[i]? = some x) (hx : Loc X.env.scope x) (he : PX X true e te F) (hs : swapsWith e (some (.Name x pos')) pos.line X.env = pure false := by rfl) (hf : X.fn x = true ∨ X.env.scope.names.lookup x = some .local := by first | exact .inl rfl | exact .inr rfl | assumption) :
    PSX X (.Assign [.Name x pos'] e pos) (tAsg te (gName i)) (gSetD i F) := ⟨ps_set hN hi hx he.p hs hf, by
  intro O H₀ as σ H ds D o S h q
  unfold gSetD at h
  cases e1 : F ds with
  | none => rw [e1] at h; cases h
  | some pv =>
    rw [e1] at h
    cases h
    refine he.t O H₀ as σ H ds pv _ S e1 fun v H1 s1 r1 => ?_
    exact q _ _ _ ((S.grow s1).set i (r1.dt S.dm))⟩
/-- a, b = x, y -/
noncomputable def gPar (i j : Nat) (Fl : Ds → Option (List PyData)) : Ds → Option Out := fun ds => (Fl ds).bind fun l => match l with
  | [a, b] => some (.next ((ds.set i (some (.dat a))).set j (some (.dat b))))
  | _ => none
noncomputable def gRet (F : Ds → Option PV) : Ds → Option Out := fun ds => (F ds).bind fun pv => some (.ret pv)
theorem psx_ret (he : PX X fr e te F) : PSX X (.Return (some e) pos) (tRet te) (gRet F) := ⟨ps_ret he.p, by
  intro O H₀ as σ H ds D o S h q
  unfold gRet at h
  cases e1 : F ds with
  | none => rw [e1] at h; cases h
  | some pv =>
    rw [e1] at h
    cases h
    refine he.t O H₀ as σ H ds pv _ S e1 fun v H1 s1 r1 => ?_
    exact q v H1 (S.same.trans s1) ((r1.back S.same).less fun b z => by simp at z)⟩
/-- return x, the own list too -/
noncomputable def gRetV (i : Nat) : Ds → Option Out := fun ds => match ds[i]? with
  | some (some pv) => some (.ret pv)
  | _ => none
theorem psx_retV (i : Nat) (h : PE X e (tVar i)) : PSX X (.Return (some e) pos) (tRet (tVar i)) (gRetV i) := ⟨ps_ret h, by
  intro O H₀ as σ H ds D o S h q
  unfold gRetV at h
  split at h
  · rename_i pv hd
    cases h
    have sl := S.slot i pv hd
    cases pv with
    | dat d =>
      obtain ⟨v, e1, h⟩ := sl
      exact ⟨v, e1, q v H S.same (Dt.same (hid_sub (Same.refl _) fun b z => by simp at z) h)⟩
    | own l =>
      obtain ⟨a, xs, e1, e2, e3, h⟩ := sl
      have ha := List.mem_of_getElem? e2
      refine ⟨_, e1, q _ H S.same ⟨a, xs, rfl, (S.new a ha).1, e3, h.same (hid_sub (Same.refl _) fun b z => ?_)⟩⟩
      have z' : b = a := by simpa using z
      rw [z']; exact ha
  · cases h⟩
noncomputable def gRetN : Ds → Option Out := fun _ => some (.ret (.dat .none))
noncomputable def gIf (Ft : Ds → Option Bool) (G1 G2 : Ds → Option Out) : Ds → Option Out := fun ds => (Ft ds).bind fun b => if b = true then G1 ds else G2 ds
theorem psx_if (hc : PTX X c tt Ft) (ha : PSsX X sa t G1) (hb : PSsX X sb u G2) : PSX X (.If c sa sb pos) (tIfS tt t u) (gIf Ft G1 G2) := ⟨ps_if hc.p ha.p hb.p, by
  intro O H₀ as σ H ds D o S h q
  unfold gIf at h
  cases e1 : Ft ds with
  | none => rw [e1] at h; cases h
  | some b =>
    rw [e1] at h
    simp only [Option.bind_some] at h
    refine hc.t O H₀ as σ H ds b _ S e1 fun H1 s1 => ?_
    cases b with
    | true => exact ha.t O H₀ as σ H1 ds D o (S.grow s1) h q
    | false => exact hb.t O H₀ as σ H1 ds D o (S.grow s1) h q⟩
noncomputable def gPass : Ds → Option Out := fun ds => some (.next ds)
noncomputable def gBreak : Ds → Option Out := fun ds => some (.brk ds)
noncomputable def gCont : Ds → Option Out := fun ds => some (.cont ds)
noncomputable def gNever : Ds → Option Out := fun _ => none
theorem psx_never : PSX X st tNever gNever := ⟨ps_never, by
  intro O H₀ as σ H ds D o S h q
  cases h⟩
/-- an expression alone -/
noncomputable def gDrop (F : Ds → Option PV) : Ds → Option Out := fun ds => (F ds).bind fun _ => some (.next ds)
end
/-- the own list at a is another now -/
theorem DS.turn {K : PySem.W.Frag} {O : List Addr} {H₀ H : Hp} {as : As} {σ : St} {ds : Ds} {l l' : List PyData} {xs xs' : List V} {i : Nat} {a : Addr} (S : DS K O H₀ as σ H ds) (hd : ds[i]? = some (some (.own l))) (e1 : σ[i]? = some (some (.ref a))) (e2 : as[i]? = some (some a)) (hv : Dts K (hid H as O) xs' l') :
    DS K O H₀ as σ (upd H a (.lst xs')) (ds.set i (some (.own l'))) := by
  have ha := List.mem_of_getElem? e2
  have sm : Same (hid H as O) (hid (upd H a (.lst xs')) as O) := hid_le fun b o h1 h2 h3 => ⟨h1, h2, by
    rw [upd_ne (fun z => h2 (by rw [z]; exact ha))]; exact h3⟩
  have hl : i < ds.length := (List.getElem?_eq_some_iff.mp hd).1
  refine ⟨by simp [S.ls], by simp [S.la], fun b o h => ?_, fun b hb => ⟨(S.new b hb).1, ?_⟩, S.dom, S.inj, fun j pv hj => ?_⟩
  · rw [upd_ne (fun z => ?_)]
    · exact S.same _ _ h
    · rw [z, (S.new a ha).1] at h; cases h
  · by_cases z : b = a
    · exact ⟨_, by rw [z]; exact upd_same⟩
    · obtain ⟨_, o, h⟩ := S.new b hb
      exact ⟨o, by rw [upd_ne z]; exact h⟩
  · by_cases hij : i = j
    · subst hij
      rw [List.getElem?_set_self hl] at hj
      cases hj
      exact ⟨a, xs', e1, e2, upd_same, hv.same sm⟩
    · rw [List.getElem?_set_ne hij] at hj
      have sl := S.slot j pv hj
      cases pv with
      | dat d => obtain ⟨v, z1, z⟩ := sl; exact ⟨v, z1, z.same sm⟩
      | own l' =>
        obtain ⟨a', xs', z1, z2, z3, z⟩ := sl
        refine ⟨a', xs', z1, z2, ?_, z.same sm⟩
        rw [upd_ne (fun w => hij ?_)]
        · exact z3
        · rw [w] at z2; exact S.inj i j a e2 z2
/-- xs.append(e) -/
noncomputable def gApp (i : Nat) (F : Ds → Option PV) : Ds → Option Out := fun ds => (F ds).bind fun pv => match ds[i]? with
  | some (some (.own l)) => if l.length < 1000000 then some (.next (ds.set i (some (.own (l ++ [pv.d]))))) else none
  | _ => none
section
variable {X : Cx} {e o : Expr} {te : TE} {F : Ds → Option PV} {pos cpos apos : Pos}
theorem psx_app (i : Nat) (ho : PE X o (tVar i)) (he : PX X true e te F) (hst : starEach [e] X.env = (false, eval e X.env) :: starEach [] X.env := by rfl)
    (hbase : attributeBase o "append" X.env (eval o X.env) = eval o X.env := by rfl)
    (hfew : ((backTo cpos (starEach [e] X.env)).all (fun x => !x.1) && (backToKw cpos (keywordEach [] X.env)).all (fun x => x.1.isSome)
      && decide ([e].length + ([] : List Keyword).length + (if ([] : List Keyword).isEmpty then 0 else 1) < 30)) = true := by rfl)
    (hline : (apos.endLine == cpos.line) = true := by rfl) (hplain : (backTo cpos (starEach [] X.env)).any (·.1) = false := by rfl)
    (hs : swapsWith (.Call (.Attribute o "append" apos) [e] [] cpos) none pos.line X.env = pure false := by rfl) :
    PSX X (.Expr (.Call (.Attribute o "append" apos) [e] [] cpos) pos) (tDrop (tBM X.K "list" rAppend (tVar i) (tCons te tNil))) (gApp i F) :=
  ⟨ps_expr (pe_bm PySem.F.plainAttrs_list PySem.F.slot_list_append PySem.F.type_list_append mt_append ho (pa_cons he.p pa_nil hst) hbase hfew hline hst hplain) hs, by
  intro O H₀ as σ H ds D o S h q
  unfold gApp at h
  cases e1 : F ds with
  | none => rw [e1] at h; cases h
  | some pv =>
    rw [e1] at h
    simp only [Option.bind_some] at h
    split at h
    · rename_i l hd
      split at h
      · rename_i hl
        cases h
        obtain ⟨a, xs, z1, z2, z3, z4⟩ := S.slot i _ hd
        refine ⟨_, z1, .inl ⟨rfl, xs, SqL.of z3⟩, ?_⟩
        refine he.t O H₀ as σ H ds pv _ S e1 fun v H1 s1 r1 => ?_
        have hx := z4.length
        refine ⟨a, xs, v, rfl, rfl, s1 _ _ z3, Nat.lt_of_lt_of_le (by omega) (szM (Nat.le_refl _)), q as σ _ ?_⟩
        exact (S.grow s1).turn (xs := xs) hd z1 z2 ((z4.same (hid_same s1)).append (.cons (r1.dt S.dm) .nil))
      · cases h
    · cases h⟩
end

/-- a loop's base: all but own lists -/
theorem DS.rebase {K : PySem.W.Frag} {O : List Addr} {H₀ H : Hp} {as : As} {σ : St} {ds : Ds} (S : DS K O H₀ as σ H ds) : DS K O (hid H as []) as σ H ds where
  ls := S.ls
  la := S.la
  same := hid_all
  new := fun a h => ⟨by unfold hid; rw [if_pos (.inr h)], (S.new a h).2⟩
  dom := fun a h => by
    obtain ⟨o, z⟩ := S.dom a h
    refine ⟨o, hid_some.mpr ⟨by simp, fun q => ?_, S.same _ _ z⟩⟩
    rw [(S.new a q).1] at z
    cases z
  inj := S.inj
  slot := S.slot
theorem DS.unbase {K : PySem.W.Frag} {O : List Addr} {H₀ Hb H : Hp} {as : As} {σ : St} {ds : Ds} (S : DS K O Hb as σ H ds) (e : Same H₀ Hb) (hd : ∀ a ∈ O, ∃ o, H₀ a = some o) : DS K O H₀ as σ H ds :=
  ⟨S.ls, S.la, e.trans S.same, fun a h => ⟨e.free (S.new a h).1, (S.new a h).2⟩, hd, S.inj, S.slot⟩
theorem DS.toBase {K : PySem.W.Frag} {O : List Addr} {H₀ H : Hp} {as : As} {σ : St} {ds : Ds} (S : DS K O H₀ as σ H ds) : Same H₀ (hid H as []) := fun b o h => by
  refine hid_some.mpr ⟨by simp, fun q => ?_, S.same _ _ h⟩
  rw [(S.new b q).1] at h
  cases h
theorem EndsOk.unbase {X : Cx} {O : List Addr} {H₀ Hb : Hp} {D : Ends} {o : Out} (h : EndsOk X O H₀ D o) (e : Same H₀ Hb) (hd : ∀ a ∈ O, ∃ u, H₀ a = some u) : EndsOk X O Hb D o := by
  cases o with
  | next ds => exact fun as σ H S => h as σ H (S.unbase e hd)
  | brk ds => exact fun as σ H S => h as σ H (S.unbase e hd)
  | cont ds => exact fun as σ H S => h as σ H (S.unbase e hd)
  | ret pv => exact fun v H s r => h v H (e.trans s) (r.back e)
  | up x => exact fun ea H s n u => h ea H (e.trans s) (e.free n) u
/-- a loop's targets -/
noncomputable def TGX (K : PySem.W.Frag) (g : TG) (gt : PyData → Ds → Option Ds) : Prop :=
  ∀ (O : List Addr) (H₀ : Hp) (as : As) (σ : St) (H : Hp) (ds ds' : Ds) (v : V) (d : PyData) (Q : St → Hp → Prop), DS K O H₀ as σ H ds → Dt K (hid H as O) v d → gt d ds = some ds' → (∀ as' σ', DS K O H₀ as' σ' H ds' → Q σ' H) → g v σ H Q
noncomputable def sName (i : Nat) : PyData → Ds → Option Ds := fun d ds => some (ds.set i (some (.dat d)))
theorem tgx_name {K : PySem.W.Frag} {i : Nat} : TGX K (gName i) (sName i) := by
  intro O H₀ as σ H ds ds' v d Q S h e q
  cases e
  exact q _ _ (S.set i h)
/-- several targets -/
noncomputable def TGsX (K : PySem.W.Frag) (g : TGs) (gt : List PyData → Ds → Option Ds) : Prop :=
  ∀ (O : List Addr) (H₀ : Hp) (as : As) (σ : St) (H : Hp) (ds ds' : Ds) (vs : List V) (l : List PyData) (Q : St → Hp → Prop), DS K O H₀ as σ H ds → Dts K (hid H as O) vs l → gt l ds = some ds' → (∀ as' σ', DS K O H₀ as' σ' H ds' → Q σ' H) → g vs σ H Q
noncomputable def sNil : List PyData → Ds → Option Ds
  | [], ds => some ds
  | _, _ => none
noncomputable def sCons (i : Nat) (r : List PyData → Ds → Option Ds) : List PyData → Ds → Option Ds
  | d :: l, ds => r l (ds.set i (some (.dat d)))
  | [], _ => none
noncomputable def sTup (n : Nat) (r : List PyData → Ds → Option Ds) : PyData → Ds → Option Ds
  | .tuple l, ds => if l.length = n then r l ds else none
  | _, _ => none
theorem tgsx_nil {K : PySem.W.Frag} : TGsX K gNil sNil := by
  intro O H₀ as σ H ds ds' vs l Q S h e q
  cases h with
  | nil => cases e; exact ⟨rfl, q _ _ S⟩
  | cons _ _ => cases e
theorem tgsx_cons {K : PySem.W.Frag} {i : Nat} {g : TGs} {r : List PyData → Ds → Option Ds} (hg : TGsX K g r) : TGsX K (gCons (gName i) g) (sCons i r) := by
  intro O H₀ as σ H ds ds' vs l Q S h e q
  cases h with
  | nil => cases e
  | cons h t =>
    refine ⟨_, _, rfl, hg O H₀ _ _ H _ ds' _ _ Q (S.set i h) (t.same (hid_sub (Same.refl _) fun b z => ?_)) e q⟩
    rcases List.mem_or_eq_of_mem_set z with z | z
    · exact z
    · cases z
theorem tgx_tup {K : PySem.W.Frag} {n : Nat} {g : TGs} {r : List PyData → Ds → Option Ds} (hg : TGsX K g r) : TGX K (gTup K n g) (sTup n r) := by
  intro O H₀ as σ H ds ds' v d Q S h e q
  cases h with
  | tup hs ht =>
    rename_i a xs l
    have e' : (if l.length = n then r l ds else none) = some ds' := e
    split at e'
    · rename_i hl
      exact ⟨a, xs, rfl, hid_all.seqT hs, by rw [ht.length]; exact hl, hg O H₀ as σ H ds ds' xs l Q S ht e' q⟩
    · cases e'
  | _ => cases e
noncomputable def forD (gt : PyData → Ds → Option Ds) (G : Ds → Option Out) : List PyData → Ds → Option Out
  | [], ds => some (.next ds)
  | x :: r, ds => (gt x ds).bind fun ds1 => (G ds1).bind fun o => match o with
    | .next ds2 => forD gt G r ds2
    | .cont ds2 => forD gt G r ds2
    | .brk ds2 => some (.next ds2)
    | .ret pv => some (.ret pv)
    | .up x => some (.up x)
noncomputable def gFor (Fi : Ds → Option (List PyData)) (gt : PyData → Ds → Option Ds) (G : Ds → Option Out) : Ds → Option Out := fun ds => (Fi ds).bind fun items => forD gt G items ds
section
variable {X : Cx} {tg iter c : Expr} {body : List Stmt} {wi : TI} {g : TG} {tb : TS} {tt : TT} {pos : Pos} {Fi : Ds → Option (List PyData)} {gt : PyData → Ds → Option Ds} {G : Ds → Option Out} {Fc : Ds → Option Bool}
theorem psx_for (hp : PassesOwn (model X.prog X.w) X.A X.env X.xe) (hc : X.calm = true) (hi : PIX X true tg iter wi Fi) (hg : PG X tg g) (hgt : TGX X.K g gt) (hb : PSsX X body tb G)
    (hs : ∀ x, foldedSetIterable iter X.env x = pure x := by intro _; rfl) : PSX X (.For tg iter body [] pos) (tFor wi g tb) (gFor Fi gt G) := ⟨ps_for hp hc hi.p hg hb.p hs, by
  intro O H₀ as σ H ds D o S h q
  unfold gFor at h
  cases e1 : Fi ds with
  | none => rw [e1] at h; cases h
  | some items =>
    rw [e1] at h
    simp only [Option.bind_some] at h
    refine hi.t O H₀ as σ H ds items _ S e1 fun J H1 s1 it => ?_
    have S1 := S.grow s1
    have it' : ItOk X.K O (hid H1 as []) J items := it
    have Sb := S1.rebase
    have eb := S1.toBase
    have qb := q.unbase (Hb := hid H1 as []) eb S.dom
    refine ⟨fun i m σ' H' => i ≤ items.length ∧ m = items.length - i ∧ ∃ as' ds', DS X.K O (hid H1 as []) as' σ' H' ds' ∧ forD gt G (items.drop i) ds' = some o, ⟨_, Nat.zero_le _, rfl, as, ds, Sb, h⟩, ?_⟩
    rintro i m σ2 H2 ⟨hi', em, as2, ds2, S2, f2⟩
    obtain ⟨go', st', yl'⟩ := it' H2 S2.same i
    by_cases hlt : i < items.length
    · have ed' : items.drop i = items[i] :: items.drop (i + 1) := List.drop_eq_getElem_cons hlt
      rw [ed'] at f2
      unfold forD at f2
      cases e3 : gt items[i] ds2 with
      | none => rw [e3] at f2; cases f2
      | some ds3 =>
        rw [e3] at f2
        simp only [Option.bind_some] at f2
        cases e4 : G ds3 with
        | none => rw [e4] at f2; cases f2
        | some o4 =>
          rw [e4] at f2
          simp only [Option.bind_some] at f2
          refine .inr ⟨go' hlt, fun σ' H' => ∃ as' ds', DS X.K O (hid H1 as []) as' σ' H' ds' ∧ forD gt G (items.drop (i + 1)) ds' = some o, fun σ' H' z => ⟨items.length - (i + 1), by omega, hlt, rfl, z⟩, fun x H' y => ?_⟩
          obtain ⟨e5, d, ed, dt⟩ := yl' x H' y hlt
          have edd : items[i] = d := by
            rw [List.getElem?_eq_getElem hlt] at ed
            exact Option.some.inj ed
          have S3 := S2.grow e5
          have dx : Dt X.K (hid H' as2 O) x d := dt as2 (fun b hb => ⟨(S2.new b hb).1, let ⟨_, z⟩ := (S2.new b hb).2; ⟨_, z⟩⟩) S2.dom
          rw [edd] at e3
          refine hgt O _ as2 σ2 H' ds2 ds3 x d _ S3 dx e3 fun as4 σ4 S4 => ?_
          refine hb.t O _ as4 σ4 H' ds3 _ o4 S4 e4 ?_
          cases o4 with
          | next ds5 => exact fun as5 σ5 H5 S5 => ⟨as5, ds5, S5, f2⟩
          | cont ds5 => exact fun as5 σ5 H5 S5 => ⟨as5, ds5, S5, f2⟩
          | brk ds5 => cases f2; exact fun as5 σ5 H5 S5 => qb as5 σ5 H5 S5
          | ret pv => cases f2; exact qb
          | up x => cases f2; exact qb
    · have hi2 : i = items.length := by omega
      subst hi2
      rw [List.drop_length] at f2
      cases f2
      exact .inl ⟨st' (Nat.le_refl _), qb as2 σ2 H2 S2⟩⟩
noncomputable def whileD (Fc : Ds → Option Bool) (G : Ds → Option Out) : Nat → Ds → Option Out
  | 0, _ => none
  | n + 1, ds => (Fc ds).bind fun b => if b = true then (G ds).bind fun o => match o with
      | .next ds2 => whileD Fc G n ds2
      | .cont ds2 => whileD Fc G n ds2
      | .brk ds2 => some (.next ds2)
      | .ret pv => some (.ret pv)
      | .up x => some (.up x)
    else some (.next ds)
/-- μ: how many turns at most -/
noncomputable def gWhile (μ : Ds → Nat) (Fc : Ds → Option Bool) (G : Ds → Option Out) : Ds → Option Out := fun ds => whileD Fc G (μ ds) ds
theorem psx_while (μ : Ds → Nat) (hp : PassesOwn (model X.prog X.w) X.A X.env X.xe) (hc : PTX X c tt Fc) (hb : PSsX X body tb G) : PSX X (.While c body [] pos) (tWhile tt tb) (gWhile μ Fc G) := ⟨ps_while hp hc.p hb.p, by
  intro O H₀ as σ H ds D o S h q
  unfold gWhile at h
  refine ⟨fun m σ' H' => ∃ as' ds', DS X.K O H₀ as' σ' H' ds' ∧ whileD Fc G m ds' = some o, ⟨_, as, ds, S, h⟩, ?_⟩
  rintro m σ2 H2 ⟨as2, ds2, S2, f2⟩
  cases m with
  | zero => cases f2
  | succ m =>
    unfold whileD at f2
    cases e1 : Fc ds2 with
    | none => rw [e1] at f2; cases f2
    | some b =>
      rw [e1] at f2
      simp only [Option.bind_some] at f2
      refine hc.t O H₀ as2 σ2 H2 ds2 b _ S2 e1 fun H3 s3 => ?_
      cases b with
      | false =>
        cases f2
        exact q as2 σ2 H3 (S2.grow s3)
      | true =>
        rw [if_pos rfl] at f2
        rw [if_pos rfl]
        cases e4 : G ds2 with
        | none => rw [e4] at f2; cases f2
        | some o4 =>
          rw [e4] at f2
          simp only [Option.bind_some] at f2
          refine ⟨fun σ' H' => ∃ as' ds', DS X.K O H₀ as' σ' H' ds' ∧ whileD Fc G m ds' = some o, fun σ' H' z => ⟨m, Nat.lt_succ_self _, z⟩, ?_⟩
          refine hb.t O H₀ as2 σ2 H3 ds2 _ o4 (S2.grow s3) e4 ?_
          cases o4 with
          | next ds5 => exact fun as5 σ5 H5 S5 => ⟨as5, ds5, S5, f2⟩
          | cont ds5 => exact fun as5 σ5 H5 S5 => ⟨as5, ds5, S5, f2⟩
          | brk ds5 => cases f2; exact q
          | ret pv => cases f2; exact q
          | up x => cases f2; exact q⟩
end

noncomputable def outV : Out → Option PV
  | .ret pv => some pv
  | .next _ => some (.dat .none)
  | _ => none
/-- a def of n parameters and N names -/
noncomputable def fnF (n N : Nat) (G : Ds → Option Out) : List PyData → Option PV := fun l => if l.length = n then (G (dats l ++ List.replicate (N - n) none)).bind outV else none
section
variable {P : Program} {w : World} {K : PySem.W.Frag} {mg : Str → Option Value} {base : Heap}
theorem DS.start {O : List Addr} {H : Hp} {vs : List V} {l : List PyData} {N : List Str} (hO : ∀ a ∈ O, ∃ u, H a = some u) (h : Dts K (hid H [] O) vs l) : DS K O H (List.replicate (dats l ++ List.replicate (N.length - l.length) none).length none) (start N vs) H (dats l ++ List.replicate (N.length - l.length) none) := by
  have hl := h.length
  have S0 : DS K O H (List.replicate (N.length - l.length) none) (List.replicate (N.length - l.length) none) H (List.replicate (N.length - l.length) none) :=
    ⟨by simp, by simp, Same.refl H, fun a z => absurd z rep_mem, hO, fun i j a z _ => absurd (List.mem_of_getElem? z) rep_mem, fun i pv z => by
      have := List.mem_of_getElem? z
      simp [List.mem_replicate] at this⟩
  have S1 := S0.pre (vs := vs) (l := l) (by rw [hid_rep]; exact h)
  have e1 : (List.replicate (dats l ++ List.replicate (N.length - l.length) none).length none : As) = List.replicate l.length none ++ List.replicate (N.length - l.length) none := by
    rw [List.replicate_append_replicate, List.length_append, List.length_replicate]
    congr 1
    simp [dats]
  rw [e1]
  unfold L2.start
  rw [hl]
  exact S1
theorem Fun.okF {x qual : Str} {st : Stmt} {f : Addr} {fd : FuncData} {N ps : List Str} {k : Nat} {G : Ds → Option Out} (F : Fun K x qual st f fd) (S : FnScope N ps (defScope st)) (hN : ps.length ≤ N.length)
    (hbody : ∀ (cdv : Value) (A : Around) (outer : List Env) (s : Shared) (H : Hp) (E : XK), Room k (A.deeper (envOfC qual (defScope st) s.heap.objs.size f cdv)) →
      ∃ t, PSsX (cxOf CX0 P w K mg base N qual (defScope st) f cdv A outer s H E).nox (defBody st) t G) : FnOk P w K mg base CX0 (k + 1) f fd ps (spF K (fnF ps.length N.length G)) := by
  have ln : ∀ vs H Q E, spF K (fnF ps.length N.length G) vs H Q E → vs.length = ps.length := fun vs H Q E h => by
    obtain ⟨O, ds, pv, h1, h2, h3, h4⟩ := h
    unfold fnF at h3
    split at h3
    · rename_i hl
      rw [h2.length]; exact hl
    · cases h3
  refine F.ok S ln fun cdv A outer s H vs Q E hr h => ?_
  obtain ⟨O, ds, pv, h1, h2, h3, h4⟩ := h
  obtain ⟨t, ht⟩ := hbody cdv A outer s H E hr
  refine ⟨t, ht.p, ?_⟩
  unfold fnF at h3
  split at h3
  · rename_i hl
    rw [← hl] at h3
    cases e1 : G (dats ds ++ List.replicate (N.length - ds.length) none) with
    | none => rw [e1] at h3; cases h3
    | some o =>
      rw [e1] at h3
      simp only [Option.bind_some] at h3
      refine ht.t O H _ (L2.start N vs) H _ _ o (DS.start h1 h2) e1 ?_
      cases o with
      | next ds' => cases h3; exact fun as σ H' S' => h4 _ H' S'.same Dt.non
      | ret pv' => cases h3; exact fun v H' s r => h4 v H' s r
      | brk ds' => cases h3
      | cont ds' => cases h3
      | up x => cases h3
  · cases h3
end
end L2

set_option Elab.async false
set_option linter.all false
set_option maxRecDepth 100000
namespace L2
open PySem PySem.Spec PyProof.Rows
noncomputable instance {m : Nat} {i : Int} : Decidable (Bt m i) := decidable_of_iff (i.natAbs < 2 ^ m) ⟨fun h => ⟨h⟩, fun h => h.lt⟩
noncomputable instance {i j : Int} : Decidable (CPow i j) := by unfold CPow; infer_instance
noncomputable def iiD (g : Int → Int → PyData) : PyData → PyData → Option PV
  | .int i, .int j => some (.dat (g i j))
  | _, _ => none
noncomputable def iicD (C : Int → Int → Prop) [∀ i j, Decidable (C i j)] (g : Int → Int → PyData) : PyData → PyData → Option PV
  | .int i, .int j => if C i j then some (.dat (g i j)) else none
  | _, _ => none
section
variable {K : PySem.W.Frag}
theorem r2x_i0 {g : Int → Int → V} {g' : Int → Int → PyData} (hg : ∀ i j H, Dt K H (g i j) (g' i j)) : R2X K (rI0 g) (iiD g') := by
  intro O va H x y d e pv Q D hx hy hf q
  cases hx with
  | int i =>
    cases hy with
    | int j =>
      cases hf
      exact ⟨i, j, rfl, rfl, q _ H (Same.refl H) (hg i j _)⟩
    | _ => cases hf
  | _ => cases hf
theorem r2x_ic {C C' : Int → Int → Prop} [∀ i j, Decidable (C i j)] {g : Int → Int → V} {g' : Int → Int → PyData} (hC : ∀ i j, C i j → C' i j) (hg : ∀ i j H, Dt K H (g i j) (g' i j)) : R2X K (rI C' g) (iicD C g') := by
  intro O va H x y d e pv Q D hx hy hf q
  cases hx with
  | int i =>
    cases hy with
    | int j =>
      have hf' : (if C i j then some (PV.dat (g' i j)) else none) = some pv := hf
      split at hf'
      · rename_i hc
        cases hf'
        exact ⟨i, j, rfl, rfl, hC i j hc, q _ H (Same.refl H) (hg i j _)⟩
      · cases hf'
    | _ => cases hf
  | _ => cases hf
noncomputable def subD := iiD fun i j => .int (i - j)
noncomputable def mulD := iicD (fun i j => Bt 60000 i ∧ Bt 60000 j) fun i j => .int (i * j)
noncomputable def fdivD := iicD (fun _ j => j ≠ 0 ∧ Bt 8000 j) fun i j => .int (i.fdiv j)
noncomputable def modD := iicD (fun _ j => j ≠ 0) fun i j => .int (i.fmod j)
noncomputable def powD := iicD CPow fun i j => .int (i ^ j.toNat)
noncomputable def shrD := iicD (fun _ j => 0 ≤ j) fun i j => .int (i / 2 ^ j.toNat)
noncomputable def ltD := iiD fun i j => .bool (decide (i < j))
noncomputable def leD := iiD fun i j => .bool (decide (i ≤ j))
noncomputable def gtD := iiD fun i j => .bool (decide (j < i))
noncomputable def geD := iiD fun i j => .bool (decide (j ≤ i))
theorem x_sub : R2X K (rI0 fun i j => .int (i - j)) subD := r2x_i0 fun i j H => .int _
theorem x_mul : R2X K (rI (fun i j => Bt 60000 i ∧ Bt 60000 j) fun i j => .int (i * j)) mulD := r2x_ic (fun _ _ h => h) fun i j H => .int _
theorem x_fdiv : R2X K (rI (fun _ j => j ≠ 0 ∧ Bt 8000 j) fun i j => .int (i.fdiv j)) fdivD := r2x_ic (fun _ _ h => h) fun i j H => .int _
theorem x_mod : R2X K (rI (fun _ j => j ≠ 0) fun i j => .int (i.fmod j)) modD := r2x_ic (fun _ _ h => h) fun i j H => .int _
theorem x_pow : R2X K (rI CPow fun i j => .int (i ^ j.toNat)) powD := r2x_ic (fun _ _ h => h) fun i j H => .int _
theorem x_shr : R2X K (rI (fun _ j => 0 ≤ j) fun i j => .int (i / 2 ^ j.toNat)) shrD := r2x_ic (fun _ _ h => h) fun i j H => .int _
theorem x_lt : R2X K (rI0 fun i j => .bl (decide (i < j))) ltD := r2x_i0 fun i j H => .bl _
theorem x_le : R2X K (rI0 fun i j => .bl (decide (i ≤ j))) leD := r2x_i0 fun i j H => .bl _
theorem x_gt : R2X K (rI0 fun i j => .bl (decide (j < i))) gtD := r2x_i0 fun i j H => .bl _
noncomputable def negD : PyData → Option PV
  | .int i => some (.dat (.int (-i)))
  | _ => none
theorem x_neg : R1X K (rU fun i => .int (-i)) negD := by
  intro O va H x d pv Q D hx hf q
  cases hx with
  | int i => cases hf; exact ⟨i, rfl, q _ H (Same.refl H) (Dt.int _)⟩
  | _ => cases hf
noncomputable def eqDD : PyData → PyData → Option PV
  | .str i, .str j => some (.dat (.bool (decide (i = j))))
  | d, e => if SeqAt.shaped d = true ∧ SeqAt.shaped e = true then some (.dat (.bool (PyData.eqv d e))) else none
noncomputable def neDD : PyData → PyData → Option PV
  | .str i, .str j => some (.dat (.bool (!decide (i = j))))
  | d, e => if SeqAt.shaped d = true ∧ SeqAt.shaped e = true then some (.dat (.bool (!PyData.eqv d e))) else none
noncomputable def rEqX (K : PySem.W.Frag) : R2 := fun x y H Q => rEq x y H Q ∨ ∃ d e, Dt K H x d ∧ Dt K H y e ∧ SeqAt.shaped d = true ∧ SeqAt.shaped e = true ∧ Q (.bl (PyData.eqv d e)) H
noncomputable def rNeX (K : PySem.W.Frag) : R2 := fun x y H Q => rNe x y H Q ∨ ∃ d e, Dt K H x d ∧ Dt K H y e ∧ SeqAt.shaped d = true ∧ SeqAt.shaped e = true ∧ Q (.bl (!PyData.eqv d e)) H
theorem op_eqX {X : Cx} (hu : X.A.units + 64 < cLine) : OpR X (compareOp .Eq) (rEqX X.K) := op_eq.or (op_eqD hu)
theorem op_neX {X : Cx} (hu : X.A.units + 64 < cLine) : OpR X (compareOp .NotEq) (rNeX X.K) := op_ne.or (op_neD hu)
theorem x_eq : R2X K (rEqX K) eqDD := by
  intro O va H x y d e pv Q D hx hy hf q
  unfold eqDD at hf
  split at hf
  · cases hf
    cases hx
    cases hy
    rename_i i j
    exact .inl ⟨rfl, q _ H (Same.refl H) (by rw [show decide (V.str i = V.str j) = decide (i = j) by simp]; exact Dt.bl _)⟩
  · split at hf
    · rename_i hs
      cases hf
      exact .inr ⟨d, e, hx.same hid_all, hy.same hid_all, hs.1, hs.2, q _ H (Same.refl H) (Dt.bl _)⟩
    · cases hf
theorem x_ne : R2X K (rNeX K) neDD := by
  intro O va H x y d e pv Q D hx hy hf q
  unfold neDD at hf
  split at hf
  · cases hf
    cases hx
    cases hy
    rename_i i j
    exact .inl ⟨rfl, q _ H (Same.refl H) (by rw [show decide (V.str i = V.str j) = decide (i = j) by simp]; exact Dt.bl _)⟩
  · split at hf
    · rename_i hs
      cases hf
      exact .inr ⟨d, e, hx.same hid_all, hy.same hid_all, hs.1, hs.2, q _ H (Same.refl H) (Dt.bl _)⟩
    · cases hf
noncomputable def isNoneD : PyData → Bool
  | .none => true
  | _ => false
theorem Dt.non_iff {H : Hp} {x : V} {d : PyData} (h : Dt K H x d) : decide (x = .non) = isNoneD d := by
  cases h <;> simp [isNoneD, excD]
noncomputable def isD : PyData → PyData → Option PV
  | d, .none => some (.dat (.bool (isNoneD d)))
  | _, _ => none
noncomputable def isNotD : PyData → PyData → Option PV
  | d, .none => some (.dat (.bool (!isNoneD d)))
  | _, _ => none
theorem x_is : R2X K (fun x y H Q => y = .non ∧ Q (.bl (decide (x = .non))) H) isD := by
  intro O va H x y d e pv Q D hx hy hf q
  cases hy with
  | non => cases hf; exact ⟨rfl, q _ H (Same.refl H) (by rw [hx.non_iff]; exact Dt.bl _)⟩
  | _ => cases hf
noncomputable def ixD : PyData → PyData → Option PV
  | .list l, .int i => (atI l i).bind fun d => some (.dat d)
  | .tuple l, .int i => (atI l i).bind fun d => some (.dat d)
  | .str z, .int i => if z.length ≤ 1000000 then (atI z.cps.toList i).bind fun c => some (.dat (.str ⟨#[c]⟩)) else none
  | _, _ => none
theorem Dts.atI {H : Hp} {xs : List V} {l : List PyData} {i : Int} {d : PyData} (h : Dts K H xs l) (e : L2.atI l i = some d) : ∃ x, L2.atI xs i = some x ∧ Dt K H x d := by
  unfold L2.atI at e ⊢
  rw [h.length]
  cases hi : ixN l.length i with
  | none => rw [hi] at e; cases e
  | some j =>
    rw [hi] at e
    exact h.get e
theorem x_ix : R2X K (rIx K) ixD := by
  intro O va H x y d e pv Q D hx hy hf q
  cases hx with
  | lst hs ht =>
    cases hy with
    | int i =>
      rename_i a xs l
      have hf' : ((L2.atI l i).bind fun d => some (PV.dat d)) = some pv := hf
      cases h1 : L2.atI l i with
      | none => rw [h1] at hf'; cases hf'
      | some d =>
        rw [h1] at hf'
        cases hf'
        obtain ⟨v, h2, h3⟩ := ht.atI h1
        exact .inl ⟨a, xs, i, v, rfl, rfl, hid_all.seq hs, h2, q v H (Same.refl H) h3⟩
    | _ => cases hf
  | tup hs ht =>
    cases hy with
    | int i =>
      rename_i a xs l
      have hf' : ((L2.atI l i).bind fun d => some (PV.dat d)) = some pv := hf
      cases h1 : L2.atI l i with
      | none => rw [h1] at hf'; cases hf'
      | some d =>
        rw [h1] at hf'
        cases hf'
        obtain ⟨v, h2, h3⟩ := ht.atI h1
        exact .inr (.inl ⟨a, xs, i, v, rfl, rfl, hid_all.seqT hs, h2, q v H (Same.refl H) h3⟩)
    | _ => cases hf
  | str z =>
    cases hy with
    | int i =>
      have hf' : (if z.length ≤ 1000000 then (L2.atI z.cps.toList i).bind fun c => some (PV.dat (.str ⟨#[c]⟩)) else none) = some pv := hf
      split at hf'
      · rename_i hz
        cases h1 : L2.atI z.cps.toList i with
        | none => rw [h1] at hf'; cases hf'
        | some c =>
          rw [h1] at hf'
          cases hf'
          exact .inr (.inr ⟨z, i, c, rfl, rfl, szM hz, h1, q _ H (Same.refl H) (Dt.str _)⟩)
      · cases hf'
    | _ => cases hf
  | _ => cases hf
end
/-- + of ints, texts, tuples, lists -/
noncomputable def rCatX (K : PySem.W.Frag) : R2 := fun x y H Q => ∃ a b xs ys, x = .ref a ∧ y = .ref b ∧ SqT K H a xs ∧ SqT K H b ys ∧ xs.length + ys.length ≤ sizeLine ∧
  (xs = [] → Q (.ref b) H) ∧ (xs ≠ [] → ys = [] → Q (.ref a) H) ∧ (xs ≠ [] → ys ≠ [] → ∀ p, H p = none → Q (.ref p) (upd H p (.tup (xs ++ ys))))
noncomputable def rCatL (K : PySem.W.Frag) : R2 := fun x y H Q => ∃ a b xs ys, x = .ref a ∧ y = .ref b ∧ SqL K H a xs ∧ SqL K H b ys ∧ xs.length + ys.length ≤ sizeLine ∧ ∀ p, H p = none → Q (.ref p) (upd H p (.lst (xs ++ ys)))
section
variable {X : Cx}
theorem op_catX : OpR X (binaryOp .Add) (rCatX X.K) := by
  intro pins s σ H x y v u Q I rx ry h
  obtain ⟨a, b, xs, ys, rfl, rfl, ha, hb, hz, q1, q2, q3⟩ := h
  by_cases hx : xs = []
  · subst hx
    cases rx
    cases ry
    obtain ⟨its, r1, p1, _⟩ := I.tuple ha
    obtain ⟨its2, r2, p2, _⟩ := I.tuple hb
    exact cat_nil p1 p2 (r1.nil_iff.mpr rfl) ⟨.ref b, H, I, rfl, q1 rfl⟩
  · exact op_catT pins s σ H (.ref a) (.ref b) v u Q I rx ry ⟨a, b, xs, ys, rfl, rfl, ha, hb, hx, hz, fun e => q2 hx e, fun e p hp => q3 hx e p hp⟩
theorem op_catL : OpR X (binaryOp .Add) (rCatL X.K) := by
  intro pins s σ H x y v u Q I rx ry h
  obtain ⟨l, b, xs, zs, rfl, rfl, hH, hB, hz, q⟩ := h
  cases rx
  cases ry
  obtain ⟨its, r, p1, z1⟩ := I.list hH
  obtain ⟨its2, r2, p2, z2⟩ := I.list hB
  obtain ⟨⟨cls, dd, data, sl⟩, ho, hc, n, hd⟩ := p1.isList
  obtain ⟨⟨cls2, dd2, data2, sl2⟩, ho2, hc2, n2, hd2⟩ := p2.isList
  simp only at hc hd hc2 hd2
  subst hc hd hc2 hd2
  have e : its.toArray ++ its2.toArray = (its ++ its2).toArray := by simp
  have h1 := r.length
  have h2 := r2.length
  refine concat_meets ⟨_, ho, rfl⟩ ⟨_, ho2, rfl⟩ noFill_list_add seq_list_add PySem.F.slot_list_add PySem.F.entry_list_add (PySem.F.args_list_add_2 _ _) (list_addW l b its.toArray its2.toArray n n2 dd dd2 sl sl2 (by simp; omega)) ⟨ho, ho2, ?_⟩
  rw [e]
  exact ⟨.ref _, _, I.lnew (t' := s.toks) (r.append r2) (by rw [List.length_append]; omega), rfl, q _ I.fresh⟩
noncomputable def rAddX (K : PySem.W.Frag) : R2 := fun x y H Q => (rI0 fun i j => .int (i + j)) x y H Q ∨ (∃ i j, x = .str i ∧ y = .str j ∧ i.length + j.length ≤ sizeLine ∧ Q (.str (i ++ j)) H) ∨ rCatX K x y H Q ∨ rCatL K x y H Q
theorem op_addX : OpR X (binaryOp .Add) (rAddX X.K) := op_add.or (op_add_str.or (op_catX.or op_catL))
end
noncomputable def addD : PyData → PyData → Option PV
  | .int i, .int j => some (.dat (.int (i + j)))
  | .str i, .str j => if i.length + j.length ≤ 1000000 then some (.dat (.str (i ++ j))) else none
  | .tuple l, .tuple m => if l.length + m.length ≤ 1000000 then some (.dat (.tuple (l ++ m))) else none
  | .list l, .list m => if l.length + m.length ≤ 1000000 then some (.own (l ++ m)) else none
  | _, _ => none
theorem x_add {K : PySem.W.Frag} : R2X K (rAddX K) addD := by
  intro O va H x y d e pv Q D hx hy hf q
  cases hx with
  | int i =>
    cases hy with
    | int j => cases hf; exact .inl ⟨i, j, rfl, rfl, q _ H (Same.refl H) (Dt.int _)⟩
    | _ => cases hf
  | str i =>
    cases hy with
    | str j =>
      have hf' : (if i.length + j.length ≤ 1000000 then some (PV.dat (.str (i ++ j))) else none) = some pv := hf
      split at hf'
      · rename_i hz
        cases hf'
        exact .inr (.inl ⟨i, j, rfl, rfl, szM hz, q _ H (Same.refl H) (Dt.str _)⟩)
      · cases hf'
    | _ => cases hf
  | tup hs ht =>
    cases hy with
    | tup hs2 ht2 =>
      rename_i a xs l b ys m
      have hf' : (if l.length + m.length ≤ 1000000 then some (PV.dat (.tuple (l ++ m))) else none) = some pv := hf
      split at hf'
      · rename_i hz
        cases hf'
        have g1 := ht.length
        have g2 := ht2.length
        refine .inr (.inr (.inl ⟨a, b, xs, ys, rfl, rfl, hid_all.seqT hs, hid_all.seqT hs2, by rw [g1, g2]; exact szM hz, fun e => ?_, fun e1 e2 => ?_, fun e1 e2 p hp => ?_⟩))
        · subst e
          cases ht
          exact q _ H (Same.refl H) (Dt.tup hs2 ht2)
        · subst e2
          cases ht2
          rw [List.append_nil] at q
          exact q _ H (Same.refl H) (Dt.tup hs ht)
        · exact q _ _ (Same.new hp) (rx_tup D hp (ht.append ht2))
      · cases hf'
    | _ => cases hf
  | lst hs ht =>
    cases hy with
    | lst hs2 ht2 =>
      rename_i a xs l b ys m
      have hf' : (if l.length + m.length ≤ 1000000 then some (PV.own (l ++ m)) else none) = some pv := hf
      split at hf'
      · rename_i hz
        cases hf'
        have g1 := ht.length
        have g2 := ht2.length
        exact .inr (.inr (.inr ⟨a, b, xs, ys, rfl, rfl, hid_all.seq hs, hid_all.seq hs2, by rw [g1, g2]; exact szM hz, fun p hp => q _ _ (Same.new hp) (rx_lst hp (ht.append ht2))⟩))
      · cases hf'
    | _ => cases hf
  | _ => cases hf
noncomputable def cutD {α : Type} (xs : List α) (lo hi : Option Int) : List α := (xs.drop (HT.sIx xs.length 0 lo)).take (HT.sIx xs.length xs.length hi - HT.sIx xs.length 0 lo)
theorem Dts.cut {K : PySem.W.Frag} {H : Hp} {xs : List V} {l : List PyData} (h : Dts K H xs l) (lo hi : Option Int) : Dts K H (cutV xs lo hi) (cutD l lo hi) := by
  unfold cutV cutD
  rw [h.length]
  exact (h.drop _).take _
/-- t[lo:hi] of a tuple: the whole of it is itself -/
noncomputable def rSlX (K : PySem.W.Frag) : V → Option Int → Option Int → Hp → VK → Prop := fun x lo hi H Q => ∃ a xs, x = .ref a ∧ SqT K H a xs ∧ (cutV xs lo hi = xs → Q (.ref a) H) ∧ ∀ p, H p = none → Q (.ref p) (upd H p (.tup (cutV xs lo hi)))
section
variable {X : Cx}
theorem sl_tupX : SlR X (rSlX X.K) := by
  intro pins s σ H x v vl vu lo hi sl Q I rx hs pl pu h
  obtain ⟨a, xs, rfl, hx, q1, q2⟩ := h
  by_cases hw : HT.sIx xs.length 0 lo = 0 ∧ HT.sIx xs.length xs.length hi = xs.length
  · cases rx
    obtain ⟨its, r, ht, hz⟩ := I.tuple hx
    have hlen : its.toArray.size = xs.length := by rw [List.size_toArray]; exact r.length.symm
    refine ⟨"tuple", _, PyProof.Rows.slot_tuple_getitem.lookup, ht.typeIs, ?_⟩
    refine getItem_whole ht hs pl pu (by rw [hlen]; exact hw) ⟨.ref a, H, I, rfl, q1 ?_⟩
    unfold cutV; rw [hw.1, hw.2]; simp
  · exact sl_tup pins s σ H (.ref a) v vl vu lo hi sl Q I rx hs pl pu ⟨a, xs, rfl, hx, hw, q2⟩
end
noncomputable def rSl (K : PySem.W.Frag) : V → Option Int → Option Int → Hp → VK → Prop := fun x lo hi H Q => rSlX K x lo hi H Q ∨ rSlL K x lo hi H Q
theorem sl_seq {X : Cx} : SlR X (rSl X.K) := sl_tupX.or sl_list
noncomputable def slD : PyData → Option Int → Option Int → Option PV
  | .tuple l, lo, hi => some (.dat (.tuple (cutD l lo hi)))
  | .list l, lo, hi => some (.own (cutD l lo hi))
  | _, _, _ => none
noncomputable def R3X (K : PySem.W.Frag) (r : V → Option Int → Option Int → Hp → VK → Prop) (f : PyData → Option Int → Option Int → Option PV) : Prop :=
  ∀ (O : List Addr) (va : As) (H : Hp) (x : V) (lo hi : Option Int) (d : PyData) (pv : PV) (Q : VK), Dom H va O → Dt K (hid H va O) x d → f d lo hi = some pv → (∀ v H', Same H H' → RX K O va H H' v pv → Q v H') → r x lo hi H Q
theorem x_sl {K : PySem.W.Frag} : R3X K (rSl K) slD := by
  intro O va H x lo hi d pv Q D hx hf q
  cases hx with
  | tup hs ht =>
    cases hf
    refine .inl ⟨_, _, rfl, hid_all.seqT hs, fun e => ?_, fun p hp => q _ _ (Same.new hp) (rx_tup D hp (ht.cut lo hi))⟩
    have h2 := ht.cut lo hi
    rw [e] at h2
    exact q _ H (Same.refl H) (Dt.tup hs h2)
  | lst hs ht =>
    cases hf
    exact .inr ⟨_, _, rfl, hid_all.seq hs, fun p hp => q _ _ (Same.new hp) (rx_lst hp (ht.cut lo hi))⟩
  | _ => cases hf
/-- a slice's bounds -/
noncomputable def TOX (K : PySem.W.Frag) (to : TO) (F : Ds → Option (Option Int)) : Prop :=
  ∀ (O : List Addr) (H₀ : Hp) (as : As) (σ : St) (H : Hp) (ds : Ds) (b : Option Int) (Q : Option Int → Hp → Prop), DS K O H₀ as σ H ds → F ds = some b → (∀ H', Same H H' → Q b H') → to σ H Q
structure POX (X : Cx) (e : Option Expr) (to : TO) (F : Ds → Option (Option Int)) : Prop where
  p : PO X e to
  t : TOX X.K to F
noncomputable def oNone : Ds → Option (Option Int) := fun _ => some none
noncomputable def asI : PyData → Option Int
  | .int i => some i
  | _ => none
noncomputable def oSome (F : Ds → Option PV) : Ds → Option (Option Int) := fun ds => (F ds).bind fun pv => (asI pv.d).bind fun i => some (some i)
section
variable {X : Cx} {fr : Bool} {e : Expr} {te : TE} {F : Ds → Option PV} {p2 pos : Pos}
theorem pox_some (h : PX X fr e te F) : POX X (some e) (tPart te) (oSome F) := ⟨po_some h.p, by
  intro O H₀ as σ H ds b Q S hf q
  unfold oSome at hf
  cases h1 : F ds with
  | none => rw [h1] at hf; cases hf
  | some pv =>
    rw [h1] at hf
    simp only [Option.bind_some] at hf
    refine h.t O H₀ as σ H ds pv _ S h1 fun v H1 e1 r1 => ?_
    have d := r1.dt S.dm
    generalize pv.d = z at d hf
    cases d with
    | int i => cases hf; exact ⟨i, rfl, q H1 e1⟩
    | _ => cases hf⟩
noncomputable def fSl (f : PyData → Option Int → Option Int → Option PV) (F : Ds → Option PV) (Fl Fh : Ds → Option (Option Int)) : Ds → Option PV := fun ds => (F ds).bind fun x => (Fl ds).bind fun lo => (Fh ds).bind fun hi => f x.d lo hi
theorem px_slice {r : V → Option Int → Option Int → Hp → VK → Prop} {f : PyData → Option Int → Option Int → Option PV} {lo hi : Option Expr} {tl th : TO} {Fl Fh : Ds → Option (Option Int)} (ho : SlR X r) (hr : R3X X.K r f) (he : PX X fr e te F) (hl : POX X lo tl Fl) (hh : POX X hi th Fh) :
    PX X fr (.Subscript e (.Slice lo hi none p2) pos) (tSl r te tl th) (fSl f F Fl Fh) := ⟨pe_slice ho he.p hl.p hh.p, by
  intro O H₀ as σ H ds pv Q S hf q
  unfold fSl at hf
  cases h1 : F ds with
  | none => rw [h1] at hf; cases hf
  | some x =>
    cases h2 : Fl ds with
    | none => rw [h1, h2] at hf; cases hf
    | some l =>
      cases h3 : Fh ds with
      | none => rw [h1, h2, h3] at hf; cases hf
      | some h =>
        rw [h1, h2, h3] at hf
        simp only [Option.bind_some] at hf
        refine he.t O H₀ as σ H ds x _ S h1 fun v H1 e1 r1 => ?_
        refine hl.t O H₀ as σ H1 ds l _ (S.grow e1) h2 fun H2 e2 => ?_
        refine hh.t O H₀ as σ H2 ds h _ ((S.grow e1).grow e2) h3 fun H3 e3 => ?_
        refine hr O (vis fr as) H3 v l h x.d pv Q (((S.grow e1).grow e2).grow e3).dm ((r1.grow (e2.trans e3)).dt S.dm) hf fun w H4 e4 r4 => ?_
        exact q w H4 (((e1.trans e2).trans e3).trans e4) (r4.back ((e1.trans e2).trans e3))⟩
end
section
variable {X : Cx}
theorem RNX.one {K : PySem.W.Frag} {r : List V → Hp → VK → Prop} {f : PyData → Option PV} (h : R1X K (fun x => r [x]) f) : RNX K r (fun l => match l with
    | [d] => f d
    | _ => none) := by
  intro O va H xs ds pv Q D hx hf q
  cases hx with
  | nil => cases hf
  | cons h1 t =>
    cases t with
    | nil => exact h O va H _ _ pv Q D h1 hf q
    | cons _ _ => cases hf
noncomputable def rLen (K : PySem.W.Frag) : List V → Hp → VK → Prop := fun xs H Q => (∃ p ys, xs = [.ref p] ∧ (SqL K H p ys ∨ SqT K H p ys) ∧ Q (.int ys.length) H) ∨ (∃ z, xs = [.str z] ∧ z.length ≤ sizeLine ∧ Q (.int z.length) H)
theorem call_lenX : CallR X (.builtin "len") (rLen X.K) := call_len_seq.or call_len_str
noncomputable def lenD : List PyData → Option PV
  | [.list l] => some (.dat (.int (l.length : Nat)))
  | [.tuple l] => some (.dat (.int (l.length : Nat)))
  | [.str z] => if z.length ≤ 1000000 then some (.dat (.int (z.length : Nat))) else none
  | _ => none
theorem Dts.inv1 {K : PySem.W.Frag} {H : Hp} {xs : List V} {d : PyData} (h : Dts K H xs [d]) : ∃ x, xs = [x] ∧ Dt K H x d := by
  cases h with
  | cons h t => cases t; exact ⟨_, rfl, h⟩
theorem x_len {K : PySem.W.Frag} : RNX K (rLen K) lenD := by
  intro O va H xs ds pv Q D hx hf q
  unfold lenD at hf
  split at hf
  · cases hf
    obtain ⟨x, rfl, h⟩ := hx.inv1
    cases h with
    | lst hs ht => exact .inl ⟨_, _, rfl, .inl (hid_all.seq hs), q _ H (Same.refl H) (by rw [ht.length]; exact Dt.int _)⟩
  · cases hf
    obtain ⟨x, rfl, h⟩ := hx.inv1
    cases h with
    | tup hs ht => exact .inl ⟨_, _, rfl, .inr (hid_all.seqT hs), q _ H (Same.refl H) (by rw [ht.length]; exact Dt.int _)⟩
  · split at hf
    · rename_i hz
      cases hf
      obtain ⟨x, rfl, h⟩ := hx.inv1
      cases h
      exact .inr ⟨_, rfl, szM hz, q _ H (Same.refl H) (Dt.int _)⟩
    · cases hf
  · cases hf
noncomputable def absD : List PyData → Option PV
  | [.int i] => some (.dat (.int (if i < 0 then -i else i)))
  | _ => none
theorem x_abs {K : PySem.W.Frag} : RNX K (fun xs H Q => ∃ i, xs = [.int i] ∧ Q (.int (if i < 0 then -i else i)) H) absD := by
  intro O va H xs ds pv Q D hx hf q
  unfold absD at hf
  split at hf
  · cases hf
    obtain ⟨x, rfl, h⟩ := hx.inv1
    cases h
    exact ⟨_, rfl, q _ H (Same.refl H) (Dt.int _)⟩
  · cases hf
noncomputable def tupD : List PyData → Option PV
  | [.list l] => some (.dat (.tuple l))
  | [.tuple l] => some (.dat (.tuple l))
  | _ => none
theorem x_tuple {K : PySem.W.Frag} : RNX K (fun xs H Q => ∃ p ys, xs = [.ref p] ∧ ((SqL K H p ys ∧ ∀ l, H l = none → Q (.ref l) (upd H l (.tup ys))) ∨ (SqT K H p ys ∧ Q (.ref p) H))) tupD := by
  intro O va H xs ds pv Q D hx hf q
  unfold tupD at hf
  split at hf
  · cases hf
    obtain ⟨x, rfl, h⟩ := hx.inv1
    cases h with
    | lst hs ht => exact ⟨_, _, rfl, .inl ⟨hid_all.seq hs, fun p hp => q _ _ (Same.new hp) (rx_tup D hp ht)⟩⟩
  · cases hf
    obtain ⟨x, rfl, h⟩ := hx.inv1
    cases h with
    | tup hs ht => exact ⟨_, _, rfl, .inr ⟨hid_all.seqT hs, q _ H (Same.refl H) (Dt.tup hs ht)⟩⟩
  · cases hf
noncomputable def listD : List PyData → Option PV
  | [.list l] => some (.own l)
  | [.tuple l] => some (.own l)
  | _ => none
/-- int of a bool or an int -/
noncomputable def intD : List PyData → Option PV
  | [.int i] => some (.dat (.int i))
  | [.bool k] => some (.dat (.int (if k then 1 else 0)))
  | _ => none
/-- all of a list of bools -/
noncomputable def boolsOf : List PyData → Option (List Bool)
  | [] => some []
  | .bool b :: r => (boolsOf r).bind fun l => some (b :: l)
  | _ => none
theorem Dts.bools {K : PySem.W.Frag} {H : Hp} : ∀ {l : List PyData} {xs : List V} {bs : List Bool}, Dts K H xs l → boolsOf l = some bs → xs = bs.map V.bl
  | [], _, _, h, e => by cases e; cases h; rfl
  | d :: r, xs, bs, h, e => by
    cases h with
    | cons h t =>
      cases h with
      | bl b =>
        have e' : ((boolsOf r).bind fun l => some (b :: l)) = some bs := e
        cases h1 : boolsOf r with
        | none => rw [h1] at e'; cases e'
        | some l =>
          rw [h1] at e'
          cases e'
          rw [t.bools h1]
          rfl
      | _ => cases e
/-- isinstance(e, T), T one of tuple, list, bool, int, str -/
noncomputable def fIsin (n : String) (F : Ds → Option PV) : Ds → Option PV := fun ds => (F ds).bind fun x => some (.dat (.bool (isI x.d n)))
theorem px_isin {fr : Bool} {e c : Expr} {te : TE} {F : Ds → Option PV} {x : Str} {p pos : Pos} {n : String} (h5 : five n) (hg : Gl X x) (hm : X.mg x = none) (hv : bootBuiltins x = some (.builtin "isinstance")) (h : PX X fr e te F) (hc : PE X c (tC (.ty n))) (hn : x ≠ "__name__" := by decide) (hdb : (x == ("__debug__" : Str)) = false := by decide)
    (hs1 : starEach [e, c] X.env = (false, eval e X.env) :: starEach [c] X.env := by rfl) (hs2 : starEach [c] X.env = (false, eval c X.env) :: starEach [] X.env := by rfl) (hpl : (backTo pos (starEach [c] X.env)).any (·.1) = false := by rfl) :
    PX X fr (.Call (.Name x p) [e, c] [] pos) (tCB (fun xs H Q => ∃ x n d, xs = [x, .ty n] ∧ Dt X.K H x d ∧ five n ∧ Q (.bl (isI d n)) H) (tCons te (tCons (tC (.ty n)) tNil))) (fIsin n F) :=
  ⟨pe_callB call_isD hg hm hv (pa_cons h.p (pa_cons hc pa_nil hs2) hs1) hn hdb hs1 hpl, by
  intro O H₀ as σ H ds pv Q S hf q
  unfold fIsin at hf
  cases h1 : F ds with
  | none => rw [h1] at hf; cases hf
  | some w =>
    rw [h1] at hf
    cases hf
    refine h.t O H₀ as σ H ds w _ S h1 fun v H1 e1 r1 => ?_
    exact ⟨v, n, w.d, rfl, (r1.dt S.dm).same hid_all, h5, q _ H1 e1 (Dt.bl _)⟩⟩
end
noncomputable abbrev rTupC (K : PySem.W.Frag) : List V → Hp → VK → Prop := fun xs H Q => ∃ p ys, xs = [.ref p] ∧ ((SqL K H p ys ∧ ∀ l, H l = none → Q (.ref l) (upd H l (.tup ys))) ∨ (SqT K H p ys ∧ Q (.ref p) H))
theorem px_callK {X : Cx} {K' : PySem.W.Frag} {fr : Bool} {e : Expr} {es : List Expr} {t : TA} {Fl : Ds → Option (List PyData)} {pos : Pos} {CX : CXT} {E : XK} {k : Nat} {f : Addr} {fd : FuncData} {ps : List Str} {x : Str} {p : Pos} {f' : List PyData → Option PV} (eK : X.K = K') (G : FnOk X.prog X.w K' X.mg X.base CX k f fd ps (spF K' f')) (hr : Room k X.A) (hg : Gl X x) (hm : X.mg x = some (.ref f)) (hk : PySem.W.keepIn K' (.ref f) = true) (hb : Binds K' fd ps []) (hx : Passes CX X E)
    (ha : PAX X fr (e :: es) t Fl) (hdb : (x == ("__debug__" : Str)) = false := by decide) (he : starEach (e :: es) X.env = (false, eval e X.env) :: starEach es X.env := by rfl) (hpl : (backTo pos (starEach es X.env)).any (·.1) = false := by rfl) :
    PX X fr (.Call (.Name x p) (e :: es) [] pos) (tCall (spF K' f') [] E t) (fCall f' Fl) := by
  subst eK
  exact px_call G hr hg hm hk hb hx ha hdb he hpl
noncomputable def rIsin (K : PySem.W.Frag) : List V → Hp → VK → Prop := fun xs H Q => ∃ x n d, xs = [x, .ty n] ∧ Dt K H x d ∧ five n ∧ Q (.bl (isI d n)) H
theorem px_isinK {X : Cx} {K' : PySem.W.Frag} (eK : X.K = K') {fr : Bool} {e c : Expr} {te : TE} {F : Ds → Option PV} {x : Str} {p pos : Pos} {n : String} (h5 : five n) (hg : Gl X x) (hm : X.mg x = none) (hv : bootBuiltins x = some (.builtin "isinstance")) (h : PX X fr e te F) (hc : PE X c (tC (.ty n))) (hn : x ≠ "__name__" := by decide) (hdb : (x == ("__debug__" : Str)) = false := by decide)
    (hs1 : starEach [e, c] X.env = (false, eval e X.env) :: starEach [c] X.env := by rfl) (hs2 : starEach [c] X.env = (false, eval c X.env) :: starEach [] X.env := by rfl) (hpl : (backTo pos (starEach [c] X.env)).any (·.1) = false := by rfl) :
    PX X fr (.Call (.Name x p) [e, c] [] pos) (tCB (rIsin K') (tCons te (tCons (tC (.ty n)) tNil))) (fIsin n F) := by
  subst eK
  exact px_isin h5 hg hm hv h hc hn hdb hs1 hs2 hpl
/-- a number of turns: the size of the int in a slot -/
noncomputable def muAbs (i : Nat) (ds : Ds) : Nat := match ds[i]? with
  | some (some (.dat (.int k))) => k.natAbs + 1
  | _ => 0
end L2

set_option Elab.async false
set_option linter.all false
set_option maxRecDepth 100000
namespace L2
open PySem PySem.Spec PyProof.Rows
theorem hid_nil {H : Hp} : hid H [] [] = H := by
  funext b
  unfold hid
  rw [if_neg (by simp)]
theorem sqL_hid {K : PySem.W.Frag} {H : Hp} {a : Addr} {xs : List V} (h : SqL K H a xs) : SqL K (hid H [] []) a xs := by rw [hid_nil]; exact h
theorem dts_ints {K : PySem.W.Frag} {H : Hp} : ∀ ns : List Int, Dts K H (ns.map V.int) (ns.map PyData.int)
  | [] => .nil
  | n :: r => .cons (.int n) (dts_ints r)
theorem dt_true {K : PySem.W.Frag} {H H' : Hp} {v : V} (r : RX K [] [] H H' v (.dat (.bool true))) : v = .bl true := by
  have r' : Dt K (hid H' [] []) v (.bool true) := r
  cases r'
  rfl
end L2

set_option Elab.async false
set_option linter.all false
set_option maxRecDepth 100000
namespace L2
open PySem PySem.Spec PyProof.Rows
noncomputable def seqK (o : Option Out) (G : Ds → Option Out) : Option Out := o.bind fun o => match o with
  | .next ds' => G ds'
  | o => some o
theorem gSeq_eq (G1 G2 : Ds → Option Out) (ds : Ds) : gSeq G1 G2 ds = seqK (G1 ds) G2 := rfl
theorem seqK_next (ds : Ds) (G : Ds → Option Out) : seqK (some (.next ds)) G = G ds := rfl
theorem seqK_ret (pv : PV) (G : Ds → Option Out) : seqK (some (.ret pv)) G = some (.ret pv) := rfl
theorem seqK_brk (ds : Ds) (G : Ds → Option Out) : seqK (some (.brk ds)) G = some (.brk ds) := rfl
theorem seqK_cont (ds : Ds) (G : Ds → Option Out) : seqK (some (.cont ds)) G = some (.cont ds) := rfl
theorem asB_bool (b : Bool) : asB (.bool b) = some b := rfl
theorem asI_int (i : Int) : asI (.int i) = some i := rfl
theorem seqOf_list (l : List PyData) : seqOf (.list l) = some l := rfl
theorem seqOf_tup (l : List PyData) : seqOf (.tuple l) = some l := rfl
theorem outV_ret (pv : PV) : outV (.ret pv) = some pv := rfl
theorem outV_next (ds : Ds) : outV (.next ds) = some (.dat .none) := rfl
noncomputable def letK (o : Option PV) (i : Nat) (ds : Ds) : Option Out := o.bind fun pv => some (.next (ds.set i (some (.dat pv.d))))
theorem gSetD_eq (i : Nat) (F : Ds → Option PV) (ds : Ds) : gSetD i F ds = letK (F ds) i ds := rfl
theorem letK_some (pv : PV) (i : Nat) (ds : Ds) : letK (some pv) i ds = some (.next (ds.set i (some (.dat pv.d)))) := rfl
noncomputable def letP (o : Option PV) (i : Nat) (ds : Ds) : Option Out := o.bind fun pv => some (.next (ds.set i (some pv)))
theorem gSet_eq (i : Nat) (F : Ds → Option PV) (ds : Ds) : gSet i F ds = letP (F ds) i ds := rfl
theorem letP_some (pv : PV) (i : Nat) (ds : Ds) : letP (some pv) i ds = some (.next (ds.set i (some pv))) := rfl
noncomputable def appK (o : Option PV) (i : Nat) (ds : Ds) : Option Out := o.bind fun pv => match ds[i]? with
  | some (some (.own l)) => if l.length < 1000000 then some (.next (ds.set i (some (.own (l ++ [pv.d]))))) else none
  | _ => none
theorem gApp_eq (i : Nat) (F : Ds → Option PV) (ds : Ds) : gApp i F ds = appK (F ds) i ds := rfl
theorem appK_some {i : Nat} {ds : Ds} {l : List PyData} (pv : PV) (h : ds[i]? = some (some (.own l))) (hl : l.length < 1000000) : appK (some pv) i ds = some (.next (ds.set i (some (.own (l ++ [pv.d]))))) := by
  unfold appK
  simp only [Option.bind_some, h]
  rw [if_pos hl]
noncomputable abbrev iD (n : Int) : Option PV := some (.dat (.int n))
theorem atI_0 {α : Type} (x : α) (l : List α) : atI (x :: l) 0 = some x := by
  unfold atI ixN
  rw [if_pos (by decide), if_pos (by simp)]
  rfl
theorem atI_lit {α : Type} {l : List α} {i : Int} {n : Nat} (hi : i = (n : Int)) (h : n < l.length) : atI l i = l[n]? := by
  subst hi
  unfold atI ixN
  rw [if_pos (by omega), if_pos (by omega)]
  simp
theorem atI_1 {α : Type} (x y : α) (l : List α) : atI (x :: y :: l) 1 = some y := atI_lit (n := 1) rfl (by simp)
theorem atI_2 {α : Type} (x y z : α) (l : List α) : atI (x :: y :: z :: l) 2 = some z := atI_lit (n := 2) rfl (by simp)
theorem atI_3 {α : Type} (x y z u : α) (l : List α) : atI (x :: y :: z :: u :: l) 3 = some u := atI_lit (n := 3) rfl (by simp)
theorem atI_4 {α : Type} (x y z u v : α) (l : List α) : atI (x :: y :: z :: u :: v :: l) 4 = some v := atI_lit (n := 4) rfl (by simp)
theorem atI_5 {α : Type} (x y z u v w : α) (l : List α) : atI (x :: y :: z :: u :: v :: w :: l) 5 = some w := atI_lit (n := 5) rfl (by simp)
theorem atI_6 {α : Type} (x y z u v w a : α) (l : List α) : atI (x :: y :: z :: u :: v :: w :: a :: l) 6 = some a := atI_lit (n := 6) rfl (by simp)
theorem atI_ok {α : Type} {l : List α} {i : Int} (h0 : 0 ≤ i) (h : i < l.length) : atI l i = some (l[i.toNat]'(by omega)) := by
  rw [atI_lit (n := i.toNat) (by omega) (by omega)]
  exact List.getElem?_eq_getElem _
theorem addD_int (i j : Int) : addD (.int i) (.int j) = some (.dat (.int (i + j))) := rfl
theorem subD_int (i j : Int) : subD (.int i) (.int j) = some (.dat (.int (i - j))) := rfl
theorem mulD_int {i j : Int} (h : Bt 60000 i) (k : Bt 60000 j) : mulD (.int i) (.int j) = some (.dat (.int (i * j))) := by
  unfold mulD iicD
  simp only []
  rw [if_pos ⟨h, k⟩]
theorem fdivD_int {i j : Int} (h : j ≠ 0) (k : Bt 8000 j) : fdivD (.int i) (.int j) = some (.dat (.int (i.fdiv j))) := by
  unfold fdivD iicD
  simp only []
  rw [if_pos ⟨h, k⟩]
theorem modD_int {i j : Int} (h : j ≠ 0) : modD (.int i) (.int j) = some (.dat (.int (i.fmod j))) := if_pos h
theorem powD_int {i j : Int} (h : CPow i j) : powD (.int i) (.int j) = some (.dat (.int (i ^ j.toNat))) := if_pos h
theorem shrD_int {i j : Int} (h : 0 ≤ j) : shrD (.int i) (.int j) = some (.dat (.int (i / 2 ^ j.toNat))) := if_pos h
theorem ltD_int (i j : Int) : ltD (.int i) (.int j) = some (.dat (.bool (decide (i < j)))) := rfl
theorem leD_int (i j : Int) : leD (.int i) (.int j) = some (.dat (.bool (decide (i ≤ j)))) := rfl
theorem gtD_int (i j : Int) : gtD (.int i) (.int j) = some (.dat (.bool (decide (j < i)))) := rfl
theorem geD_int (i j : Int) : geD (.int i) (.int j) = some (.dat (.bool (decide (j ≤ i)))) := rfl
theorem eqv_int (i j : Int) : PyData.eqv (.int i) (.int j) = decide (i = j) := by
  simp only [PyData.eqv]
  rw [Bool.eq_iff_iff]
  simp
theorem shaped_int (i : Int) : SeqAt.shaped (.int i) = true := by simp [SeqAt.shaped, PyData.canLay0, PyData.depth]
theorem eqDD_int (i j : Int) : eqDD (.int i) (.int j) = some (.dat (.bool (decide (i = j)))) := by
  show (if SeqAt.shaped (.int i) = true ∧ SeqAt.shaped (.int j) = true then some (PV.dat (.bool (PyData.eqv (.int i) (.int j)))) else none) = _
  rw [if_pos ⟨shaped_int i, shaped_int j⟩, eqv_int]
theorem neDD_int (i j : Int) : neDD (.int i) (.int j) = some (.dat (.bool (!decide (i = j)))) := by
  show (if SeqAt.shaped (.int i) = true ∧ SeqAt.shaped (.int j) = true then some (PV.dat (.bool (!PyData.eqv (.int i) (.int j)))) else none) = _
  rw [if_pos ⟨shaped_int i, shaped_int j⟩, eqv_int]
theorem eqDD_str (i j : Str) : eqDD (.str i) (.str j) = some (.dat (.bool (decide (i = j)))) := by
  rfl
theorem neDD_str (i j : Str) : neDD (.str i) (.str j) = some (.dat (.bool (!decide (i = j)))) := by
  rfl
theorem ixD_tup (l : List PyData) (i : Int) : ixD (.tuple l) (.int i) = (atI l i).bind fun d => some (.dat d) := rfl
theorem ixD_list (l : List PyData) (i : Int) : ixD (.list l) (.int i) = (atI l i).bind fun d => some (.dat d) := rfl
theorem absD_int (i : Int) : absD [.int i] = some (.dat (.int (if i < 0 then -i else i))) := rfl
theorem negD_int (i : Int) : negD (.int i) = some (.dat (.int (-i))) := rfl
theorem lenD_list (l : List PyData) : lenD [.list l] = some (.dat (.int (l.length : Nat))) := rfl
theorem lenD_tup (l : List PyData) : lenD [.tuple l] = some (.dat (.int (l.length : Nat))) := rfl
theorem tupD_list (l : List PyData) : tupD [.list l] = some (.dat (.tuple l)) := rfl
theorem tupD_tup (l : List PyData) : tupD [.tuple l] = some (.dat (.tuple l)) := rfl
theorem listD_list (l : List PyData) : listD [.list l] = some (.own l) := rfl
theorem listD_tup (l : List PyData) : listD [.tuple l] = some (.own l) := rfl
theorem addD_tup {l m : List PyData} (h : l.length + m.length ≤ 1000000) : addD (.tuple l) (.tuple m) = some (.dat (.tuple (l ++ m))) := if_pos h
theorem addD_list {l m : List PyData} (h : l.length + m.length ≤ 1000000) : addD (.list l) (.list m) = some (.own (l ++ m)) := if_pos h
theorem addD_str {l m : Str} (h : l.length + m.length ≤ 1000000) : addD (.str l) (.str m) = some (.dat (.str (l ++ m))) := if_pos h
theorem slD_tup (l : List PyData) (lo hi : Option Int) : slD (.tuple l) lo hi = some (.dat (.tuple (cutD l lo hi))) := rfl
theorem slD_list (l : List PyData) (lo hi : Option Int) : slD (.list l) lo hi = some (.own (cutD l lo hi)) := rfl
theorem isD_none (d : PyData) : isD d .none = some (.dat (.bool (isNoneD d))) := rfl
theorem isNotD_none (d : PyData) : isNotD d .none = some (.dat (.bool (!isNoneD d))) := rfl
theorem rng1_int {j : Int} (h : -(4611686018427387904) ≤ j ∧ j < 4611686018427387904) : rng1 [.int j] = some (rngI 0 j.toNat) := @if_pos _ (Classical.propDecidable _) h _ _ _
/-- a comprehension over a range -/
theorem comp_rng {Fe : Ds → Option PV} {ds : Ds} {f : Nat → PyData} {lo : Int} {n : Nat} (h : ∀ i, i < n → ∃ pv, Fe (some (.dat (.int (lo + (i : Nat)))) :: ds) = some pv ∧ pv.d = f i) : compD gtName bTrue Fe ds (rngI lo n) = some ((List.range n).map f) := by
  unfold rngI
  have key : ∀ (l : List Nat), (∀ i ∈ l, i < n) → compD gtName bTrue Fe ds (l.map fun k => PyData.int (lo + (k : Nat))) = some (l.map f) := by
    intro l
    induction l with
    | nil => intro _; rfl
    | cons i r ih =>
      intro hl
      obtain ⟨pv, h2, h3⟩ := h i (hl i List.mem_cons_self)
      rw [List.map_cons]
      unfold compD
      simp only [gtName, Option.bind_some, bTrue, if_true, dats_cons, dats_nil, List.cons_append, List.nil_append]
      rw [h2]
      simp only [Option.bind_some]
      rw [ih (fun j hj => hl j (List.mem_cons_of_mem _ hj))]
      simp [h3]
  exact key _ (fun i hi => List.mem_range.mp hi)
/-- a for over a range, by what holds between two turns -/
theorem forD_rng {gt : PyData → Ds → Option Ds} {G : Ds → Option Out} {lo : Int} {n : Nat} (I : Nat → Ds → Prop) {ds : Ds} (h0 : I 0 ds) (hs : ∀ i ds, i < n → I i ds → ∃ ds1 ds2, gt (.int (lo + (i : Nat))) ds = some ds1 ∧ (G ds1 = some (.next ds2) ∨ G ds1 = some (.cont ds2)) ∧ I (i + 1) ds2) : ∃ ds', forD gt G (rngI lo n) ds = some (.next ds') ∧ I n ds' := by
  have key : ∀ (k i : Nat) (ds : Ds), i + k = n → I i ds → ∃ ds', forD gt G ((List.range' i k).map fun k => PyData.int (lo + (k : Nat))) ds = some (.next ds') ∧ I n ds' := by
    intro k
    induction k with
    | zero =>
      intro i ds e hi
      have h2 : i = n := by omega
      subst h2
      exact ⟨ds, rfl, hi⟩
    | succ k ih =>
      intro i ds e hi
      obtain ⟨ds1, ds2, e1, e2, e3⟩ := hs i ds (by omega) hi
      rw [List.range'_succ, List.map_cons]
      unfold forD
      rw [e1]
      simp only [Option.bind_some]
      obtain ⟨ds', e4, e5⟩ := ih (i + 1) ds2 (by omega) e3
      refine ⟨ds', ?_, e5⟩
      rcases e2 with e2 | e2 <;> rw [e2] <;> exact e4
  obtain ⟨ds', h1, h2⟩ := key n 0 ds (by omega) h0
  refine ⟨ds', ?_, h2⟩
  unfold rngI
  rw [List.range_eq_range']
  exact h1
/-- a for over any items -/
theorem forD_all {gt : PyData → Ds → Option Ds} {G : Ds → Option Out} {items : List PyData} (I : Nat → Ds → Prop) {ds : Ds} (h0 : I 0 ds) (hs : ∀ i d ds, items[i]? = some d → I i ds → ∃ ds1 ds2, gt d ds = some ds1 ∧ (G ds1 = some (.next ds2) ∨ G ds1 = some (.cont ds2)) ∧ I (i + 1) ds2) : ∃ ds', forD gt G items ds = some (.next ds') ∧ I items.length ds' := by
  have key : ∀ (r : List PyData) (i : Nat) (ds : Ds), items.drop i = r → i ≤ items.length → I i ds → ∃ ds', forD gt G r ds = some (.next ds') ∧ I items.length ds' := by
    intro r
    induction r with
    | nil =>
      intro i ds e hl hi
      have h1 := List.drop_eq_nil_iff.mp e
      have h2 : i = items.length := by omega
      subst h2
      exact ⟨ds, rfl, hi⟩
    | cons x r ih =>
      intro i ds e hl hi
      have hlt : i < items.length := by
        by_cases c : i < items.length
        · exact c
        · rw [List.drop_eq_nil_of_le (by omega)] at e; cases e
      rw [List.drop_eq_getElem_cons hlt] at e
      injection e with ea eb
      obtain ⟨ds1, ds2, e1, e2, e3⟩ := hs i x ds (by rw [List.getElem?_eq_getElem hlt, ea]) hi
      unfold forD
      rw [e1]
      simp only [Option.bind_some]
      obtain ⟨ds', e4, e5⟩ := ih (i + 1) ds2 eb (by omega) e3
      refine ⟨ds', ?_, e5⟩
      rcases e2 with e2 | e2 <;> rw [e2] <;> exact e4
  exact key items 0 ds (by simp) (Nat.zero_le _) h0
theorem whileD_false {Fc : Ds → Option Bool} {G : Ds → Option Out} {n : Nat} {ds : Ds} (h : Fc ds = some false) : whileD Fc G (n + 1) ds = some (.next ds) := by
  unfold whileD
  rw [h]
  rfl
theorem whileD_step {Fc : Ds → Option Bool} {G : Ds → Option Out} {n : Nat} {ds ds2 : Ds} (h : Fc ds = some true) (k : G ds = some (.next ds2)) : whileD Fc G (n + 1) ds = whileD Fc G n ds2 := by
  rw [whileD, h]
  simp only [Option.bind_some, if_true]
  rw [k]
  rfl
/-- a while, by what holds between two turns and a number that falls -/
theorem whileD_by {Fc : Ds → Option Bool} {G : Ds → Option Out} (I : Ds → Prop) (μ : Ds → Nat) (hs : ∀ ds, I ds → Fc ds = some false ∨ (Fc ds = some true ∧ ∃ ds2, G ds = some (.next ds2) ∧ I ds2 ∧ μ ds2 < μ ds)) :
    ∀ (n : Nat) (ds : Ds), I ds → μ ds < n → ∃ ds', whileD Fc G n ds = some (.next ds') ∧ I ds' ∧ Fc ds' = some false := by
  intro n
  induction n with
  | zero => intro ds _ h; omega
  | succ n ih =>
    intro ds hi hm
    rcases hs ds hi with h | ⟨h, ds2, k, i2, m2⟩
    · exact ⟨ds, whileD_false h, hi, h⟩
    · obtain ⟨ds', e, r⟩ := ih ds2 i2 (by omega)
      exact ⟨ds', by rw [whileD_step h k]; exact e, r⟩
theorem Bt.le {m : Nat} {i : Int} (h1 : -(2 ^ m : Nat) < i) (h2 : i < (2 ^ m : Nat)) : Bt m i := ⟨by omega⟩
theorem Bt.s62 {m : Nat} {i : Int} (h1 : -4611686018427387904 < i) (h2 : i < 4611686018427387904) (hm : 62 ≤ m := by decide) : Bt m i := (Bt.small (by omega) (by omega)).mono hm
theorem Bt.lit {m : Nat} {i : Int} (h1 : -4611686018427387904 < i := by decide) (h2 : i < 4611686018427387904 := by decide) (hm : 62 ≤ m := by decide) : Bt m i := Bt.s62 h1 h2 hm
end L2

set_option Elab.async false
set_option linter.all false
set_option maxRecDepth 100000
namespace L2
open PySem PySem.Spec PyProof.Rows
/-- o.m() of the own list in slot i, whose reading changes it by f -/
noncomputable def gMut0 (i : Nat) (f : List PyData → List PyData) : Ds → Option Out := fun ds => match ds[i]? with
  | some (some (.own l)) => some (.next (ds.set i (some (.own (f l)))))
  | _ => none
section
variable {X : Cx} {e o : Expr} {te : TE} {F : Ds → Option PV} {pos cpos apos : Pos}
/-- xs.extend(a new list) -/
noncomputable def gExt (i : Nat) (F : Ds → Option PV) : Ds → Option Out := fun ds => (F ds).bind fun pv => match pv, ds[i]? with
  | .own m, some (some (.own l)) => if l.length + m.length ≤ 1000000 then some (.next (ds.set i (some (.own (l ++ m))))) else none
  | _, _ => none
theorem psx_ext (i : Nat) (ho : PE X o (tVar i)) (he : PX X true e te F) (hst : starEach [e] X.env = (false, eval e X.env) :: starEach [] X.env := by rfl)
    (hbase : attributeBase o "extend" X.env (eval o X.env) = eval o X.env := by rfl)
    (hfew : ((backTo cpos (starEach [e] X.env)).all (fun x => !x.1) && (backToKw cpos (keywordEach [] X.env)).all (fun x => x.1.isSome)
      && decide ([e].length + ([] : List Keyword).length + (if ([] : List Keyword).isEmpty then 0 else 1) < 30)) = true := by rfl)
    (hline : (apos.endLine == cpos.line) = true := by rfl) (hplain : (backTo cpos (starEach [] X.env)).any (·.1) = false := by rfl)
    (hs : swapsWith (.Call (.Attribute o "extend" apos) [e] [] cpos) none pos.line X.env = pure false := by rfl) :
    PSX X (.Expr (.Call (.Attribute o "extend" apos) [e] [] cpos) pos) (tDrop (tBM X.K "list" rExtend (tVar i) (tCons te tNil))) (gExt i F) :=
  ⟨ps_expr (pe_bm PySem.F.plainAttrs_list PySem.F.slot_list_extend PySem.F.type_list_extend mt_extend ho (pa_cons he.p pa_nil hst) hbase hfew hline hst hplain) hs, by
  intro O H₀ as σ H ds D o S h q
  unfold gExt at h
  cases e1 : F ds with
  | none => rw [e1] at h; cases h
  | some pv =>
    rw [e1] at h
    simp only [Option.bind_some] at h
    split at h
    · rename_i m l hd
      split at h
      · rename_i hl
        cases h
        obtain ⟨a, xs, z1, z2, z3, z4⟩ := S.slot i _ hd
        refine ⟨_, z1, .inl ⟨rfl, xs, SqL.of z3⟩, ?_⟩
        refine he.t O H₀ as σ H ds _ _ S e1 fun v H1 s1 r1 => ?_
        obtain ⟨b, zs, rfl, y1, y2, y3⟩ := r1
        have hx := z4.length
        have hy := y3.length
        refine ⟨a, b, xs, zs, rfl, rfl, s1 _ _ z3, y2, szM (by omega), q as σ _ ?_⟩
        exact (S.grow s1).turn (xs := xs) hd z1 z2 ((z4.same (hid_same s1)).append (y3.same (hid_sub (Same.refl _) fun b z => List.mem_cons_of_mem _ z)))
      · cases h
    · cases h⟩
/-- xs[k] = e -/
noncomputable def gSetI (i : Nat) (Fk Fv : Ds → Option PV) : Ds → Option Out := fun ds => (Fv ds).bind fun pv => (Fk ds).bind fun k => match k.d, ds[i]? with
  | .int k, some (some (.own l)) => (ixN l.length k).bind fun j => some (.next (ds.set i (some (.own (l.set j pv.d)))))
  | _, _ => none
end
end L2

set_option Elab.async false
set_option linter.all false
set_option maxRecDepth 100000
namespace L2
open PySem PySem.Spec PyProof.Rows
/-- x[e] of the list in slot i -/
noncomputable def fIxO (i : Nat) (F : Ds → Option PV) : Ds → Option PV := fun ds => match ds[i]? with
  | some (some pv) => (F ds).bind fun k => ixD pv.d k.d
  | _ => none
/-- list(x) of the list in slot i -/
noncomputable def fListO (i : Nat) : Ds → Option PV := fun ds => match ds[i]? with
  | some (some pv) => listD [pv.d]
  | _ => none
noncomputable def intsOf : List PyData → Option (List Int)
  | [] => some []
  | .int i :: r => (intsOf r).bind fun l => some (i :: l)
  | _ => none
noncomputable def sumD : List PyData → Option PV
  | [.list l] => (intsOf l).bind fun is => some (.dat (.int is.sum))
  | _ => none
noncomputable def enumFrom : Int → List PyData → List PyData
  | _, [] => []
  | k, d :: r => .tuple [.int k, d] :: enumFrom (k + 1) r
noncomputable def enumD : List PyData → Option (List PyData)
  | [d] => (seqOf d).bind fun l => some (enumFrom 0 l)
  | _ => none
theorem chain_if (a b : Prop) [Decidable a] [Decidable b] : (if a then some (PV.dat (.bool (decide b))) else some (PV.dat (.bool false))) = some (PV.dat (.bool (decide (a ∧ b)))) := by
  by_cases h : a
  · rw [if_pos h]; simp [h]
  · rw [if_neg h]; simp [h]
theorem intD_int (i : Int) : intD [.int i] = some (.dat (.int i)) := rfl
theorem intD_bool (b : Bool) : intD [.bool b] = some (.dat (.int (if b = true then 1 else 0))) := rfl
theorem sumD_list (l : List PyData) : sumD [.list l] = (intsOf l).bind fun is => some (.dat (.int is.sum)) := rfl
theorem enumD_seq (d : PyData) : enumD [d] = (seqOf d).bind fun l => some (enumFrom 0 l) := rfl
theorem forD_nil (gt : PyData → Ds → Option Ds) (G : Ds → Option Out) (ds : Ds) : forD gt G [] ds = some (.next ds) := rfl
theorem forD_next {gt : PyData → Ds → Option Ds} {G : Ds → Option Out} {d : PyData} {r : List PyData} {ds ds1 ds2 : Ds} (h1 : gt d ds = some ds1) (h2 : G ds1 = some (.next ds2)) : forD gt G (d :: r) ds = forD gt G r ds2 := by
  rw [forD, h1]
  simp only [Option.bind_some]
  rw [h2]
  rfl
/-- a comprehension over items made by g -/
theorem comp_map {α : Type} {g f : α → PyData} {Fe : Ds → Option PV} {ds : Ds} : ∀ {l : List α}, (∀ x ∈ l, ∃ pv, Fe (some (.dat (g x)) :: ds) = some pv ∧ pv.d = f x) → compD gtName bTrue Fe ds (l.map g) = some (l.map f)
  | [], _ => rfl
  | x :: r, h => by
    obtain ⟨pv, h2, h3⟩ := h x List.mem_cons_self
    rw [List.map_cons]
    unfold compD
    simp only [gtName, Option.bind_some, bTrue, if_true, dats_cons, dats_nil, List.cons_append, List.nil_append]
    rw [h2]
    simp only [Option.bind_some]
    rw [comp_map (fun y hy => h y (List.mem_cons_of_mem _ hy))]
    simp [h3]
section
variable {X : Cx} {fr : Bool} {b o : Expr} {tb : TE} {Fb : Ds → Option PV} {pos p : Pos}
theorem px_ixO (i : Nat) (ho : PE X o (tVar i)) (hb : PX X fr b tb Fb) (hs : PlainIx b := by intro _ _; rfl) : PX X fr (.Subscript o b pos) (tOp (rIx X.K) (tVar i) tb) (fIxO i Fb) := ⟨pe_ix ix_seq ho hb.p hs, by
  intro O H₀ as σ H ds pv Q S hf q
  unfold fIxO at hf
  split at hf
  · rename_i w hd
    cases h1 : Fb ds with
    | none => rw [h1] at hf; cases hf
    | some k =>
      rw [h1] at hf
      simp only [Option.bind_some] at hf
      have sl := S.slot i _ hd
      cases w with
      | dat d =>
        obtain ⟨v, e1, hv⟩ := sl
        refine ⟨v, e1, hb.t O H₀ as σ H ds k _ S h1 fun y H1 s1 r1 => ?_⟩
        exact x_ix O (vis fr as) H1 v y d k.d pv Q (S.grow s1).dm (hv.same (hid_vis.trans (hid_same s1))) (r1.dt S.dm) hf fun u H2 e2 r2 => q u H2 (s1.trans e2) (r2.back s1)
      | own l =>
        obtain ⟨a, xs, e1, e2, e3, hv⟩ := sl
        refine ⟨_, e1, hb.t O H₀ as σ H ds k _ S h1 fun y H1 s1 r1 => ?_⟩
        have dy := r1.dt S.dm
        generalize k.d = kk at hf dy
        cases dy with
        | int j =>
          have hf' : ((L2.atI l j).bind fun d => some (PV.dat d)) = some pv := hf
          cases h2 : L2.atI l j with
          | none => rw [h2] at hf'; cases hf'
          | some d =>
            rw [h2] at hf'
            cases hf'
            obtain ⟨v, h3, h4⟩ := hv.atI h2
            exact .inl ⟨a, xs, j, v, rfl, rfl, SqL.of (s1 _ _ e3), h3, q v H1 s1 (Dt.same (hid_vis.trans (hid_same s1)) h4)⟩
        | _ => cases hf
  · cases hf⟩
/-- a name of the module that is bound to data -/
theorem px_const {x : Str} {u : Value} {v : V} {d : PyData} (hg : Gl X x) (h : X.mg x = some u ∧ RelV v u ∧ ∀ H, Dt X.K H v d) (hd : (x == ("__debug__" : Str)) = false := by decide) : PX X fr (.Name x pos) (tC v) (fC d) :=
  px_c (pe_glob hg h.1 h.2.1 hd) h.2.2
end
/-- a tuple of the module -/
theorem const_tup {K : PySem.W.Frag} {mg : Str → Option Value} {x : Str} {a : Addr} {dd : Option Addr} {its : Array Value} {n : Nat} {sl : Array (Option Value)} {vs : List V} {ds : List PyData} (hm : mg x = some (.ref a)) (hk : K.lookup a = some ⟨.type "tuple", dd, .seq its n, sl⟩) (hz : its.size ≤ 1000) (r : Vals vs its.toList) (hd : ∀ H, Dts K H vs ds) :
    mg x = some (.ref a) ∧ RelV (.ref a) (.ref a) ∧ ∀ H, Dt K H (.ref a) (.tuple ds) := ⟨hm, rfl, fun H => .tup (.inr ⟨_, its, n, hk, rfl, rfl, Nat.le_trans hz (by rw [sizeLine_eq]; decide), r⟩) (hd H)⟩
theorem const_dt {K : PySem.W.Frag} {a : Addr} {dd : Option Addr} {its : Array Value} {n : Nat} {sl : Array (Option Value)} {vs : List V} {ds : List PyData} (hk : K.lookup a = some ⟨.type "tuple", dd, .seq its n, sl⟩) (hz : its.size ≤ 1000) (r : Vals vs its.toList) (hd : ∀ H, Dts K H vs ds) (H : Hp) : Dt K H (.ref a) (.tuple ds) :=
  .tup (.inr ⟨_, its, n, hk, rfl, rfl, Nat.le_trans hz (by rw [sizeLine_eq]; decide), r⟩) (hd H)
theorem Dts.ints {K : PySem.W.Frag} {H : Hp} : ∀ {l : List PyData} {xs : List V} {is : List Int}, Dts K H xs l → intsOf l = some is → xs = is.map V.int
  | [], _, _, .nil, e => by cases e; rfl
  | d :: r, _, is, .cons (x := x) h t, e => by
    cases h with
    | int i =>
      rw [intsOf] at e
      cases h2 : intsOf r with
      | none => rw [h2] at e; cases e
      | some js =>
        rw [h2] at e
        cases e
        rw [Dts.ints t h2]
        rfl
    | _ => cases e
section
variable {X : Cx} {bs nb : List Str} {elt tg iter : Expr} {ifs : List Expr} {scope : Scope} {cpos pos pos' : Pos} {wi : TI} {g : TG} {tt : TT} {te : TE} {Fi : Ds → Option (List PyData)} {gt : PyData → Option (List PyData)} {Fc : Ds → Option Bool} {Fe : Ds → Option PV} {i : Nat} {x : Str}
theorem psx_setCD (hN : X.N.Nodup) (hi' : X.N[i]? = some x) (hx : Loc X.env.scope x) (hc : X.calm = true) (B : BlkOk X bs nb scope) (hi : PIX X true tg iter wi Fi) (go : GOwn bs.length g) (hg : ∀ cl C fp s H pins, PG (blk X bs nb scope cl C fp s H pins) tg g) (hgt : TGB X.K bs.length g gt) (ht : ∀ cl C fp s H pins, PIfsX (blk X bs nb scope cl C fp s H pins) ifs tt Fc) (he : ∀ cl C fp s H pins, PX (blk X bs nb scope cl C fp s H pins) true elt te Fe)
    (hsw : swapsWith (.ListComp elt [⟨tg, iter, ifs, 0⟩] scope cpos) (some (.Name x pos')) pos.line X.env = pure true := by rfl) (hf : X.fn x = true ∨ X.env.scope.names.lookup x = some .local := by first | exact .inl rfl | exact .inr rfl | assumption)
    (hs : ∀ x, foldedSetIterable iter X.env x = pure x := by intro _; rfl) : PSX X (.Assign [.Name x pos'] (.ListComp elt [⟨tg, iter, ifs, 0⟩] scope cpos) pos) (tAsg (tComp bs wi g tt te) (gName i)) (gSetD i (fComp Fi gt Fc Fe)) :=
  ⟨ps_setC hN hi' hx hc B hi.p go hg (fun _ _ _ _ _ _ => (ht _ _ _ _ _ _).p) (fun _ _ _ _ _ _ => (he _ _ _ _ _ _).p) hsw hf hs, by
  have hF := (px_comp (pos := cpos) hc B hi go hg hgt ht he hs).t
  intro O H₀ as σ H ds D o S h q
  unfold gSetD at h
  cases e1 : fComp Fi gt Fc Fe ds with
  | none => rw [e1] at h; cases h
  | some pv =>
    rw [e1] at h
    cases h
    refine hF O H₀ as σ H ds pv _ S e1 fun v H1 s1 r1 => ?_
    exact q _ _ _ ((S.grow s1).set i (r1.dt S.dm))⟩
theorem psx_setCO (hN : X.N.Nodup) (hi' : X.N[i]? = some x) (hx : Loc X.env.scope x) (hc : X.calm = true) (B : BlkOk X bs nb scope) (hi : PIX X true tg iter wi Fi) (go : GOwn bs.length g) (hg : ∀ cl C fp s H pins, PG (blk X bs nb scope cl C fp s H pins) tg g) (hgt : TGB X.K bs.length g gt) (ht : ∀ cl C fp s H pins, PIfsX (blk X bs nb scope cl C fp s H pins) ifs tt Fc) (he : ∀ cl C fp s H pins, PX (blk X bs nb scope cl C fp s H pins) true elt te Fe)
    (hsw : swapsWith (.ListComp elt [⟨tg, iter, ifs, 0⟩] scope cpos) (some (.Name x pos')) pos.line X.env = pure true := by rfl) (hf : X.fn x = true ∨ X.env.scope.names.lookup x = some .local := by first | exact .inl rfl | exact .inr rfl | assumption)
    (hs : ∀ x, foldedSetIterable iter X.env x = pure x := by intro _; rfl) : PSX X (.Assign [.Name x pos'] (.ListComp elt [⟨tg, iter, ifs, 0⟩] scope cpos) pos) (tAsg (tComp bs wi g tt te) (gName i)) (gSet i (fComp Fi gt Fc Fe)) :=
  ⟨ps_setC hN hi' hx hc B hi.p go hg (fun _ _ _ _ _ _ => (ht _ _ _ _ _ _).p) (fun _ _ _ _ _ _ => (he _ _ _ _ _ _).p) hsw hf hs, by
  have hF := (px_comp (pos := cpos) hc B hi go hg hgt ht he hs).t
  intro O H₀ as σ H ds D o S h q
  unfold gSet at h
  cases e1 : fComp Fi gt Fc Fe ds with
  | none => rw [e1] at h; cases h
  | some pv =>
    rw [e1] at h
    cases h
    refine hF O H₀ as σ H ds pv _ S e1 fun v H1 s1 r1 => ?_
    obtain ⟨as', S'⟩ := S.store s1 i r1
    exact q _ _ _ S'⟩
end
end L2

set_option Elab.async false
set_option linter.all false
set_option maxRecDepth 100000
namespace L2
open PySem PySem.Spec PyProof.Rows
mutual
noncomputable def LF : PyData → Bool
  | .none => true
  | .bool _ => true
  | .int _ => true
  | .str _ => true
  | .tuple l => LFs l
  | _ => false
noncomputable def LFs : List PyData → Bool
  | [] => true
  | d :: r => LF d && LFs r
end
theorem seqT_lf {K : PySem.W.Frag} {H H' : Hp} {a : Addr} {xs : List V} (e : ∀ b o, H b = some o → (∀ xs, o ≠ .lst xs) → H' b = some o) (h : SqT K H a xs) : SqT K H' a xs := by
  rcases h with (h | ⟨o, h⟩) | h
  · exact .inl (.inl (e _ _ h (fun _ z => by cases z)))
  · exact .inl (.inr ⟨o, e _ _ h (fun _ z => by cases z)⟩)
  · exact .inr h
mutual
theorem Dt.lf {K : PySem.W.Frag} {H H' : Hp} (e : ∀ b o, H b = some o → (∀ xs, o ≠ .lst xs) → H' b = some o) {x : V} {d : PyData} (h : Dt K H x d) (f : LF d = true) : Dt K H' x d := by
  cases h with
  | non => exact .non
  | bl b => exact .bl b
  | int i => exact .int i
  | str y => exact .str y
  | tup hs ht => exact .tup (seqT_lf e hs) (Dts.lf e ht (by rw [LF] at f; exact f))
  | lst hs ht => simp [LF] at f
  | exc _ _ _ _ _ => simp [LF, excD] at f
theorem Dts.lf {K : PySem.W.Frag} {H H' : Hp} (e : ∀ b o, H b = some o → (∀ xs, o ≠ .lst xs) → H' b = some o) {xs : List V} {ds : List PyData} (h : Dts K H xs ds) (f : LFs ds = true) : Dts K H' xs ds := by
  cases h with
  | nil => exact .nil
  | cons a t =>
    rw [LFs, Bool.and_eq_true] at f
    exact .cons (Dt.lf e a f.1) (Dts.lf e t f.2)
end
noncomputable def Pm (n : Nat) (p : Array Nat) : Prop := p.Perm (List.toArray (List.range n))
theorem Pm.lt {n : Nat} {p : Array Nat} (h : Pm n p) (hn : 0 < n) (i : Nat) : p.getD i 0 < n := by
  by_cases hi : i < p.size
  · have e : p.getD i 0 = p[i] := by simp [Array.getD, hi]
    have m : p[i] ∈ p := Array.getElem_mem hi
    have := h.mem_iff.mp m
    rw [e]
    simpa using this
  · have e : p.getD i 0 = 0 := by simp [Array.getD, hi]
    omega
end L2

set_option Elab.async false
set_option linter.all false
set_option maxRecDepth 100000
namespace L2
open PySem PySem.Spec PyProof.Rows
/-- the addresses hold tuples of these ints -/
noncomputable def TupsI (h : Heap) : List Value → List (List Int) → Prop
  | [], [] => True
  | v :: vs, k :: ks => (∃ a o xs n, v = .ref a ∧ h.get? a = some o ∧ o.cls = .type "tuple" ∧ o.data = .seq xs n ∧ IntsAre xs.toList k) ∧ TupsI h vs ks
  | _, _ => False
theorem TupsI.keeps {h h' : Heap} (kp : ∀ b o, h.get? b = some o → (∃ xs n, o.data = .seq xs n) → h'.get? b = some o) : ∀ {vs : List Value} {ks : List (List Int)}, TupsI h vs ks → TupsI h' vs ks
  | [], [], _ => True.intro
  | _ :: _, _ :: _, ⟨⟨a, o, xs, n, e, ho, hc, hd, hi⟩, t⟩ => ⟨⟨a, o, xs, n, e, kp _ _ ho ⟨_, _, hd⟩, hc, hd, hi⟩, TupsI.keeps kp t⟩
theorem TupsI.len {h : Heap} : ∀ {vs : List Value} {ks : List (List Int)}, TupsI h vs ks → vs.length = ks.length
  | [], [], _ => rfl
  | _ :: vs, _ :: ks, ⟨_, t⟩ => by rw [List.length_cons, List.length_cons, t.len]
theorem TupsI.get {h : Heap} : ∀ {vs : List Value} {ks : List (List Int)} {i : Nat}, TupsI h vs ks → i < ks.length → ∃ a o xs n, vs.getD i .none = .ref a ∧ h.get? a = some o ∧ o.data = .seq xs n ∧ IntsAre xs.toList (ks.getD i [])
  | [], [], _, _, hi => by simp at hi
  | v :: _, k :: _, 0, ⟨⟨a, o, xs, n, e, ho, hc, hd, hi⟩, t⟩, _ => ⟨a, o, xs, n, by simpa using e, ho, hd, by simpa using hi⟩
  | _ :: vs, _ :: ks, i + 1, ⟨_, t⟩, hi => by
    obtain ⟨a, o, xs, n, h1, h2⟩ := TupsI.get (i := i) t (by simpa using hi)
    exact ⟨a, o, xs, n, by simpa using h1, by simpa using h2⟩
section
variable {X : Cx} {pins : List (Addr × Obj)} {σ : St} {H : Hp} {s : Shared}
end
end L2

set_option Elab.async false
set_option linter.all false
set_option maxRecDepth 100000
namespace L2
open PySem PySem.Spec PyProof.Rows
section
variable {X : Cx} {pins : List (Addr × Obj)} {σ : St} {H : Hp} {s : Shared} {h' : Heap}
theorem ObjOk.get {P : Program} {w : World} {H : Hp} {h : Heap} {a : Addr} {o : HO} (x : ObjOk P w H h a o) : ∃ ob, h.get? a = some ob := by
  induction o with
  | lst xs => obtain ⟨_, _, _, _, e⟩ := x; exact ⟨_, e⟩
  | tup xs => obtain ⟨_, _, _, o, e, _⟩ := x; exact ⟨_, e⟩
  | dK kvs => obtain ⟨_, _, _, _, o, _, _, e, _⟩ := x; exact ⟨_, e⟩
  | dT kvs => obtain ⟨_, _, _, _, o, _, _, e, _⟩ := x; exact ⟨_, e⟩
  | set S n => obtain ⟨o, _, _, _, e, _⟩ := x; exact ⟨_, e⟩
  | ins C dx fs => obtain ⟨_, _, _, e, _⟩ := x; exact ⟨_, e⟩
  | own y => exact x
  | xd fs => obtain ⟨_, ⟨o, _, _, e, _⟩, _⟩ := x; exact ⟨_, e⟩
  | met f y => exact ⟨_, x⟩
  | rng lo hi => obtain ⟨_, _, _, e⟩ := x; exact ⟨_, e⟩
  | frz o u ih => exact ⟨_, x.1⟩
  | tbl ps => exact ⟨_, x⟩
  | ext φ => exact x.2.1
end
end L2

set_option Elab.async false
set_option linter.all false
set_option maxRecDepth 100000
namespace L2
open PySem PySem.Spec PyProof.Rows
section
variable {prog : Program} {w : World} {A : Around} {E : Value → Shared → Prop} {s : Shared}
end
noncomputable def keysOf : List PyData → Option (List (List Int))
  | [] => some []
  | .tuple l :: r => (intsOf l).bind fun k => (keysOf r).bind fun ks => some (k :: ks)
  | _ => none
theorem Dts.keys {K : PySem.W.Frag} {H : Hp} : ∀ {l : List PyData} {ys : List V} {ks : List (List Int)}, Dts K H ys l → keysOf l = some ks → ∀ i y, ys[i]? = some y → ∃ a, y = .ref a ∧ SqT K H a ((ks.getD i []).map V.int)
  | [], _, _, .nil, e => by intro i y hy; simp at hy
  | d :: r, _, ks, .cons (x := x) hx ht, e => by
    intro i y hy
    cases hx with
    | tup hs hd =>
      rename_i a xs l
      rw [keysOf] at e
      cases h1 : intsOf l with
      | none => rw [h1] at e; cases e
      | some k =>
        cases h2 : keysOf r with
        | none => rw [h1, h2] at e; cases e
        | some ks' =>
          rw [h1, h2] at e
          cases e
          cases i with
          | zero =>
            simp at hy
            subst hy
            have := hd.ints h1
            subst this
            exact ⟨a, rfl, by simpa using hs⟩
          | succ i =>
            obtain ⟨b, h3, h4⟩ := Dts.keys ht h2 i y (by simpa using hy)
            exact ⟨b, h3, by simpa using h4⟩
    | _ => cases e
end L2

set_option Elab.async false
set_option linter.all false
set_option maxRecDepth 100000
namespace L2
open PySem PySem.Spec PyProof.Rows
theorem meets_enumK (kd : Bool) (l : Addr) (xs : Array Value) :
    Meets (Builtin.«enumerate.__new__» ⟨[.type "enumerate", .ref l], []⟩) (fun _ R s => SeqK kd s.heap l xs ∧
      R (.ok (.ret (.ref (s.heap.push (itO kd l)).objs.size))) { s with heap := (s.heap.push (itO kd l)).push { cls := .type "enumerate", data := .fields #[.none, .bool false, .ref s.heap.objs.size, rawInt 0, .none, .none] } }) :=
  .of_wp fun prog w A R s h => by
    obtain ⟨hp, g, d, tk, os⟩ := s
    obtain ⟨x1, h⟩ := h
    have hsub := sub_enumerate
    have y1 : SeqK kd (Shared.heap ⟨hp, g, d, tk, os⟩) l xs := x1
    wp_walk using iterK y1
    refine wpAny_stack_any fun st => wpAny_pure ?_
    split
    · rename_i c _ _ _ _ _
      cases (c == Value.type "enumerate")
      · wp_walk using iterK y1
        exact ⟨_, rfl, h⟩
      · wp_walk using iterK y1
        exact ⟨_, rfl, h⟩
    · wp_walk using iterK y1
      exact ⟨_, rfl, h⟩
section
variable {prog : Program} {w : World} {A : Around} {E : Value → Shared → Prop} {s : Shared}
theorem call_enumK {kd : Bool} {l : Addr} {xs : Array Value} {Q : Value → Shared → Prop} (x1 : SeqK kd s.heap l xs)
    (h : ∀ h', IsEnum h' (s.heap.objs.size + 1) s.heap.objs.size 0 .none → ItK kd h' s.heap.objs.size l 0 → (∀ b o, s.heap.get? b = some o → h'.get? b = some o) → Q (.ref (s.heap.objs.size + 1)) { s with heap := h' }) :
    wpAny (model prog w) A (call (.type "enumerate") [.ref l]) Q E s := by
  refine callType_new F.called_enumerate (by decide) (F.typeCall_enumerate_1 _) (F.newCall_enumerate_1 _) (fun obj => F.args_object_init_2 obj _) F.entry_enumerate_new (meets_enumK kd l xs) ⟨x1, ?_⟩
  have hz : (s.heap.push (itO kd l)).objs.size = s.heap.objs.size + 1 := Heap.size_push ..
  have f1 : (itO kd l).isFreed = false := by cases kd <;> rfl
  show _ ∧ _
  rw [hz]
  have he : IsEnum ((s.heap.push (itO kd l)).push { cls := .type "enumerate", data := .fields #[.none, .bool false, .ref s.heap.objs.size, rawInt 0, .none, .none] }) (s.heap.objs.size + 1) s.heap.objs.size 0 .none := by
    have := Heap.get?_push_size (s.heap.push (itO kd l)) (o := { cls := .type "enumerate", data := .fields #[.none, .bool false, .ref s.heap.objs.size, rawInt 0, .none, .none] }) rfl
    rw [hz] at this
    exact this
  exact ⟨⟨_, he, rfl⟩, h _ he (.new (Heap.get?_push_of_some _ (Heap.get?_push_size _ f1))) fun b o x => Heap.get?_push_of_some _ (Heap.get?_push_of_some _ x)⟩
end
theorem drawsK {prog : Program} {w : World} {A : Around} {kd : Bool} (hh : A.handled = none) (it l : Addr) (hne : l ≠ it) (xs : Array Value) :
    Draws prog w A it [it, l] xs.size (fun i v => xs[i]? = some v) (fun i h => OfK kd h it l i xs) where
  live := fun i h st => by
    cases kd
    · exact (Draws.list (prog := prog) (w := w) hh it l hne xs).live i h st
    · obtain ⟨o, ho, _⟩ := (show h.IsTupleIter it l i ∧ h.IsTuple l xs from st).1
      exact ⟨o, ho⟩
  frame := fun i h h' st hk => st.kept fun b o hb e => hk b (by rcases hb with rfl | rfl <;> simp) o e
  item := fun i s Q E hi st hQ => by
    refine nextS_item st hne (x := xs[i]) (by simp [hi]) fun h' it' sb => ?_
    refine hQ _ h' s.toks (by simp [hi]) ?_ sb
    have k2 : ∀ o, s.heap.get? l = some o → h'.get? l = some o := fun o e => sb.extBut l o hne e
    cases kd
    · obtain ⟨_, o, eo, r⟩ := (show s.heap.IsListIter it l i ∧ s.heap.IsList l xs from st)
      exact ⟨it', o, k2 o eo, r⟩
    · obtain ⟨_, o, eo, r⟩ := (show s.heap.IsTupleIter it l i ∧ s.heap.IsTuple l xs from st)
      exact ⟨it', o, k2 o eo, r⟩
  done := fun s Q E st hE => nextS_end hh st (by simp) hE
/-- enumerate -/
noncomputable def Ite (kd : Bool) (K : PySem.W.Frag) (a : Addr) : It :=
  ⟨fun i H => ∃ xs x, SqK kd K H a xs ∧ xs[i]? = some x,
   fun i H v H' => ∃ p, v = .ref p ∧ H p = none ∧ ∃ x, H' = upd H p (.tup [.int i, x]) ∧ ∀ xs, SqK kd K H a xs → xs[i]? = some x,
   fun i H => ∃ xs, SqK kd K H a xs ∧ xs.length ≤ i⟩
theorem turn_enum {P : Program} {w : World} {K : PySem.W.Frag} {es : List Expr} {k : Nat} {pos : Pos} {kd : Bool} {e it a : Addr} (hei : e ≠ it) :
    Turn P w K (.Tuple es k pos) (Ite kd K a) [e, it] e (fun i h => (∃ old, IsEnum h e it i old) ∧ ItK kd h it a i) where
  mem := by simp
  obj := fun i h st c hc => by
    have hc' : c = e ∨ c = it := by simpa using hc
    rcases hc' with rfl | rfl
    · obtain ⟨old, q⟩ := st.1
      exact ⟨_, q, fun v z => by cases z⟩
    · exact st.2.obj
  keep := fun i h h' st kk => by
    obtain ⟨old, q⟩ := st.1
    exact ⟨⟨old, kk e (by simp) _ q⟩, st.2.at fun o z => kk it (by simp) o z⟩
  item := by
    intro X hP hw hK hc i pins s σ H E I hf st hg
    subst hP hw hK
    obtain ⟨xs, x, sx, ex⟩ := hg
    obtain ⟨us, rx, ox⟩ := I.sof sx st.2
    obtain ⟨u, hu, ru⟩ := rx.get ex
    obtain ⟨old, he⟩ := st.1
    have fe := hf e (by simp)
    have fi := hf it (by simp)
    have ai : a ≠ it := sx.x.ne I fi
    have ae : a ≠ e := sx.x.ne I fe
    have hlt : i < us.toArray.size := by
      have : i < us.length := by
        by_cases c : i < us.length
        · exact c
        · rw [List.getElem?_eq_none (by omega)] at hu; cases hu
      simpa using this
    have hhd : X.A.in1.handled = none := I.ok.hd hc
    have D : Draws X.prog X.w X.A.in1 it [it, a] us.toArray.size (fun i v => us.toArray[i]? = some v) (fun i h => OfK kd h it a i us.toArray) := drawsK hhd it a ai us.toArray
    refine wpAny_pyNext_enum_itemD D he ox hlt hei (by simp; exact ⟨hei, ae.symm⟩) fun x' h' tk hP ho hs' hT' hsz hk => ?_
    have ux : x' = u := by
      have : us.toArray[i]? = some u := by simpa using hu
      rw [this] at hP
      cases hP
      rfl
    subst ux
    have hT : H s.heap.objs.size = none := I.hok.fresh (Nat.le_refl _)
    have I1 : Inv X pins σ H { s with heap := h', toks := tk + 1 } := I.turnedL (t' := tk + 1) (ch := [e, it]) (fun c o hc z => hk c o (fun q => hc (by simp [q])) (fun q => hc (by simp [q])) z) (fun c hc => hf c (by simpa using hc))
    have hTloc : s.heap.objs.size ≠ X.env.locals := Nat.ne_of_gt I.lt
    have I2 : Inv X pins σ (upd H s.heap.objs.size (.tup [.int i, x])) { s with heap := h', toks := tk + 1 } := I1.track hT hTloc (.inr I.sz)
      (fun n c z q => by
        obtain ⟨vv, q2⟩ := I.cell n c z
        exact absurd q2.lt (by rw [q]; exact Nat.lt_irrefl _))
      (fun p hp q => absurd (Heap.lt_size (I.pin p hp).1) (by rw [q]; exact Nat.lt_irrefl _))
      ⟨by show 2 ≤ sizeLine; rw [sizeLine_eq]; decide, [.int i tk, x'], .cons ⟨_, rfl⟩ (.cons ru .nil), ⟨_, hT', rfl, _, rfl⟩⟩
    refine ⟨_, rfl, wpAny_letOwnedTupleGo_enum ho fun h2 z2 b2 => ?_⟩
    have el : e < s.heap.objs.size := Heap.lt_size he
    have uz : ∀ c, c ∈ [e, it] → (upd H s.heap.objs.size (.tup [.int i, x])) c = none := fun c hc => by
      have hlt : c < s.heap.objs.size := by
        have hc' : c = e ∨ c = it := by simpa using hc
        rcases hc' with rfl | rfl
        · exact el
        · obtain ⟨o, z, _⟩ := st.2.obj; exact Heap.lt_size z
      rw [upd_ne (Nat.ne_of_lt hlt)]
      exact (hf c hc).1
    have I3 : Inv X pins σ (upd H s.heap.objs.size (.tup [.int i, x])) { s with heap := h2, toks := tk + 1 } := Inv.turned (s := { s with heap := h', toks := tk + 1 }) I2 (t' := tk + 1) (it := e) (fun c o hc z => b2.extBut c o hc z) (uz e (by simp)) fe.2.1 fe.2.2.2.1 fe.2.2.2.2.1 fe.2.2.2.2.2
    refine ⟨.ref s.heap.objs.size, _, I3, rfl, ⟨_, rfl, hT, x, rfl, fun xs' hx' => ?_⟩, ⟨⟨_, z2⟩, ?_⟩, uz⟩
    · rw [hx'.inj I sx]
      exact ex
    · have it' : ItK kd h' it a (i + 1) := by
        cases kd
        · exact (show h'.IsListIter it a (i + 1) ∧ _ from hs').1
        · exact (show h'.IsTupleIter it a (i + 1) ∧ _ from hs').1
      exact it'.at fun o q => b2.extBut _ _ hei.symm q
  done := by
    intro X hP hw hK hc i pins s σ H E I hf st hg
    subst hP hw hK
    obtain ⟨xs, sx, hend⟩ := hg
    obtain ⟨us, rx, ox⟩ := I.sof sx st.2
    obtain ⟨old, he⟩ := st.1
    have fi := hf it (by simp)
    have fe := hf e (by simp)
    have ai : a ≠ it := sx.x.ne I fi
    have hhd : X.A.in1.handled = none := I.ok.hd hc
    have lx := rx.length
    have hT : s.TypeIs (.ref e) "enumerate" := ⟨_, he, rfl⟩
    unfold pyNext
    refine wpAny_bind (wpAny_attempt (wpAny_callSpecial?_slot (name := Str.ofString "__next__") hT F.slot_enumerate_next (wpAny_call_entry F.slot_enumerate_next hT F.entry_enumerate_next ?_ (F.args_enumerate_next_1 _))))
    show wpAny _ _ (field (.ref e) 2 >>= _) _ _ _
    refine wpAny_bind (wpAny_field he rfl (x := .ref it) rfl ?_)
    refine wpAny_bind (nextS_end hhd ox (by simp; omega) fun h' x he' hx' => ?_)
    obtain ⟨o, ho, hc'⟩ := hx'
    refine wpAny_bind (wpAny_isInstance (T := "StopIteration") (b := true) ⟨o, ho, hc'⟩ isSubtype_stop ?_)
    refine wpAny_pure ⟨rfl, ?_⟩
    exact I.turnedL (t' := s.toks) (ch := [it]) (fun c o hc z => he' c o (fun q => hc (by simp [q])) z) (fun c hc => hf c (by
      have : c = it := by simpa using hc
      simp [this]))
  self := fun _ _ _ _ _ st h => by
    obtain ⟨old, q⟩ := st.1
    exact wpAny_pyIter_enum q h
section
variable {X : Cx} {fr : Bool} {a : Expr} {ta : TA} {Fl : Ds → Option (List PyData)} {p pos : Pos}
noncomputable def iEnumX (K : PySem.W.Frag) (ta : TA) : TI := fun σ H R => ta σ H fun vs H1 => ∃ a kd, vs = [.ref a] ∧ (∃ xs, SqK kd K H1 a xs) ∧ R (Ite kd K a) H1
theorem boot_enumerate : bootBuiltins "enumerate" = some (.type "enumerate") := by decide +kernel
theorem pi_enumX {es : List Expr} {k : Nat} {tp : Pos} (hg : Gl X "enumerate") (hm : X.mg "enumerate" = none) (ha : PA X [a] ta) (hs : starEach [a] X.env = [(false, eval a X.env)] := by rfl) :
    PI X (.Tuple es k tp) (.Call (.Name "enumerate" p) [a] [] pos) (iEnumX X.K ta) := by
  intro pins s σ H R I h
  refine Call_ (ld_blt I hg hm boot_enumerate (PyProof.Rows.callWith_type1 (thn (ha pos pins s σ H _ I h) fun us s1 ⟨vs, H1, I1, r1, q1⟩ => ?_) (by rw [hs]; rfl) (by rfl)))
  obtain ⟨x, kd, e, ⟨xs, hx⟩, q⟩ := q1
  subst e
  obtain ⟨u, e, r2⟩ := vals1 r1
  subst e
  cases r2
  obtain ⟨us, sx⟩ := I1.seqK hx
  refine call_enumK sx fun h' Z1 Z2 kk => ?_
  refine wpAny_pyIter_enum Z1 ?_
  have I2 : Inv X pins σ H1 { s1 with heap := h' } := I1.kept (t' := s1.toks) kk
  refine ⟨s1.heap.objs.size + 1, _, _, _, H1, rfl, I2, turn_enum (e := s1.heap.objs.size + 1) (it := s1.heap.objs.size) (by show @Ne Nat _ _; omega), ⟨⟨_, Z1⟩, Z2⟩, fun b hb => ?_, q⟩
  have hb' : b = s1.heap.objs.size + 1 ∨ b = s1.heap.objs.size := by simpa using hb
  have hge : s1.heap.objs.size ≤ b := by
    rcases hb' with e | e <;> rw [e]
    · exact Nat.le_add_right _ _
    · exact Nat.le_refl _
  exact I1.fpOk hge (I1.hok.fresh hge)
theorem enum_get : ∀ (l : List PyData) (k : Int) (i : Nat), (enumFrom k l)[i]? = (l[i]?).map fun d => .tuple [.int (k + (i : Nat)), d]
  | [], k, i => by simp [enumFrom]
  | d :: r, k, 0 => by simp [enumFrom]
  | d :: r, k, i + 1 => by
    have := enum_get r (k + 1) i
    simp only [enumFrom, List.getElem?_cons_succ]
    rw [this, show k + 1 + (i : Int) = k + ((i + 1 : Nat) : Int) by omega]
theorem enum_len : ∀ (l : List PyData) (k : Int), (enumFrom k l).length = l.length
  | [], k => rfl
  | d :: r, k => by rw [enumFrom, List.length_cons, enum_len r, List.length_cons]
theorem pix_enum {es : List Expr} {k : Nat} {tp : Pos} (hg : Gl X "enumerate") (hm : X.mg "enumerate" = none) (ha : PAX X fr [a] ta Fl) (hs : starEach [a] X.env = [(false, eval a X.env)] := by rfl) :
    PIX X fr (.Tuple es k tp) (.Call (.Name "enumerate" p) [a] [] pos) (iEnumX X.K ta) (iFn enumD Fl) := ⟨pi_enumX hg hm ha.p hs, by
  intro O H₀ as σ H ds items R S hf q
  unfold iFn at hf
  cases h1 : Fl ds with
  | none => rw [h1] at hf; cases hf
  | some l =>
    rw [h1] at hf
    simp only [Option.bind_some] at hf
    refine ha.t O H₀ as σ H ds l _ S h1 fun vs H1 e1 r1 => ?_
    unfold enumD at hf
    split at hf
    · rename_i d1
      cases hl : seqOf d1 with
      | none => rw [hl] at hf; cases hf
      | some l1 =>
        rw [hl] at hf
        cases hf
        cases r1 with
        | cons r rr =>
          cases rr
          obtain ⟨a, kd, xs, rfl, s1, t1⟩ := r.seqK hl
          refine ⟨a, kd, rfl, ⟨xs, hid_all.seqK s1⟩, q _ H1 e1 fun H' e' i => ?_⟩
          have s1' : SqK kd X.K H' a xs := e'.seqK (hid_O.seqK s1)
          have g1 := t1.length
          rw [enum_len]
          refine ⟨fun hi => ⟨xs, xs[i]'(by omega), s1', List.getElem?_eq_getElem _⟩, fun hi => ⟨xs, s1', by omega⟩, fun x H'' y hi => ?_⟩
          obtain ⟨pp, z1, z2, x', z3, z4⟩ := y
          have z5 := z4 xs s1'
          subst z1
          subst z3
          obtain ⟨dx, ex, hx⟩ := t1.get' z5
          refine ⟨Same.new z2, .tuple [.int (i : Int), dx], by rw [enum_get, ex]; simp, fun vb hv hO => ?_⟩
          refine .tup (SqT.of (hid_some.mpr ⟨fun z => ?_, fun z => ?_, upd_same⟩)) (.cons (.int _) (.cons (it_seq hx e' (Same.new z2) hv) .nil))
          · obtain ⟨o, z⟩ := hO _ z
            rw [e' _ _ z] at z2
            cases z2
          · obtain ⟨_, o, z⟩ := hv _ z
            rw [z] at z2
            cases z2
    · cases hf⟩
end
end L2

set_option Elab.async false
set_option linter.all false
set_option maxRecDepth 100000
namespace L2
open PySem PySem.Spec PyProof.Rows
noncomputable def EndsI (X : Cx) (O : List Addr) (H₀ : Hp) (i : Nat) (a : Addr) (D : Ends) : Out → Prop
  | .next ds => ∀ as σ H, DS X.K O H₀ as σ H ds → σ[i]? = some (some (.ref a)) → D.nx σ H
  | .brk ds => ∀ as σ H, DS X.K O H₀ as σ H ds → σ[i]? = some (some (.ref a)) → D.bk σ H
  | .cont ds => ∀ as σ H, DS X.K O H₀ as σ H ds → σ[i]? = some (some (.ref a)) → D.ct σ H
  | .ret _ => False
  | .up _ => False
noncomputable def TSI (X : Cx) (i : Nat) (t : TS) (G : Ds → Option Out) : Prop :=
  ∀ (a : Addr) (O : List Addr) (H₀ : Hp) (as : As) (σ : St) (H : Hp) (ds : Ds) (D : Ends) (o : Out), DS X.K O H₀ as σ H ds → σ[i]? = some (some (.ref a)) → G ds = some o → EndsI X O H₀ i a D o → t D σ H
structure PSI (X : Cx) (i : Nat) (st : Stmt) (t : TS) (G : Ds → Option Out) : Prop where
  p : PS X st t
  t : TSI X i t G
structure PSsI (X : Cx) (i : Nat) (st : List Stmt) (t : TS) (G : Ds → Option Out) : Prop where
  p : PSs X st t
  t : TSI X i t G
theorem EndsI.unbase {X : Cx} {O : List Addr} {H₀ Hb : Hp} {i : Nat} {a : Addr} {D : Ends} {o : Out} (h : EndsI X O H₀ i a D o) (e : Same H₀ Hb) (hd : ∀ a ∈ O, ∃ u, H₀ a = some u) : EndsI X O Hb i a D o := by
  cases o with
  | next ds => exact fun as σ H S k => h as σ H (S.unbase e hd) k
  | brk ds => exact fun as σ H S k => h as σ H (S.unbase e hd) k
  | cont ds => exact fun as σ H S k => h as σ H (S.unbase e hd) k
  | ret pv => exact h
  | up x => exact h
section
variable {X : Cx} {i : Nat} {st : Stmt} {rest sa sb : List Stmt} {t u : TS} {G G1 G2 : Ds → Option Out} {fr : Bool} {e c : Expr} {te : TE} {tt : TT} {F : Ds → Option PV} {Ft : Ds → Option Bool} {pos : Pos}
theorem pssi_nil : PSsI X i [] tNext gNext := ⟨pss_nil, by
  intro a O H₀ as σ H ds D o S k hf q
  cases hf
  exact q as σ H S k⟩
theorem pssi_one (h : PSI X i st t G) : PSsI X i [st] t G := ⟨pss_one h.p, h.t⟩
theorem pssi_cons (h1 : PSI X i st t G1) (h2 : PSsI X i rest u G2) : PSsI X i (st :: rest) (tSeq t u) (gSeq G1 G2) := ⟨pss_cons h1.p h2.p, by
  intro a O H₀ as σ H ds D o S k hf q
  unfold gSeq at hf
  cases e1 : G1 ds with
  | none => rw [e1] at hf; cases hf
  | some o1 =>
    rw [e1] at hf
    simp only [Option.bind_some] at hf
    refine h1.t a O H₀ as σ H ds { D with nx := u D } o1 S k e1 ?_
    cases o1 with
    | next ds1 => exact fun as' σ' H' S' k' => h2.t a O H₀ as' σ' H' ds1 D o S' k' hf q
    | ret pv => cases hf; exact q
    | brk ds1 => cases hf; exact q
    | cont ds1 => cases hf; exact q
    | up x => cases hf; exact q⟩
theorem psi_set {j : Nat} {x : Str} {pos' : Pos} (hN : X.N.Nodup) (hi : X.N[j]? = some x) (hx : Loc X.env.scope x) (he : PX X true e te F) (hij : j ≠ i := by decide) (hs : swapsWith e (some (.Name x pos')) pos.line X.env = pure false := by rfl) (hf : X.fn x = true ∨ X.env.scope.names.lookup x = some .local := by first | exact .inl rfl | exact .inr rfl | assumption) :
    PSI X i (.Assign [.Name x pos'] e pos) (tAsg te (gName j)) (gSet j F) := ⟨ps_set hN hi hx he.p hs hf, by
  intro a O H₀ as σ H ds D o S k h q
  unfold gSet at h
  cases e1 : F ds with
  | none => rw [e1] at h; cases h
  | some pv =>
    rw [e1] at h
    cases h
    refine he.t O H₀ as σ H ds pv _ S e1 fun v H1 s1 r1 => ?_
    obtain ⟨as', S'⟩ := S.store s1 j r1
    exact q as' _ _ S' (by rw [List.getElem?_set_ne hij]; exact k)⟩
theorem psi_setD {j : Nat} {x : Str} {pos' : Pos} (hN : X.N.Nodup) (hi : X.N[j]? = some x) (hx : Loc X.env.scope x) (he : PX X true e te F) (hij : j ≠ i := by decide) (hs : swapsWith e (some (.Name x pos')) pos.line X.env = pure false := by rfl) (hf : X.fn x = true ∨ X.env.scope.names.lookup x = some .local := by first | exact .inl rfl | exact .inr rfl | assumption) :
    PSI X i (.Assign [.Name x pos'] e pos) (tAsg te (gName j)) (gSetD j F) := ⟨ps_set hN hi hx he.p hs hf, by
  intro a O H₀ as σ H ds D o S k h q
  unfold gSetD at h
  cases e1 : F ds with
  | none => rw [e1] at h; cases h
  | some pv =>
    rw [e1] at h
    cases h
    refine he.t O H₀ as σ H ds pv _ S e1 fun v H1 s1 r1 => ?_
    exact q _ _ _ ((S.grow s1).set j (r1.dt S.dm)) (by rw [List.getElem?_set_ne hij]; exact k)⟩
theorem psi_if (hc : PTX X c tt Ft) (ha : PSsI X i sa t G1) (hb : PSsI X i sb u G2) : PSI X i (.If c sa sb pos) (tIfS tt t u) (gIf Ft G1 G2) := ⟨ps_if hc.p ha.p hb.p, by
  intro a O H₀ as σ H ds D o S k h q
  unfold gIf at h
  cases e1 : Ft ds with
  | none => rw [e1] at h; cases h
  | some b =>
    rw [e1] at h
    simp only [Option.bind_some] at h
    refine hc.t O H₀ as σ H ds b _ S e1 fun H1 s1 => ?_
    cases b with
    | true => exact ha.t a O H₀ as σ H1 ds D o (S.grow s1) k h q
    | false => exact hb.t a O H₀ as σ H1 ds D o (S.grow s1) k h q⟩
end
section
variable {X : Cx} {i : Nat} {e o : Expr} {te : TE} {F : Ds → Option PV} {pos cpos apos : Pos}
theorem psi_app (j : Nat) (ho : PE X o (tVar j)) (he : PX X true e te F) (hst : starEach [e] X.env = (false, eval e X.env) :: starEach [] X.env := by rfl)
    (hbase : attributeBase o "append" X.env (eval o X.env) = eval o X.env := by rfl)
    (hfew : ((backTo cpos (starEach [e] X.env)).all (fun x => !x.1) && (backToKw cpos (keywordEach [] X.env)).all (fun x => x.1.isSome)
      && decide ([e].length + ([] : List Keyword).length + (if ([] : List Keyword).isEmpty then 0 else 1) < 30)) = true := by rfl)
    (hline : (apos.endLine == cpos.line) = true := by rfl) (hplain : (backTo cpos (starEach [] X.env)).any (·.1) = false := by rfl)
    (hs : swapsWith (.Call (.Attribute o "append" apos) [e] [] cpos) none pos.line X.env = pure false := by rfl) :
    PSI X i (.Expr (.Call (.Attribute o "append" apos) [e] [] cpos) pos) (tDrop (tBM X.K "list" rAppend (tVar j) (tCons te tNil))) (gApp j F) :=
  ⟨(psx_app j ho he hst hbase hfew hline hplain hs).p, by
  intro a O H₀ as σ H ds D o S k h q
  unfold gApp at h
  cases e1 : F ds with
  | none => rw [e1] at h; cases h
  | some pv =>
    rw [e1] at h
    simp only [Option.bind_some] at h
    split at h
    · rename_i l hd
      split at h
      · rename_i hl
        cases h
        obtain ⟨a', xs, z1, z2, z3, z4⟩ := S.slot j _ hd
        refine ⟨_, z1, .inl ⟨rfl, xs, SqL.of z3⟩, ?_⟩
        refine he.t O H₀ as σ H ds pv _ S e1 fun v H1 s1 r1 => ?_
        have hx := z4.length
        refine ⟨a', xs, v, rfl, rfl, s1 _ _ z3, Nat.lt_of_lt_of_le (by omega) (szM (Nat.le_refl _)), q as σ _ ?_ k⟩
        exact (S.grow s1).turn (xs := xs) hd z1 z2 ((z4.same (hid_same s1)).append (.cons (r1.dt S.dm) .nil))
      · cases h
    · cases h⟩
theorem psi_setI {k : Expr} {tk : TE} {Fk : Ds → Option PV} (m : Nat) {ipos : Pos} (ho : PE X o (tVar m)) (hk : PX X true k tk Fk) (he : PX X true e te F)
    (ha : ∀ v, assign (.Subscript o k ipos) X.env v = (do
      let ov ← holding [v] (eval o X.env)
      let iv ← holding [v, ov] (eval k X.env)
      standAt ipos
      holding [v, ov, iv] (setItem ov iv v)
      release [v, ov, iv] []) := by intro _; rfl)
    (hs : swapsWithSole [.Subscript o k ipos] e pos.line X.env = pure false := by rfl) (hw : swappedStores [.Subscript o k ipos] e X.env = pure none := by rfl)
    (h1 : (assignEach [.Subscript o k ipos] X.env).map (·.2) = [assign (.Subscript o k ipos) X.env] := by rfl) :
    PSI X i (.Assign [.Subscript o k ipos] e pos) (tAsg te (gSub (tVar m) tk rSetL)) (gSetI m Fk F) := ⟨ps_asg he.p (pg_sub ho hk.p set_list ha) hs hw h1, by
  intro a O H₀ as σ H ds D o S kp h q
  unfold gSetI at h
  cases e1 : F ds with
  | none => rw [e1] at h; cases h
  | some pv =>
    cases e2 : Fk ds with
    | none => rw [e1, e2] at h; cases h
    | some kv =>
      rw [e1, e2] at h
      simp only [Option.bind_some] at h
      split at h
      · rename_i kk l hkk hd
        cases e3 : ixN l.length kk with
        | none => rw [e3] at h; cases h
        | some j =>
          rw [e3] at h
          cases h
          refine he.t O H₀ as σ H ds pv _ S e1 fun v H1 s1 r1 => ?_
          have S1 := S.grow s1
          obtain ⟨a', xs, z1, z2, z3, z4⟩ := S1.slot m _ hd
          refine ⟨_, z1, ?_⟩
          refine hk.t O H₀ as σ H1 ds kv _ S1 e2 fun w H2 s2 r2 => ?_
          have dk := r2.dt S1.dm
          rw [hkk] at dk
          cases dk
          have dv := (r1.grow s2).dt S.dm
          refine ⟨a', xs, kk, j, rfl, rfl, s2 _ _ z3, by rw [z4.length]; exact e3, q as σ _ ?_ kp⟩
          exact (S1.grow s2).turn (xs := xs) hd z1 z2 ((z4.same (hid_same s2)).set j dv)
      · cases h⟩
end
section
variable {X : Cx} {i j : Nat} {tg iter : Expr} {body : List Stmt} {wi : TI} {tb : TS} {pos : Pos} {Fi : Ds → Option (List PyData)} {G : Ds → Option Out}
theorem psi_for (hp : PassesOwn (model X.prog X.w) X.A X.env X.xe) (hc : X.calm = true) (hi : PIX X true tg iter wi Fi) (hg : PG X tg (gName j)) (hb : PSsI X i body tb G) (hij : j ≠ i := by decide)
    (hs : ∀ x, foldedSetIterable iter X.env x = pure x := by intro _; rfl) : PSI X i (.For tg iter body [] pos) (tFor wi (gName j) tb) (gFor Fi (sName j) G) := ⟨ps_for hp hc hi.p hg hb.p hs, by
  intro a O H₀ as σ H ds D o S k h q
  unfold gFor at h
  cases e1 : Fi ds with
  | none => rw [e1] at h; cases h
  | some items =>
    rw [e1] at h
    simp only [Option.bind_some] at h
    refine hi.t O H₀ as σ H ds items _ S e1 fun J H1 s1 it => ?_
    have S1 := S.grow s1
    have it' : ItOk X.K O (hid H1 as []) J items := it
    have Sb := S1.rebase
    have eb := S1.toBase
    have qb := q.unbase (Hb := hid H1 as []) eb S.dom
    refine ⟨fun n m σ' H' => n ≤ items.length ∧ m = items.length - n ∧ ∃ as' ds', DS X.K O (hid H1 as []) as' σ' H' ds' ∧ σ'[i]? = some (some (.ref a)) ∧ forD (sName j) G (items.drop n) ds' = some o, ⟨_, Nat.zero_le _, rfl, as, ds, Sb, k, h⟩, ?_⟩
    rintro n m σ2 H2 ⟨hi', em, as2, ds2, S2, k2, f2⟩
    obtain ⟨go', st', yl'⟩ := it' H2 S2.same n
    by_cases hlt : n < items.length
    · have ed' : items.drop n = items[n] :: items.drop (n + 1) := List.drop_eq_getElem_cons hlt
      rw [ed'] at f2
      unfold forD at f2
      have e3 : sName j items[n] ds2 = some (ds2.set j (some (.dat items[n]))) := rfl
      rw [e3] at f2
      simp only [Option.bind_some] at f2
      cases e4 : G (ds2.set j (some (.dat items[n]))) with
      | none => rw [e4] at f2; cases f2
      | some o4 =>
        rw [e4] at f2
        simp only [Option.bind_some] at f2
        refine .inr ⟨go' hlt, fun σ' H' => ∃ as' ds', DS X.K O (hid H1 as []) as' σ' H' ds' ∧ σ'[i]? = some (some (.ref a)) ∧ forD (sName j) G (items.drop (n + 1)) ds' = some o, fun σ' H' z => ⟨items.length - (n + 1), by omega, hlt, rfl, z⟩, fun x H' y => ?_⟩
        obtain ⟨e5, d, ed, dt⟩ := yl' x H' y hlt
        have edd : items[n] = d := by
          rw [List.getElem?_eq_getElem hlt] at ed
          exact Option.some.inj ed
        have S3 := S2.grow e5
        have dx : Dt X.K (hid H' as2 O) x d := dt as2 (fun b hb => ⟨(S2.new b hb).1, let ⟨_, z⟩ := (S2.new b hb).2; ⟨_, z⟩⟩) S2.dom
        rw [edd] at e4
        refine hb.t a O _ _ _ H' _ _ o4 (S3.set j dx) (by rw [List.getElem?_set_ne hij]; exact k2) e4 ?_
        cases o4 with
        | next ds5 => exact fun as5 σ5 H5 S5 k5 => ⟨as5, ds5, S5, k5, f2⟩
        | cont ds5 => exact fun as5 σ5 H5 S5 k5 => ⟨as5, ds5, S5, k5, f2⟩
        | brk ds5 => cases f2; exact fun as5 σ5 H5 S5 k5 => qb as5 σ5 H5 S5 k5
        | ret pv => cases f2; exact qb
        | up x => cases f2; exact qb
    · have hi2 : n = items.length := by omega
      subst hi2
      rw [List.drop_length] at f2
      cases f2
      exact .inl ⟨st' (Nat.le_refl _), qb as2 σ2 H2 S2 k2⟩⟩
end
noncomputable abbrev IOF := Ds → Option (PyData × List PyData)
noncomputable def TIO (X : Cx) (i : Nat) (t : TS) (G : IOF) : Prop :=
  ∀ (a : Addr) (O : List Addr) (H₀ : Hp) (as : As) (σ : St) (H : Hp) (ds : Ds) (D : Ends) (d : PyData) (l : List PyData), DS X.K O H₀ as σ H ds → σ[i]? = some (some (.ref a)) → G ds = some (d, l) →
    (∀ v H' xs, Same H₀ H' → H' a = some (.lst xs) → Dts X.K (hid H' [some a] O) xs l → Dt X.K (hid H' [some a] O) v d → D.rt v H') → t D σ H
structure PIO (X : Cx) (i : Nat) (st : List Stmt) (t : TS) (G : IOF) : Prop where
  p : PSs X st t
  t : TIO X i t G
noncomputable def ioRet (i : Nat) (F : Ds → Option PV) : IOF := fun ds => match ds[i]? with
  | some (some (.own l)) => (F ds).bind fun pv => some (pv.d, l)
  | _ => none
noncomputable def ioSeq (G1 : Ds → Option Out) (G2 : IOF) : IOF := fun ds => (G1 ds).bind fun o => match o with
  | .next ds' => G2 ds'
  | _ => none
noncomputable def ioFrz (j : Nat) (G : IOF) : IOF := fun ds => G (frz1 j ds)
section
variable {X : Cx} {i : Nat} {st : Stmt} {rest : List Stmt} {t u : TS} {G1 : Ds → Option Out} {G : IOF} {e : Expr} {te : TE} {F : Ds → Option PV} {pos : Pos}
theorem pio_ret (he : PX X true e te F) : PIO X i [.Return (some e) pos] (tRet te) (ioRet i F) := ⟨pss_one (ps_ret he.p), by
  intro a O H₀ as σ H ds D d l S k hf q
  unfold ioRet at hf
  split at hf
  · rename_i l0 hd
    cases e1 : F ds with
    | none => rw [e1] at hf; cases hf
    | some pv =>
      rw [e1] at hf
      cases hf
      obtain ⟨a', xs, z1, z2, z3, z4⟩ := S.slot i _ hd
      rw [k] at z1
      cases z1
      have ha := List.mem_of_getElem? z2
      refine he.t O H₀ as σ H ds pv _ S e1 fun v H1 s1 r1 => ?_
      have sm : Same (hid H1 as O) (hid H1 [some a] O) := hid_sub (Same.refl _) fun b z => by
        have z' : b = a := by simpa using z
        rw [z']; exact ha
      exact q v H1 xs (S.same.trans s1) (s1 _ _ z3) ((z4.same (hid_same s1)).same sm) ((r1.dt S.dm).same sm)
  · cases hf⟩
theorem pio_cons (h1 : PSI X i st t G1) (h2 : PIO X i rest u G) : PIO X i (st :: rest) (tSeq t u) (ioSeq G1 G) := ⟨pss_cons h1.p h2.p, by
  intro a O H₀ as σ H ds D d l S k hf q
  unfold ioSeq at hf
  cases e1 : G1 ds with
  | none => rw [e1] at hf; cases hf
  | some o1 =>
    rw [e1] at hf
    simp only [Option.bind_some] at hf
    refine h1.t a O H₀ as σ H ds { D with nx := u D } o1 S k e1 ?_
    cases o1 with
    | next ds1 => exact fun as' σ' H' S' k' => h2.t a O H₀ as' σ' H' ds1 D d l S' k' hf q
    | _ => cases hf⟩
theorem pio_frz (j : Nat) (h : PIO X i rest u G) : PIO X i rest u (ioFrz j G) := ⟨h.p, by
  intro a O H₀ as σ H ds D d l S k hf q
  obtain ⟨as', S'⟩ := S.frz1 j
  exact h.t a O H₀ as' σ H _ D d l S' k hf q⟩
end
noncomputable def spIO (K : PySem.W.Frag) (i : Nat) (f : List PyData → Option (PyData × List PyData)) : Sp := fun vs H Q _ => ∃ (O : List Addr) (ds : List PyData) (a : Addr) (xs : List V) (l : List PyData) (d : PyData) (l' : List PyData),
  (∀ b ∈ O, ∃ u, H b = some u) ∧ a ∉ O ∧ vs[i]? = some (.ref a) ∧ H a = some (.lst xs) ∧ ds[i]? = some (.list l) ∧ Dts K (hid H [some a] O) (vs.set i .non) (ds.set i .none) ∧ Dts K (hid H [some a] O) xs l ∧ f ds = some (d, l') ∧
  ∀ v H' xs', Same (hid H [some a] []) H' → H' a = some (.lst xs') → Dts K (hid H' [some a] O) xs' l' → Dt K (hid H' [some a] O) v d → Q v H'
noncomputable def fnIO (n N i : Nat) (G : IOF) : List PyData → Option (PyData × List PyData) := fun l => if l.length = n then match l[i]? with
  | some (.list l0) => G ((dats (l.set i .none) ++ List.replicate (N - n) none).set i (some (.own l0)))
  | _ => none
  else none
section
variable {P : Program} {w : World} {K : PySem.W.Frag} {mg : Str → Option Value} {base : Heap}
theorem DS.startIO {O : List Addr} {H : Hp} {vs xs : List V} {ds l : List PyData} {N : List Str} {i : Nat} {a : Addr} (hO : ∀ b ∈ O, ∃ u, H b = some u) (ha : a ∉ O) (hv : vs[i]? = some (.ref a)) (hH : H a = some (.lst xs)) (h : Dts K (hid H [some a] O) (vs.set i .non) (ds.set i .none)) (hx : Dts K (hid H [some a] O) xs l) :
    ∃ as, DS K O (hid H [some a] []) as (L2.start N vs) H ((dats (ds.set i .none) ++ List.replicate (N.length - ds.length) none).set i (some (.own l))) := by
  have hl : vs.length = ds.length := by have := h.length; simpa using this
  have hi : i < vs.length := (List.getElem?_eq_some_iff.mp hv).1
  have hh : hid (hid H [some a] []) [] O = hid H [some a] O := by
    funext b
    unfold hid
    by_cases c1 : b ∈ O
    · rw [if_pos (.inl c1), if_pos (.inl c1)]
    · rw [if_neg (by simp [c1])]
      by_cases c2 : some b ∈ [some a]
      · rw [if_pos (.inr c2), if_pos (.inr c2)]
      · rw [if_neg (by simp only [List.not_mem_nil, false_or]; exact c2), if_neg (fun z => z.elim c1 c2)]
  have h0 : Same (hid H [some a] []) H := hid_all
  have S0 := DS.start (K := K) (O := O) (H := hid H [some a] []) (N := N) (vs := vs.set i .non) (l := ds.set i .none) (fun b hb => by
    obtain ⟨u, z⟩ := hO b hb
    refine ⟨u, hid_some.mpr ⟨by simp, fun q => ?_, z⟩⟩
    have q' : b = a := by simpa using q
    rw [q'] at hb
    exact ha hb) (by rw [hh]; exact h)
  have S1 := S0.grow h0
  rw [List.length_set] at S0 S1
  have na : some a ∉ (List.replicate (dats (ds.set i .none) ++ List.replicate (N.length - ds.length) none).length none : As) := rep_mem
  have S2 := S1.setO (l := l) i (a := a) (xs := xs) (by unfold hid; rw [if_pos (.inr (by simp))]) na hH (fun j pv hj hji => ?_) ?_
  · have e : (L2.start N (vs.set i .non)).set i (some (.ref a)) = L2.start N vs := by
      unfold L2.start
      rw [List.length_set, List.set_append_left _ _ (by simpa using hi)]
      congr 1
      rw [List.map_set, List.set_set]
      refine List.ext_getElem? fun n => ?_
      by_cases c : i = n
      · subst c
        rw [List.getElem?_set_self (by simpa using hi), List.getElem?_map, hv]
        rfl
      · rw [List.getElem?_set_ne c]
    rw [e] at S2
    exact ⟨_, S2⟩
  · have sl := S0.slot j pv hj
    have sm : Same (hid (hid H [some a] []) (List.replicate (dats (ds.set i .none) ++ List.replicate (N.length - ds.length) none).length none) O) (hid H (some a :: List.replicate (dats (ds.set i .none) ++ List.replicate (N.length - ds.length) none).length none) O) := hid_le fun b o z1 z2 z3 => by
      obtain ⟨y1, y2, y3⟩ := hid_some.mp z3
      refine ⟨z1, fun z => ?_, y3⟩
      rcases List.mem_cons.mp z with z | z
      · exact y2 (by rw [z]; simp)
      · exact z2 z
    cases pv with
    | dat d => obtain ⟨v, z1, z⟩ := sl; exact ⟨v, z1, z.same sm⟩
    | own l' => obtain ⟨a', xs', z1, z2, z3, z⟩ := sl; exact ⟨a', xs', z1, z2, h0 _ _ z3, z.same sm⟩
  · refine hx.same (hid_le fun b o z1 z2 z3 => ⟨z1, fun z => ?_, z3⟩)
    rcases List.mem_cons.mp z with z | z
    · exact z2 (by rw [z]; simp)
    · exact rep_mem z
theorem Fun.okIO {x qual : Str} {st : Stmt} {f : Addr} {fd : FuncData} {N ps : List Str} {k i : Nat} {G : IOF} (F : Fun K x qual st f fd) (S : FnScope N ps (defScope st)) (hN : ps.length ≤ N.length)
    (hbody : ∀ (cdv : Value) (A : Around) (outer : List Env) (s : Shared) (H : Hp) (E : XK), Room k (A.deeper (envOfC qual (defScope st) s.heap.objs.size f cdv)) →
      ∃ t, PIO (cxOf CX0 P w K mg base N qual (defScope st) f cdv A outer s H E).nox i (defBody st) t G) : FnOk P w K mg base CX0 (k + 1) f fd ps (spIO K i (fnIO ps.length N.length i G)) := by
  have ln : ∀ vs H Q E, spIO K i (fnIO ps.length N.length i G) vs H Q E → vs.length = ps.length := fun vs H Q E h => by
    obtain ⟨O, ds, a, xs, l, d, l', h1, h2, h3, h4, h5, h6, h7, h8, h9⟩ := h
    unfold fnIO at h8
    split at h8
    · rename_i hl
      have := h6.length
      rw [List.length_set, List.length_set] at this
      omega
    · cases h8
  refine F.ok S ln fun cdv A outer s H vs Q E hr h => ?_
  obtain ⟨O, ds, a, xs, l, d, l', h1, h2, h3, h4, h5, h6, h7, h8, h9⟩ := h
  obtain ⟨t, ht⟩ := hbody cdv A outer s H E hr
  refine ⟨t, ht.p, ?_⟩
  unfold fnIO at h8
  split at h8
  · rename_i hl
    rw [h5] at h8
    simp only [] at h8
    obtain ⟨as, S'⟩ := DS.startIO (N := N) h1 h2 h3 h4 h6 h7
    rw [hl] at S'
    refine ht.t a O _ as _ H _ _ d l' S' ?_ h8 h9
    have hi : i < vs.length := (List.getElem?_eq_some_iff.mp h3).1
    unfold L2.start
    rw [List.getElem?_append_left (by simpa using hi), List.getElem?_map, h3]
    rfl
  · cases h8
end
noncomputable def TAO (K : PySem.W.Frag) (i p : Nat) (t : TA) (Fl : Ds → Option (List PyData)) : Prop :=
  ∀ (O : List Addr) (H₀ : Hp) (as : As) (σ : St) (H : Hp) (ds : Ds) (l : List PyData) (l0 : List PyData) (a : Addr) (Q : List V → Hp → Prop), DS K O H₀ as σ H ds → Fl ds = some l → ds[p]? = some (some (.own l0)) → σ[p]? = some (some (.ref a)) →
    (∀ vs H', Same H H' → vs[i]? = some (.ref a) → l[i]? = some (.list l0) → Dts K (hid H' as O) (vs.set i .non) (l.set i .none) → Q vs H') → t σ H Q
structure PAO (X : Cx) (i m : Nat) (es : List Expr) (t : TA) (Fl : Ds → Option (List PyData)) : Prop where
  p : PA X es t
  t : TAO X.K i m t Fl
section
variable {X : Cx} {i p : Nat} {e : Expr} {es : List Expr} {te : TE} {t : TA} {F : Ds → Option PV} {Fl : Ds → Option (List PyData)} {pos : Pos}
theorem pao_here (p : Nat) (h : PE X e (tVar p)) (ha : PAX X true es t Fl) (hs : starEach (e :: es) X.env = (false, eval e X.env) :: starEach es X.env := by rfl) : PAO X 0 p (e :: es) (tCons (tVar p) t) (aCons (fVarB p) Fl) := ⟨pa_cons h ha.p hs, by
  intro O H₀ as σ H ds l l0 a Q S hf hd hk q
  unfold aCons fVarB at hf
  rw [hd] at hf
  simp only [Option.bind_some] at hf
  cases e1 : Fl ds with
  | none => rw [e1] at hf; cases hf
  | some l1 =>
    rw [e1] at hf
    cases hf
    refine ⟨_, hk, ?_⟩
    refine ha.t O H₀ as σ H ds l1 _ S e1 fun vs H1 s1 r1 => q _ H1 s1 rfl rfl ?_
    exact .cons .non r1⟩
theorem pao_later (he : PX X true e te F) (ha : PAO X i p es t Fl) (hs : starEach (e :: es) X.env = (false, eval e X.env) :: starEach es X.env := by rfl) : PAO X (i + 1) p (e :: es) (tCons te t) (aCons F Fl) := ⟨pa_cons he.p ha.p hs, by
  intro O H₀ as σ H ds l l0 a Q S hf hd hk q
  unfold aCons at hf
  cases e0 : F ds with
  | none => rw [e0] at hf; cases hf
  | some pv =>
    rw [e0] at hf
    simp only [Option.bind_some] at hf
    cases e1 : Fl ds with
    | none => rw [e1] at hf; cases hf
    | some l1 =>
      rw [e1] at hf
      cases hf
      refine he.t O H₀ as σ H ds pv _ S e0 fun v H1 s1 r1 => ?_
      refine ha.t O H₀ as σ H1 ds l1 l0 a _ (S.grow s1) e1 hd hk fun vs H2 s2 z1 z2 r2 => q _ H2 (s1.trans s2) (by simpa using z1) (by simpa using z2) ?_
      exact .cons ((r1.grow s2).dt S.dm) r2⟩
/-- the heap of a caller behind such a call -/
theorem DS.io {K : PySem.W.Frag} {O : List Addr} {H₀ H H' : Hp} {as : As} {σ : St} {ds : Ds} {l l' : List PyData} {xs : List V} {p : Nat} {a : Addr} (S : DS K O H₀ as σ H ds) (hd : ds[p]? = some (some (.own l))) (e1 : σ[p]? = some (some (.ref a))) (e2 : as[p]? = some (some a)) (sm : Same (hid H [some a] []) H') (h1 : H' a = some (.lst xs)) (hv : Dts K (hid H' as O) xs l') :
    DS K O H₀ as σ H' (ds.set p (some (.own l'))) := by
  have ha := List.mem_of_getElem? e2
  have sn : ∀ b o, b ≠ a → H b = some o → H' b = some o := fun b o c z => sm b o (hid_some.mpr ⟨by simp, by simpa using c, z⟩)
  have sq : Same (hid H as O) (hid H' as O) := hid_le fun b o z1 z2 z3 => ⟨z1, z2, sn b o (fun c => z2 (by rw [c]; exact ha)) z3⟩
  have hl : p < ds.length := (List.getElem?_eq_some_iff.mp hd).1
  refine ⟨by simp [S.ls], by simp [S.la], fun b o z => ?_, fun b hb => ⟨(S.new b hb).1, ?_⟩, S.dom, S.inj, fun j pv hj => ?_⟩
  · refine sn b o (fun c => ?_) (S.same _ _ z)
    rw [c, (S.new a ha).1] at z; cases z
  · by_cases z : b = a
    · exact ⟨_, by rw [z]; exact h1⟩
    · obtain ⟨_, o, h⟩ := S.new b hb
      exact ⟨o, sn b _ z h⟩
  · by_cases hij : p = j
    · subst hij
      rw [List.getElem?_set_self hl] at hj
      cases hj
      exact ⟨a, xs, e1, e2, h1, hv⟩
    · rw [List.getElem?_set_ne hij] at hj
      have sl := S.slot j pv hj
      cases pv with
      | dat d => obtain ⟨v, z1, z⟩ := sl; exact ⟨v, z1, z.same sq⟩
      | own l' =>
        obtain ⟨a', xs', z1, z2, z3, z⟩ := sl
        refine ⟨a', xs', z1, z2, sn a' _ (fun c => ?_) z3, z.same sq⟩
        subst c
        exact hij (S.inj p j a' e2 z2)
noncomputable def gCallIO (f : List PyData → Option (PyData × List PyData)) (j p : Nat) (Fl : Ds → Option (List PyData)) : Ds → Option Out := fun ds => match ds[p]? with
  | some (some (.own _)) => (Fl ds).bind fun l => (f l).bind fun r => some (.next ((ds.set p (some (.own r.2))).set j (some (.dat r.1))))
  | _ => none
theorem ts_callIO {E : XK} {f : List PyData → Option (PyData × List PyData)} {j : Nat} (ha : PAO X i p es t Fl) (hjp : j ≠ p) {O : List Addr} {H₀ : Hp} {as : As} {σ : St} {H : Hp} {ds : Ds} {D : Ends} {o : Out} (S : DS X.K O H₀ as σ H ds) (h : gCallIO f j p Fl ds = some o)
    (q : ∃ ds', o = .next ds' ∧ ∀ as' σ' H', DS X.K O H₀ as' σ' H' ds' → (∀ m, m ≠ j → σ'[m]? = σ[m]?) → D.nx σ' H') : tAsg (tCall (spIO X.K i f) [] E t) (gName j) D σ H := by
  unfold gCallIO at h
  split at h
  · rename_i l0 hd
    cases e1 : Fl ds with
    | none => rw [e1] at h; cases h
    | some l =>
      rw [e1] at h
      simp only [Option.bind_some] at h
      cases e2 : f l with
      | none => rw [e2] at h; cases h
      | some r =>
        rw [e2] at h
        simp only [Option.bind_some] at h
        cases h
        obtain ⟨ds', ed, q⟩ := q
        cases ed
        obtain ⟨a, xs, z1, z2, z3, z4⟩ := S.slot p _ hd
        have hm := List.mem_of_getElem? z2
        refine ha.t O H₀ as σ H ds l l0 a _ S e1 hd z1 fun vs H1 s1 y1 y2 r1 => ?_
        have S1 := S.grow s1
        have hh : ∀ H : Hp, hid H [some a] (O ++ (as.filterMap id).filter fun b => decide (b ≠ a)) = hid H as O := fun H => by
          funext b
          unfold hid
          have : (b ∈ O ++ (as.filterMap id).filter (fun b => decide (b ≠ a)) ∨ some b ∈ [some a]) ↔ (b ∈ O ∨ some b ∈ as) := by
            simp only [List.mem_append, List.mem_filter, List.mem_filterMap, id, List.mem_singleton, decide_eq_true_eq]
            constructor
            · rintro ((z | ⟨⟨c, z, e⟩, _⟩) | z)
              · exact .inl z
              · subst e; exact .inr z
              · rw [z]; exact .inr hm
            · rintro (z | z)
              · exact .inl (.inl z)
              · by_cases c : b = a
                · exact .inr (by rw [c])
                · exact .inl (.inr ⟨⟨_, z, rfl⟩, c⟩)
          by_cases c : b ∈ O ∨ some b ∈ as
          · rw [if_pos c, if_pos (this.mpr c)]
          · rw [if_neg c, if_neg (fun z => c (this.mp z))]
        rw [List.append_nil]
        refine ⟨O ++ (as.filterMap id).filter (fun b => decide (b ≠ a)), l, a, xs, l0, r.1, r.2, fun b hb => ?_, fun hb => ?_, y1, s1 _ _ z3, y2, by rw [hh]; exact r1, by rw [hh]; exact z4.same (hid_same s1), e2, fun v H2 xs2 s2 w1 w2 w3 => ?_⟩
        · rcases List.mem_append.mp hb with hb | hb
          · exact (S1.dm (fr := true)).o b hb
          · obtain ⟨c, hc, e⟩ := List.mem_filterMap.mp (List.mem_filter.mp hb).1
            have e' : c = some b := e
            subst e'
            obtain ⟨_, o, z⟩ := S1.new b hc
            exact ⟨_, z⟩
        · rcases List.mem_append.mp hb with hb | hb
          · exact S.nO hm hb
          · have := (List.mem_filter.mp hb).2
            simp at this
        · rw [hh] at w2 w3
          have S2 := S1.io hd z1 z2 s2 w1 w2
          exact q _ _ _ (S2.set j w3) fun m hmj => by rw [List.getElem?_set_ne (fun z => hmj z.symm)]
  · cases h
theorem psx_callIO {CX : CXT} {E : XK} {k j : Nat} {f : Addr} {fd : FuncData} {ps : List Str} {x y : Str} {pn pos' : Pos} {f' : List PyData → Option (PyData × List PyData)} {cpos : Pos} (G : FnOk X.prog X.w X.K X.mg X.base CX k f fd ps (spIO X.K i f')) (hr : Room k X.A) (hg : Gl X x) (hm : X.mg x = some (.ref f)) (hk : PySem.W.keepIn X.K (.ref f) = true) (hb : Binds X.K fd ps []) (hx : Passes CX X E)
    (ha : PAO X i p (e :: es) t Fl) (hN : X.N.Nodup) (hi : X.N[j]? = some y) (hy : Loc X.env.scope y) (hjp : j ≠ p := by decide) (hdb : (x == ("__debug__" : Str)) = false := by decide) (he : starEach (e :: es) X.env = (false, eval e X.env) :: starEach es X.env := by rfl) (hpl : (backTo cpos (starEach es X.env)).any (·.1) = false := by rfl)
    (hs : swapsWith (.Call (.Name x pn) (e :: es) [] cpos) (some (.Name y pos')) pos.line X.env = pure false := by rfl) (hf : X.fn y = true ∨ X.env.scope.names.lookup y = some .local := by first | exact .inl rfl | exact .inr rfl | assumption) :
    PSX X (.Assign [.Name y pos'] (.Call (.Name x pn) (e :: es) [] cpos) pos) (tAsg (tCall (spIO X.K i f') [] E t) (gName j)) (gCallIO f' j p Fl) := ⟨ps_set hN hi hy (pe_call G hr hg hm hk hb .nil hx ha.p hdb he hpl) hs hf, by
  intro O H₀ as σ H ds D o S h q
  refine ts_callIO ha hjp S h ?_
  have h' := h
  unfold gCallIO at h'
  split at h'
  · cases e1 : Fl ds with
    | none => rw [e1] at h'; cases h'
    | some l =>
      rw [e1] at h'
      simp only [Option.bind_some] at h'
      cases e2 : f' l with
      | none => rw [e2] at h'; cases h'
      | some r =>
        rw [e2] at h'
        simp only [Option.bind_some] at h'
        cases h'
        exact ⟨_, rfl, fun as' σ' H' S' _ => q as' σ' H' S'⟩
  · cases h'⟩
theorem psi_callIO {CX : CXT} {E : XK} {k j n : Nat} {f : Addr} {fd : FuncData} {ps : List Str} {x y : Str} {pn pos' : Pos} {f' : List PyData → Option (PyData × List PyData)} {cpos : Pos} (G : FnOk X.prog X.w X.K X.mg X.base CX k f fd ps (spIO X.K i f')) (hr : Room k X.A) (hg : Gl X x) (hm : X.mg x = some (.ref f)) (hk : PySem.W.keepIn X.K (.ref f) = true) (hb : Binds X.K fd ps []) (hx : Passes CX X E)
    (ha : PAO X i p (e :: es) t Fl) (hN : X.N.Nodup) (hi : X.N[j]? = some y) (hy : Loc X.env.scope y) (hjp : j ≠ p := by decide) (hjn : j ≠ n := by decide) (hdb : (x == ("__debug__" : Str)) = false := by decide) (he : starEach (e :: es) X.env = (false, eval e X.env) :: starEach es X.env := by rfl) (hpl : (backTo cpos (starEach es X.env)).any (·.1) = false := by rfl)
    (hs : swapsWith (.Call (.Name x pn) (e :: es) [] cpos) (some (.Name y pos')) pos.line X.env = pure false := by rfl) (hf : X.fn y = true ∨ X.env.scope.names.lookup y = some .local := by first | exact .inl rfl | exact .inr rfl | assumption) :
    PSI X n (.Assign [.Name y pos'] (.Call (.Name x pn) (e :: es) [] cpos) pos) (tAsg (tCall (spIO X.K i f') [] E t) (gName j)) (gCallIO f' j p Fl) := ⟨ps_set hN hi hy (pe_call G hr hg hm hk hb .nil hx ha.p hdb he hpl) hs hf, by
  intro a O H₀ as σ H ds D o S kp h q
  refine ts_callIO ha hjp S h ?_
  have h' := h
  unfold gCallIO at h'
  split at h'
  · cases e1 : Fl ds with
    | none => rw [e1] at h'; cases h'
    | some l =>
      rw [e1] at h'
      simp only [Option.bind_some] at h'
      cases e2 : f' l with
      | none => rw [e2] at h'; cases h'
      | some r =>
        rw [e2] at h'
        simp only [Option.bind_some] at h'
        cases h'
        exact ⟨_, rfl, fun as' σ' H' S' z => q as' σ' H' S' (by rw [z n (fun c => hjn c.symm)]; exact kp)⟩
  · cases h'⟩
theorem psx_callIOK {K' : PySem.W.Frag} {CX : CXT} {E : XK} {k j : Nat} {f : Addr} {fd : FuncData} {ps : List Str} {x y : Str} {pn pos' : Pos} {f' : List PyData → Option (PyData × List PyData)} {cpos : Pos} (eK : X.K = K') (G : FnOk X.prog X.w K' X.mg X.base CX k f fd ps (spIO K' i f')) (hr : Room k X.A) (hg : Gl X x) (hm : X.mg x = some (.ref f)) (hk : PySem.W.keepIn K' (.ref f) = true) (hb : Binds K' fd ps []) (hx : Passes CX X E)
    (ha : PAO X i p (e :: es) t Fl) (hN : X.N.Nodup) (hi : X.N[j]? = some y) (hy : Loc X.env.scope y) (hjp : j ≠ p := by decide) (hdb : (x == ("__debug__" : Str)) = false := by decide) (he : starEach (e :: es) X.env = (false, eval e X.env) :: starEach es X.env := by rfl) (hpl : (backTo cpos (starEach es X.env)).any (·.1) = false := by rfl)
    (hs : swapsWith (.Call (.Name x pn) (e :: es) [] cpos) (some (.Name y pos')) pos.line X.env = pure false := by rfl) (hf : X.fn y = true ∨ X.env.scope.names.lookup y = some .local := by first | exact .inl rfl | exact .inr rfl | assumption) :
    PSX X (.Assign [.Name y pos'] (.Call (.Name x pn) (e :: es) [] cpos) pos) (tAsg (tCall (spIO K' i f') [] E t) (gName j)) (gCallIO f' j p Fl) := by
  subst eK
  exact psx_callIO G hr hg hm hk hb hx ha hN hi hy hjp hdb he hpl hs hf
theorem psi_callIOK {K' : PySem.W.Frag} {CX : CXT} {E : XK} {k j n : Nat} {f : Addr} {fd : FuncData} {ps : List Str} {x y : Str} {pn pos' : Pos} {f' : List PyData → Option (PyData × List PyData)} {cpos : Pos} (eK : X.K = K') (G : FnOk X.prog X.w K' X.mg X.base CX k f fd ps (spIO K' i f')) (hr : Room k X.A) (hg : Gl X x) (hm : X.mg x = some (.ref f)) (hk : PySem.W.keepIn K' (.ref f) = true) (hb : Binds K' fd ps []) (hx : Passes CX X E)
    (ha : PAO X i p (e :: es) t Fl) (hN : X.N.Nodup) (hi : X.N[j]? = some y) (hy : Loc X.env.scope y) (hjp : j ≠ p := by decide) (hjn : j ≠ n := by decide) (hdb : (x == ("__debug__" : Str)) = false := by decide) (he : starEach (e :: es) X.env = (false, eval e X.env) :: starEach es X.env := by rfl) (hpl : (backTo cpos (starEach es X.env)).any (·.1) = false := by rfl)
    (hs : swapsWith (.Call (.Name x pn) (e :: es) [] cpos) (some (.Name y pos')) pos.line X.env = pure false := by rfl) (hf : X.fn y = true ∨ X.env.scope.names.lookup y = some .local := by first | exact .inl rfl | exact .inr rfl | assumption) :
    PSI X n (.Assign [.Name y pos'] (.Call (.Name x pn) (e :: es) [] cpos) pos) (tAsg (tCall (spIO K' i f') [] E t) (gName j)) (gCallIO f' j p Fl) := by
  subst eK
  exact psi_callIO G hr hg hm hk hb hx ha hN hi hy hjp hjn hdb he hpl hs hf
end
end L2

set_option Elab.async false
set_option linter.all false
set_option maxRecDepth 100000
set_option maxHeartbeats 4000000
namespace Law
open PySem L2
noncomputable section
noncomputable abbrev c_FREE : PyData := (.tuple [(.tuple [(.int 0), (.int 1)]), (.tuple [(.int 0), (.int 1)]), (.tuple [(.int 0), (.int 1)])])
noncomputable abbrev c_LACKED : PyData := (.tuple [(.tuple [(.int 1), (.int 1)]), (.tuple [(.int 0), (.int 1)]), (.tuple [(.int 0), (.int 1)])])
noncomputable abbrev c_UNDONE : PyData := (.tuple [(.tuple [(.int 0), (.int 1)]), (.tuple [(.int 1), (.int 1)]), (.tuple [(.int 0), (.int 1)])])
noncomputable def C_common_divisor_0 : Ds → Option Bool := (bVal (fOp neDD (fVar 1) (fC (.int 0))))
noncomputable def B_common_divisor_0 : Ds → Option Out := (gSeq (gSetD 2 (fOp modD (fVar 0) (fVar 1))) (gSeq (gSetD 0 (fVar 1)) (gSetD 1 (fVar 2))))
noncomputable def F_common_divisor : List PyData → Option PV := fnF 2 3 (gSeq (gWhile (muAbs 1) C_common_divisor_0 B_common_divisor_0) (gRetV 0))
noncomputable def F_plus : List PyData → Option PV := fnF 2 5 (gSeq (gSetD 2 (fCall F_common_divisor (aCons (fOp ixD (fVar 0) (fC (.int 1))) (aCons (fOp ixD (fVar 1) (fC (.int 1))) aNil)))) (gSeq (gSetD 3 (fOp addD (fOp mulD (fOp ixD (fVar 0) (fC (.int 0))) (fOp fdivD (fOp ixD (fVar 1) (fC (.int 1))) (fVar 2))) (fOp mulD (fOp ixD (fVar 1) (fC (.int 0))) (fOp fdivD (fOp ixD (fVar 0) (fC (.int 1))) (fVar 2))))) (gSeq (gSetD 4 (fCall F_common_divisor (aCons (fCall absD (aCons (fVar 3) aNil)) (aCons (fVar 2) aNil)))) (gRet (fTup (aCons (fOp fdivD (fVar 3) (fVar 4)) (aCons (fOp mulD (fOp fdivD (fOp ixD (fVar 0) (fC (.int 1))) (fVar 2)) (fOp fdivD (fOp ixD (fVar 1) (fC (.int 1))) (fVar 4))) aNil)))))))
noncomputable def F_times : List PyData → Option PV := fnF 2 5 (gSeq (gSetD 2 (fCall F_common_divisor (aCons (fCall absD (aCons (fOp ixD (fVar 0) (fC (.int 0))) aNil)) (aCons (fOp ixD (fVar 1) (fC (.int 1))) aNil)))) (gSeq (gSetD 3 (fCall F_common_divisor (aCons (fCall absD (aCons (fOp ixD (fVar 1) (fC (.int 0))) aNil)) (aCons (fOp ixD (fVar 0) (fC (.int 1))) aNil)))) (gSeq (gSetD 4 (fOp mulD (fOp fdivD (fOp ixD (fVar 0) (fC (.int 0))) (fVar 2)) (fOp fdivD (fOp ixD (fVar 1) (fC (.int 0))) (fVar 3)))) (gRet (fTup (aCons (fVar 4) (aCons (fOp mulD (fOp fdivD (fOp ixD (fVar 0) (fC (.int 1))) (fVar 3)) (fOp fdivD (fOp ixD (fVar 1) (fC (.int 1))) (fVar 2))) aNil)))))))
noncomputable def F_under : List PyData → Option PV := fnF 2 2 (gRet (fOp ltD (fOp mulD (fOp ixD (fVar 0) (fC (.int 0))) (fOp ixD (fVar 1) (fC (.int 1)))) (fOp mulD (fOp ixD (fVar 1) (fC (.int 0))) (fOp ixD (fVar 0) (fC (.int 1))))))
noncomputable def F_added : List PyData → Option PV := fnF 2 2 (gRet (fTup (aCons (fCall F_plus (aCons (fOp ixD (fVar 0) (fC (.int 0))) (aCons (fOp ixD (fVar 1) (fC (.int 0))) aNil))) (aCons (fCall F_plus (aCons (fOp ixD (fVar 0) (fC (.int 1))) (aCons (fOp ixD (fVar 1) (fC (.int 1))) aNil))) (aCons (fCall F_plus (aCons (fOp ixD (fVar 0) (fC (.int 2))) (aCons (fOp ixD (fVar 1) (fC (.int 2))) aNil))) aNil)))))
noncomputable def F_multiplied : List PyData → Option PV := fnF 2 2 (gRet (fTup (aCons (fCall F_times (aCons (fOp ixD (fVar 0) (fC (.int 0))) (aCons (fVar 1) aNil))) (aCons (fCall F_times (aCons (fOp ixD (fVar 0) (fC (.int 1))) (aCons (fVar 1) aNil))) (aCons (fCall F_times (aCons (fOp ixD (fVar 0) (fC (.int 2))) (aCons (fVar 1) aNil))) aNil)))))
noncomputable def B_ahead_0 : Ds → Option Out := (gIf (bVal (fOp neDD (fVar 2) (fVar 3))) (gRet (fCall F_under (aCons (fVar 2) (aCons (fVar 3) aNil)))) gNext)
noncomputable def F_ahead : List PyData → Option PV := fnF 2 4 (gSeq (gFor (iFn zipD (aCons (fVar 0) (aCons (fVar 1) aNil))) (sTup 2 (sCons 2 (sCons 3 sNil))) B_ahead_0) (gRet (fC (.bool false))))
noncomputable def F_coins : List PyData → Option PV := fnF 1 1 (gRet (fTup (aCons (fTup (aCons (fC (.int 0)) (aCons (fC (.int 1)) aNil))) (aCons (fTup (aCons (fC (.int 0)) (aCons (fC (.int 1)) aNil))) (aCons (fTup (aCons (fVar 0) (aCons (fC (.int 1)) aNil))) aNil)))))
noncomputable def F_less : List PyData → Option PV := fnF 2 2 (gRet (fCall F_added (aCons (fVar 0) (aCons (fCall F_multiplied (aCons (fVar 1) (aCons (fTup (aCons (fUn negD (fC (.int 1))) (aCons (fC (.int 1)) aNil))) aNil))) aNil))))
noncomputable def F_line_rests : List PyData → Option PV := fnF 2 2 (gSeq (gIf (bVal (fOp isD (fVar 0) (fC .none))) (gRet (fLst aNil)) gNext) (gRet (fLst (aCons (fTup (aCons (fCall F_less (aCons (fCall F_coins (aCons (fOp ixD (fVar 0) (fC (.int 0))) aNil)) (aCons (fVar 1) aNil))) (aCons (fOp ixD (fVar 0) (fC (.int 1))) aNil))) (aCons (fTup (aCons (fCall F_less (aCons (fVar 1) (aCons (fCall F_coins (aCons (fOp ixD (fVar 0) (fC (.int 2))) aNil)) aNil))) (aCons (fOp ixD (fVar 0) (fC (.int 3))) aNil))) aNil)))))
noncomputable def F_hour_rests : List PyData → Option PV := fnF 5 5 (gRet (fOp addD (fCall F_line_rests (aCons (fOp ixD (fVar 0) (fC (.int 2))) (aCons (fVar 2) aNil))) (fLst (aCons (fTup (aCons (fCall F_less (aCons (fVar 2) (aCons (fCall F_multiplied (aCons (fVar 3) (aCons (fOp ixD (fVar 1) (fC (.int 4))) aNil))) aNil))) (aCons (fOp ixD (fVar 1) (fC (.int 2))) aNil))) (aCons (fTup (aCons (fCall F_less (aCons (fVar 3) (aCons (fCall F_multiplied (aCons (fVar 2) (aCons (fOp ixD (fVar 1) (fC (.int 5))) aNil))) aNil))) (aCons (fOp ixD (fVar 1) (fC (.int 3))) aNil))) (aCons (fTup (aCons (fCall F_less (aCons (fC c_LACKED) (aCons (fVar 2) aNil))) (aCons (fOp ixD (fVar 0) (fC (.int 1))) aNil))) (aCons (fTup (aCons (fCall F_less (aCons (fVar 3) (aCons (fVar 4) aNil))) (aCons (fOp ixD (fVar 1) (fC (.int 0))) aNil))) aNil)))))))
noncomputable def E_work_rests_0 : Ds → Option PV := (fTup (aCons (fCall F_less (aCons (fVar 0) (aCons (fVar 3) aNil))) (aCons (fOp ixD (fVar 1) (fC (.int 4))) aNil)))
noncomputable def F_work_rests : List PyData → Option PV := fnF 3 4 (gSeq (gSetD 3 (fComp (iSq (fSl slD (fVar 1) (oSome (fOp ixD (fVar 0) (fC (.int 2)))) (oSome (fOp addD (fOp ixD (fVar 0) (fC (.int 3))) (fC (.int 1)))))) gtName bTrue E_work_rests_0)) (gRet (fOp addD (fVar 3) (fLst (aCons (fTup (aCons (fCall F_less (aCons (fC c_UNDONE) (aCons (fVar 2) aNil))) (aCons (fOp ixD (fVar 0) (fC (.int 1))) aNil))) aNil)))))
noncomputable def F_stored_of : List PyData → Option PV := fnF 2 2 (gRet (fOp addD (fOp ixD (fVar 1) (fC (.int 1))) (fTup (aCons (fCall F_coins (aCons (fOp ixD (fOp ixD (fVar 0) (fC (.int 1))) (fC (.int 6))) aNil)) aNil))))
noncomputable def B_rests_of_0 : Ds → Option Out := (gExt 3 (fCall F_hour_rests (aCons (fVar 5) (aCons (fOp ixD (fVar 0) (fC (.int 1))) (aCons (fOp ixD (fOp ixD (fVar 1) (fC (.int 0))) (fVar 4)) (aCons (fOp ixD (fVar 2) (fVar 4)) (aCons (fOp ixD (fVar 2) (fOp addD (fVar 4) (fC (.int 1)))) aNil)))))))
noncomputable def B_rests_of_1 : Ds → Option Out := (gExt 3 (fCall F_work_rests (aCons (fVar 6) (aCons (fOp ixD (fVar 1) (fC (.int 0))) (aCons (fVar 7) aNil)))))
noncomputable def F_rests_of : List PyData → Option PV := fnF 2 8 (gSeq (gSetD 2 (fCall F_stored_of (aCons (fVar 0) (aCons (fVar 1) aNil)))) (gSeq (gSet 3 (fLst aNil)) (gSeq (gFor (iFn enumD (aCons (fOp ixD (fVar 0) (fC (.int 0))) aNil)) (sTup 2 (sCons 4 (sCons 5 sNil))) B_rests_of_0) (gSeq (gFor (iFn zipD (aCons (fOp ixD (fVar 0) (fC (.int 2))) (aCons (fOp ixD (fVar 1) (fC (.int 2))) aNil))) (sTup 2 (sCons 6 (sCons 7 sNil))) B_rests_of_1) (gRetV 3)))))
noncomputable def B_worth_of_0 : Ds → Option Out := (gSetD 2 (fCall F_added (aCons (fVar 2) (aCons (fCall F_multiplied (aCons (fVar 4) (aCons (fTup (aCons (fOp subD (fOp ixD (fVar 3) (fC (.int 1))) (fOp ixD (fVar 3) (fC (.int 0)))) (aCons (fC (.int 1)) aNil))) aNil))) aNil))))
noncomputable def B_worth_of_1 : Ds → Option Out := (gSetD 2 (fCall F_added (aCons (fVar 2) (aCons (fCall F_multiplied (aCons (fVar 6) (aCons (fTup (aCons (fOp ixD (fVar 5) (fC (.int 1))) (aCons (fC (.int 1)) aNil))) aNil))) aNil))))
noncomputable def F_worth_of : List PyData → Option PV := fnF 2 7 (gSeq (gSetD 2 (fCall F_multiplied (aCons (fOp ixD (fCall F_stored_of (aCons (fVar 0) (aCons (fVar 1) aNil))) (fC (.int 0))) (aCons (fTup (aCons (fUn negD (fOp ixD (fOp ixD (fVar 0) (fC (.int 1))) (fC (.int 1)))) (aCons (fC (.int 1)) aNil))) aNil)))) (gSeq (gFor (iFn zipD (aCons (fOp ixD (fVar 0) (fC (.int 0))) (aCons (fOp ixD (fVar 1) (fC (.int 0))) aNil))) (sTup 2 (sCons 3 (sCons 4 sNil))) B_worth_of_0) (gSeq (gFor (iFn zipD (aCons (fOp ixD (fVar 0) (fC (.int 2))) (aCons (fOp ixD (fVar 1) (fC (.int 2))) aNil))) (sTup 2 (sCons 5 (sCons 6 sNil))) B_worth_of_1) (gRetV 2))))
noncomputable def B_floor_of_0 : Ds → Option Out := (gIf (bVal (fCall F_ahead (aCons (fVar 3) (aCons (fC c_FREE) aNil)))) gNever gNext)
noncomputable def B_floor_of_1 : Ds → Option Out := (gIf (bVal (fCall F_ahead (aCons (fVar 5) (aCons (fC c_FREE) aNil)))) (gSetD 4 (fCall F_added (aCons (fVar 4) (aCons (fCall F_multiplied (aCons (fVar 5) (aCons (fTup (aCons (fVar 6) (aCons (fC (.int 1)) aNil))) aNil))) aNil)))) gNext)
noncomputable def F_floor_of : List PyData → Option PV := fnF 2 7 (gSeq (gFor (iFn enumD (aCons (fOp ixD (fVar 1) (fC (.int 0))) aNil)) (sTup 2 (sCons 2 (sCons 3 sNil))) B_floor_of_0) (gSeq (gSetD 4 (fCall F_worth_of (aCons (fVar 0) (aCons (fVar 1) aNil)))) (gSeq (gFor (iSq (fCall F_rests_of (aCons (fVar 0) (aCons (fVar 1) aNil)))) (sTup 2 (sCons 5 (sCons 6 sNil))) B_floor_of_1) (gRetV 4))))
noncomputable def F_l_draw : List PyData → Option PV := fnF 3 5 (gSeq (gSetD 3 (fC (.int 0))) (gSeq (gIf (bVal (fOp gtD (fCall lenD (aCons (fVar 0) aNil)) (fC (.int 0)))) (gSeq (gSetD 3 (fOp ixD (fVar 0) (fOp modD (fVar 1) (fCall lenD (aCons (fVar 0) aNil))))) (gIf (bVal (fOp eqDD (fOp modD (fOp ixD (fVar 0) (fC (.int 0))) (fC (.int 2))) (fC (.int 1)))) (gRet (fOp modD (fOp modD (fOp shrD (fOp fdivD (fVar 3) (fC (.int 2))) (fOp mulD (fC (.int 32)) (fOp fdivD (fVar 1) (fCall lenD (aCons (fVar 0) aNil))))) (fOp powD (fC (.int 2)) (fC (.int 32)))) (fVar 2))) gNext)) gNext) (gSeq (gSetD 4 (fOp modD (fOp mulD (fOp addD (fOp modD (fVar 3) (fC (.int 1000003))) (fC (.int 1))) (fOp addD (fOp addD (fOp mulD (fVar 1) (fVar 1)) (fVar 1)) (fC (.int 41)))) (fC (.int 999983)))) (gRet (fOp modD (fOp fdivD (fOp modD (fOp mulD (fOp modD (fOp mulD (fVar 4) (fOp addD (fVar 4) (fC (.int 7919)))) (fC (.int 2147483647))) (fC (.int 69621))) (fC (.int 2147483629))) (fC (.int 11))) (fVar 2))))))
noncomputable def C_l_norm_0 : Ds → Option Bool := (bVal (fOp gtD (fVar 3) (fC (.int 0))))
noncomputable def B_l_norm_0 : Ds → Option Out := (gSeq (gSetD 4 (fOp modD (fVar 2) (fVar 3))) (gSeq (gSetD 2 (fVar 3)) (gSetD 3 (fVar 4))))
noncomputable def F_l_norm : List PyData → Option PV := fnF 2 5 (gSeq (gSetD 2 (fCall absD (aCons (fVar 0) aNil))) (gSeq (gSetD 3 (fVar 1)) (gSeq (gWhile (muAbs 3) C_l_norm_0 B_l_norm_0) (gRet (fTup (aCons (fOp fdivD (fVar 0) (fVar 2)) (aCons (fOp fdivD (fVar 1) (fVar 2)) aNil)))))))
noncomputable def F_l_sum : List PyData → Option PV := fnF 2 2 (gRet (fCall F_l_norm (aCons (fOp addD (fOp mulD (fOp ixD (fVar 0) (fC (.int 0))) (fOp ixD (fVar 1) (fC (.int 1)))) (fOp mulD (fOp ixD (fVar 1) (fC (.int 0))) (fOp ixD (fVar 0) (fC (.int 1))))) (aCons (fOp mulD (fOp ixD (fVar 0) (fC (.int 1))) (fOp ixD (fVar 1) (fC (.int 1)))) aNil))))
noncomputable def F_l_times : List PyData → Option PV := fnF 2 2 (gRet (fCall F_l_norm (aCons (fOp mulD (fOp ixD (fVar 0) (fC (.int 0))) (fOp ixD (fVar 1) (fC (.int 0)))) (aCons (fOp mulD (fOp ixD (fVar 0) (fC (.int 1))) (fOp ixD (fVar 1) (fC (.int 1)))) aNil))))
noncomputable def E_l_more_0 : Ds → Option PV := (fCall F_l_sum (aCons (fOp ixD (fVar 1) (fVar 0)) (aCons (fCall F_l_times (aCons (fOp ixD (fVar 2) (fVar 0)) (aCons (fVar 3) aNil))) aNil)))
noncomputable def F_l_more : List PyData → Option PV := fnF 3 3 (gRet (fCall tupD (aCons (fComp (iFn rng1 (aCons (fC (.int 3)) aNil)) gtName bTrue E_l_more_0) aNil)))
noncomputable def F_l_below : List PyData → Option PV := fnF 2 2 (gRet (fOp ltD (fOp mulD (fOp ixD (fVar 0) (fC (.int 0))) (fOp ixD (fVar 1) (fC (.int 1)))) (fOp mulD (fOp ixD (fVar 1) (fC (.int 0))) (fOp ixD (fVar 0) (fC (.int 1))))))
noncomputable def B_l_cheaper_0 : Ds → Option Out := (gIf (bVal (fOp neDD (fOp ixD (fVar 0) (fVar 2)) (fOp ixD (fVar 1) (fVar 2)))) (gRet (fCall F_l_below (aCons (fOp ixD (fVar 0) (fVar 2)) (aCons (fOp ixD (fVar 1) (fVar 2)) aNil)))) gNext)
noncomputable def F_l_cheaper : List PyData → Option PV := fnF 2 3 (gSeq (gFor (iFn rng1 (aCons (fC (.int 3)) aNil)) (sName 2) B_l_cheaper_0) (gRet (fC (.bool false))))
noncomputable def F_l_negative : List PyData → Option PV := fnF 1 1 (gRet (fTup (aCons (fOp subD (fC (.int 0)) (fOp ixD (fVar 0) (fC (.int 0)))) (aCons (fOp ixD (fVar 0) (fC (.int 1))) aNil))))
noncomputable def F_l_number : List PyData → Option PV := fnF 3 4 (gSeq (gSetD 3 (fOp ixD (fLst (aCons (fC (.int 1)) (aCons (fC (.int 1)) (aCons (fC (.int 1)) (aCons (fC (.int 1)) (aCons (fC (.int 1)) (aCons (fC (.int 1000)) aNil))))))) (fCall F_l_draw (aCons (fVar 0) (aCons (fC (.int 1)) (aCons (fC (.int 6)) aNil)))))) (gSeq (gIf (bVal (fOp eqDD (fCall F_l_draw (aCons (fVar 0) (aCons (fOp addD (fVar 1) (fC (.int 2900))) (aCons (fC (.int 8)) aNil)))) (fC (.int 0)))) (gSetD 3 (fC (.int 83333))) gNext) (gRet (fOp mulD (fVar 3) (fCall F_l_draw (aCons (fVar 0) (aCons (fVar 1) (aCons (fOp addD (fVar 2) (fC (.int 1))) aNil))))))))
noncomputable def F_l_share : List PyData → Option PV := fnF 2 4 (gSeq (gSet 2 (fLst (aCons (fTup (aCons (fC (.int 1)) (aCons (fC (.int 1)) aNil))) (aCons (fTup (aCons (fC (.int 1)) (aCons (fC (.int 2)) aNil))) (aCons (fTup (aCons (fC (.int 9)) (aCons (fC (.int 10)) aNil))) (aCons (fTup (aCons (fC (.int 2)) (aCons (fC (.int 3)) aNil))) aNil)))))) (gSeq (gSetD 3 (fOp addD (fC (.int 1)) (fCall F_l_draw (aCons (fVar 0) (aCons (fOp addD (fVar 1) (fC (.int 1))) (aCons (fC (.int 12)) aNil)))))) (gSeq (gApp 2 (fCall F_l_norm (aCons (fOp addD (fC (.int 1)) (fCall F_l_draw (aCons (fVar 0) (aCons (fOp addD (fVar 1) (fC (.int 2))) (aCons (fVar 3) aNil))))) (aCons (fVar 3) aNil)))) (gRet (fIxO 2 (fCall F_l_draw (aCons (fVar 0) (aCons (fVar 1) (aCons (fC (.int 5)) aNil)))))))))
noncomputable def B_l_house_0 : Ds → Option Out := (gSeq (gSetD 4 (fOp addD (fC (.int 100)) (fOp mulD (fC (.int 20)) (fVar 3)))) (gSeq (gSetD 5 (fC .none)) (gSeq (gIf (bVal (fOp gtD (fCall F_l_draw (aCons (fVar 0) (aCons (fVar 4) (aCons (fC (.int 4)) aNil)))) (fC (.int 0)))) (gSeq (gSetD 6 (fOp subD (fCall F_l_draw (aCons (fVar 0) (aCons (fOp addD (fVar 4) (fC (.int 1))) (aCons (fC (.int 27)) aNil)))) (fC (.int 6)))) (gSeq (gSetD 7 (fOp subD (fCall F_l_draw (aCons (fVar 0) (aCons (fOp addD (fVar 4) (fC (.int 3))) (aCons (fC (.int 27)) aNil)))) (fC (.int 6)))) (gSeq (gIf (bVal (fOp eqDD (fCall F_l_draw (aCons (fVar 0) (aCons (fOp addD (fVar 4) (fC (.int 7))) (aCons (fC (.int 8)) aNil)))) (fC (.int 0)))) (gSetD 6 (fOp subD (fCall F_l_draw (aCons (fVar 0) (aCons (fOp addD (fVar 4) (fC (.int 8))) (aCons (fOp addD (fOp mulD (fC (.int 2)) (fOp powD (fC (.int 10)) (fC (.int 6)))) (fC (.int 1))) aNil)))) (fOp powD (fC (.int 10)) (fC (.int 6))))) gNext) (gSetD 5 (fTup (aCons (fVar 6) (aCons (fCall F_l_number (aCons (fVar 0) (aCons (fOp addD (fVar 4) (fC (.int 2))) (aCons (fC (.int 12)) aNil)))) (aCons (fVar 7) (aCons (fCall F_l_number (aCons (fVar 0) (aCons (fOp addD (fVar 4) (fC (.int 4))) (aCons (fC (.int 12)) aNil)))) aNil))))))))) gNext) (gApp 2 (fTup (aCons (fCall F_l_number (aCons (fVar 0) (aCons (fOp addD (fVar 4) (fC (.int 5))) (aCons (fC (.int 12)) aNil)))) (aCons (fCall F_l_number (aCons (fVar 0) (aCons (fOp addD (fVar 4) (fC (.int 6))) (aCons (fC (.int 12)) aNil)))) (aCons (fVar 5) aNil))))))))
noncomputable def B_l_house_1 : Ds → Option Out := (gSeq (gSetD 4 (fOp addD (fC (.int 200)) (fOp mulD (fC (.int 10)) (fVar 11)))) (gSeq (gSetD 12 (fCall F_l_draw (aCons (fVar 0) (aCons (fVar 4) (aCons (fVar 1) aNil))))) (gSeq (gSetD 13 (fOp addD (fVar 12) (fCall F_l_draw (aCons (fVar 0) (aCons (fOp addD (fVar 4) (fC (.int 1))) (aCons (fOp subD (fVar 1) (fVar 12)) aNil)))))) (gApp 10 (fTup (aCons (fOp addD (fC (.str "work")) (fOp ixD (fC (.str "ab")) (fVar 11))) (aCons (fCall F_l_number (aCons (fVar 0) (aCons (fOp addD (fVar 4) (fC (.int 2))) (aCons (fC (.int 12)) aNil)))) (aCons (fVar 12) (aCons (fVar 13) (aCons (fCall F_l_number (aCons (fVar 0) (aCons (fOp addD (fVar 4) (fC (.int 3))) (aCons (fC (.int 8)) aNil)))) aNil))))))))))
noncomputable def F_l_house : List PyData → Option PV := fnF 1 14 (gSeq (gSetD 1 (fOp ixD (fLst (aCons (fC (.int 1)) (aCons (fC (.int 2)) (aCons (fC (.int 2)) (aCons (fC (.int 3)) (aCons (fC (.int 3)) (aCons (fC (.int 2)) (aCons (fC (.int 3)) (aCons (fC (.int 4)) aNil))))))))) (fCall F_l_draw (aCons (fVar 0) (aCons (fC (.int 10)) (aCons (fC (.int 8)) aNil)))))) (gSeq (gSet 2 (fLst aNil)) (gSeq (gFor (iFn rng1 (aCons (fVar 1) aNil)) (sName 3) B_l_house_0) (gSeq (gSetD 8 (fCall F_l_number (aCons (fVar 0) (aCons (fC (.int 20)) (aCons (fC (.int 12)) aNil))))) (gSeq (gSetD 9 (fTup (aCons (fVar 8) (aCons (fCall F_l_draw (aCons (fVar 0) (aCons (fC (.int 21)) (aCons (fOp addD (fVar 8) (fC (.int 1))) aNil)))) (aCons (fCall F_l_number (aCons (fVar 0) (aCons (fC (.int 22)) (aCons (fC (.int 8)) aNil)))) (aCons (fCall F_l_number (aCons (fVar 0) (aCons (fC (.int 23)) (aCons (fC (.int 8)) aNil)))) aNil)))))) (gSeq (gSetD 9 (fOp addD (fVar 9) (fTup (aCons (fCall F_l_share (aCons (fVar 0) (aCons (fC (.int 30)) aNil))) (aCons (fCall F_l_share (aCons (fVar 0) (aCons (fC (.int 40)) aNil))) (aCons (fCall F_l_draw (aCons (fVar 0) (aCons (fC (.int 24)) (aCons (fC (.int 13)) aNil)))) aNil)))))) (gSeq (gSet 10 (fLst aNil)) (gSeq (gFor (iFn rng1 (aCons (fOp ixD (fLst (aCons (fC (.int 0)) (aCons (fC (.int 0)) (aCons (fC (.int 1)) (aCons (fC (.int 1)) (aCons (fC (.int 2)) (aCons (fC (.int 2)) aNil))))))) (fCall F_l_draw (aCons (fVar 0) (aCons (fC (.int 11)) (aCons (fC (.int 6)) aNil))))) aNil)) (sName 11) B_l_house_1) (gRet (fFrz (fTup (aCons (fCall tupD (aCons (fVar 2) aNil)) (aCons (fVar 9) (aCons (fCall tupD (aCons (fVar 10) aNil)) aNil))))))))))))))
noncomputable def F_l_line : List PyData → Option PV := fnF 1 1 (gSeq (gIf (bVal (fOp isD (fOp ixD (fVar 0) (fC (.int 2))) (fC .none))) (gRet (fTup (aCons (fC (.int 0)) (aCons (fC (.int 0)) (aCons (fC (.int 0)) (aCons (fC (.int 0)) aNil)))))) gNext) (gRet (fOp ixD (fVar 0) (fC (.int 2)))))
noncomputable def F_l_part : List PyData → Option PV := fnF 2 2 (gRet (fOp ixD (fLst (aCons (fTup (aCons (fC (.int 0)) (aCons (fC (.int 1)) aNil))) (aCons (fTup (aCons (fC (.int 1)) (aCons (fC (.int 1)) aNil))) (aCons (fTup (aCons (fC (.int 1)) (aCons (fC (.int 2)) aNil))) (aCons (fTup (aCons (fC (.int 1)) (aCons (fC (.int 3)) aNil))) (aCons (fTup (aCons (fC (.int 2)) (aCons (fC (.int 5)) aNil))) (aCons (fTup (aCons (fC (.int 1)) (aCons (fC (.int 1)) aNil))) aNil))))))) (fCall F_l_draw (aCons (fVar 0) (aCons (fVar 1) (aCons (fC (.int 6)) aNil))))))
noncomputable def B_l_least_0 : Ds → Option Out := (gIf (bVal (fCall F_l_below (aCons (fVar 2) (aCons (fVar 1) aNil)))) (gSetD 1 (fVar 2)) gNext)
noncomputable def F_l_least : List PyData → Option PV := fnF 1 3 (gSeq (gSetD 1 (fOp ixD (fVar 0) (fC (.int 0)))) (gSeq (gFor (iSq (fVar 0)) (sName 2) B_l_least_0) (gRetV 1)))
noncomputable def B_l_worked_0 : Ds → Option Out := (gSeq (gSetD 8 (fOp ixD (fOp ixD (fVar 1) (fC (.int 2))) (fVar 7))) (gSeq (gSetD 9 (fTup (aCons (fC (.int 0)) (aCons (fC (.int 1)) aNil)))) (gSeq (gIf (bAnd (bVal (fOp leD (fOp ixD (fVar 8) (fC (.int 2))) (fVar 4))) (bVal (fOp leD (fVar 4) (fOp ixD (fVar 8) (fC (.int 3)))))) (gSetD 9 (fCall F_l_times (aCons (fCall F_l_least (aCons (fLst (aCons (fTup (aCons (fOp ixD (fVar 8) (fC (.int 4))) (aCons (fC (.int 1)) aNil))) (aCons (fIxO 2 (fVar 7)) (aCons (fVar 3) aNil)))) aNil)) (aCons (fCall F_l_part (aCons (fVar 0) (aCons (fOp addD (fVar 5) (fVar 7)) aNil))) aNil)))) gNext) (gSeq (gSetI 2 (fVar 7) (fCall F_l_sum (aCons (fIxO 2 (fVar 7)) (aCons (fCall F_l_negative (aCons (fVar 9) aNil)) aNil)))) (gSeq (gSetD 3 (fCall F_l_sum (aCons (fVar 3) (aCons (fCall F_l_negative (aCons (fVar 9) aNil)) aNil)))) (gApp 6 (fVar 9)))))))
noncomputable def F_l_worked : List PyData → Option (PyData × List PyData) := fnIO 6 10 2 (ioSeq (gSet 6 (fLst aNil)) (ioSeq (gFor (iFn rng1 (aCons (fCall lenD (aCons (fOp ixD (fVar 1) (fC (.int 2))) aNil)) aNil)) (sName 7) B_l_worked_0) (ioFrz 6 (ioRet 2 (fTup (aCons (fCall tupD (aCons (fVar 6) aNil)) (aCons (fVar 3) aNil)))))))
noncomputable def F_l_hour_done : List PyData → Option (PyData × List PyData) := fnIO 6 18 4 (ioSeq (gSetD 6 (fOp ixD (fOp ixD (fVar 1) (fC (.int 0))) (fVar 2))) (ioSeq (gSetD 7 (fOp ixD (fVar 1) (fC (.int 1)))) (ioSeq (gSetD 8 (fCall F_l_line (aCons (fVar 6) aNil))) (ioSeq (gSetD 9 (fCall F_l_times (aCons (fTup (aCons (fOp ixD (fVar 8) (fC (.int 1))) (aCons (fC (.int 1)) aNil))) (aCons (fCall F_l_part (aCons (fVar 0) (aCons (fVar 5) aNil))) aNil)))) (ioSeq (gSetD 10 (fCall F_l_times (aCons (fCall F_l_least (aCons (fLst (aCons (fTup (aCons (fOp ixD (fVar 7) (fC (.int 3))) (aCons (fC (.int 1)) aNil))) (aCons (fVar 3) aNil))) aNil)) (aCons (fCall F_l_part (aCons (fVar 0) (aCons (fOp addD (fVar 5) (fC (.int 1))) aNil))) aNil)))) (ioSeq (gSetD 11 (fCall F_l_sum (aCons (fTup (aCons (fOp subD (fOp ixD (fVar 6) (fC (.int 0))) (fOp ixD (fVar 6) (fC (.int 1)))) (aCons (fC (.int 1)) aNil))) (aCons (fCall F_l_sum (aCons (fVar 9) (aCons (fCall F_l_times (aCons (fOp ixD (fVar 7) (fC (.int 5))) (aCons (fVar 10) aNil))) aNil))) aNil)))) (ioSeq (gSetD 12 (fTup (aCons (fC (.int 0)) (aCons (fC (.int 1)) aNil)))) (ioSeq (gIf (bVal (fOp ltD (fOp ixD (fVar 11) (fC (.int 0))) (fC (.int 0)))) (gSetD 12 (fCall F_l_negative (aCons (fVar 11) aNil))) gNext) (ioSeq (gSetD 13 (fCall F_l_sum (aCons (fTup (aCons (fOp ixD (fVar 6) (fC (.int 1))) (aCons (fC (.int 1)) aNil))) (aCons (fCall F_l_negative (aCons (fVar 12) aNil)) aNil)))) (ioSeq (gIf (bVal (fOp eqDD (fCall F_l_draw (aCons (fVar 0) (aCons (fOp addD (fVar 5) (fC (.int 2))) (aCons (fC (.int 4)) aNil)))) (fC (.int 0)))) (gSetD 12 (fCall F_l_sum (aCons (fVar 12) (aCons (fCall F_l_times (aCons (fVar 13) (aCons (fCall F_l_part (aCons (fVar 0) (aCons (fOp addD (fVar 5) (fC (.int 3))) aNil))) aNil))) aNil)))) gNext) (ioSeq (gSetD 11 (fCall F_l_sum (aCons (fVar 11) (aCons (fVar 12) aNil)))) (ioSeq (gCallIO F_l_worked 14 4 (aCons (fVar 0) (aCons (fVar 1) (aCons (fVarB 4) (aCons (fVar 11) (aCons (fVar 2) (aCons (fOp addD (fVar 5) (fC (.int 10))) aNil))))))) (ioSeq (gSetD 11 (fOp ixD (fVar 14) (fC (.int 1)))) (ioSeq (gSetD 15 (fCall F_l_sum (aCons (fTup (aCons (fOp ixD (fVar 7) (fC (.int 0))) (aCons (fC (.int 1)) aNil))) (aCons (fCall F_l_sum (aCons (fVar 10) (aCons (fCall F_l_negative (aCons (fVar 3) aNil)) aNil))) aNil)))) (ioSeq (gSetD 15 (fCall F_l_times (aCons (fVar 15) (aCons (fTup (aCons (fOp ixD (fOp ixD (fVar 7) (fC (.int 4))) (fC (.int 1))) (aCons (fOp ixD (fOp ixD (fVar 7) (fC (.int 4))) (fC (.int 0))) aNil))) aNil)))) (ioSeq (gSetD 16 (fCall F_l_times (aCons (fCall F_l_least (aCons (fLst (aCons (fTup (aCons (fOp ixD (fVar 7) (fC (.int 2))) (aCons (fC (.int 1)) aNil))) (aCons (fVar 15) (aCons (fVar 11) aNil)))) aNil)) (aCons (fCall F_l_part (aCons (fVar 0) (aCons (fOp addD (fVar 5) (fC (.int 4))) aNil))) aNil)))) (ioSeq (gSetD 11 (fCall F_l_sum (aCons (fVar 11) (aCons (fCall F_l_negative (aCons (fVar 16) aNil)) aNil)))) (ioSeq (gSetD 17 (fCall F_l_times (aCons (fCall F_l_least (aCons (fLst (aCons (fTup (aCons (fOp ixD (fVar 8) (fC (.int 3))) (aCons (fC (.int 1)) aNil))) (aCons (fVar 11) aNil))) aNil)) (aCons (fCall F_l_part (aCons (fVar 0) (aCons (fOp addD (fVar 5) (fC (.int 5))) aNil))) aNil)))) (ioSeq (gSetD 3 (fCall F_l_sum (aCons (fCall F_l_sum (aCons (fVar 3) (aCons (fCall F_l_negative (aCons (fVar 10) aNil)) aNil))) (aCons (fCall F_l_times (aCons (fOp ixD (fVar 7) (fC (.int 4))) (aCons (fVar 16) aNil))) aNil)))) (ioRet 4 (fTup (aCons (fTup (aCons (fVar 9) (aCons (fVar 17) (aCons (fVar 16) (aCons (fVar 10) (aCons (fVar 12) (aCons (fOp ixD (fVar 14) (fC (.int 0))) aNil))))))) (aCons (fVar 3) aNil)))))))))))))))))))))))
noncomputable def E_l_plan_0 : Ds → Option PV := (fTup (aCons (fOp ixD (fVar 0) (fC (.int 1))) (aCons (fC (.int 1)) aNil)))
noncomputable def B_l_plan_0 : Ds → Option Out := (gSeq (gCallIO F_l_hour_done 7 4 (aCons (fVar 0) (aCons (fVar 1) (aCons (fVar 6) (aCons (fVar 3) (aCons (fVarB 4) (aCons (fOp addD (fVar 2) (fOp mulD (fC (.int 30)) (fVar 6))) aNil))))))) (gSeq (gApp 5 (fOp ixD (fVar 7) (fC (.int 0)))) (gSetD 3 (fOp ixD (fVar 7) (fC (.int 1))))))
noncomputable def F_l_plan : List PyData → Option PV := fnF 3 8 (gSeq (gSetD 3 (fTup (aCons (fOp ixD (fOp ixD (fVar 1) (fC (.int 1))) (fC (.int 1))) (aCons (fC (.int 1)) aNil)))) (gSeq (gSet 4 (fComp (iSq (fOp ixD (fVar 1) (fC (.int 2)))) gtName bTrue E_l_plan_0)) (gSeq (gSet 5 (fLst aNil)) (gSeq (gFor (iFn rng1 (aCons (fCall lenD (aCons (fOp ixD (fVar 1) (fC (.int 0))) aNil)) aNil)) (sName 6) B_l_plan_0) (gRet (fFrz (fCall tupD (aCons (fVar 5) aNil))))))))
noncomputable def B_l_costs_0 : Ds → Option Out := (gSetD 3 (fCall F_l_sum (aCons (fVar 3) (aCons (fTup (aCons (fOp ixD (fVar 6) (fC (.int 1))) (aCons (fC (.int 1)) aNil))) aNil))))
noncomputable def B_l_costs_1 : Ds → Option Out := (gSetD 3 (fCall F_l_sum (aCons (fVar 3) (aCons (fCall F_l_negative (aCons (fVar 10) aNil)) aNil))))
noncomputable def B_l_costs_2 : Ds → Option Out := (gSeq (gSetD 8 (fOp ixD (fVar 1) (fVar 7))) (gSeq (gSetD 9 (fCall F_l_line (aCons (fOp ixD (fOp ixD (fVar 0) (fC (.int 0))) (fVar 7)) aNil))) (gSeq (gSetD 2 (fCall F_l_sum (aCons (fVar 2) (aCons (fOp ixD (fVar 8) (fC (.int 4))) aNil)))) (gSeq (gSetD 4 (fCall F_l_sum (aCons (fVar 4) (aCons (fCall F_l_times (aCons (fTup (aCons (fOp ixD (fVar 9) (fC (.int 0))) (aCons (fC (.int 1)) aNil))) (aCons (fOp ixD (fVar 8) (fC (.int 0))) aNil))) aNil)))) (gSeq (gSetD 4 (fCall F_l_sum (aCons (fVar 4) (aCons (fCall F_l_times (aCons (fTup (aCons (fOp subD (fC (.int 0)) (fOp ixD (fVar 9) (fC (.int 2)))) (aCons (fC (.int 1)) aNil))) (aCons (fOp ixD (fVar 8) (fC (.int 1))) aNil))) aNil)))) (gSeq (gSetD 5 (fCall F_l_sum (aCons (fVar 5) (aCons (fCall F_l_sum (aCons (fCall F_l_times (aCons (fOp ixD (fOp ixD (fVar 0) (fC (.int 1))) (fC (.int 4))) (aCons (fOp ixD (fVar 8) (fC (.int 2))) aNil))) (aCons (fCall F_l_negative (aCons (fOp ixD (fVar 8) (fC (.int 3))) aNil)) aNil))) aNil)))) (gFor (iSq (fOp ixD (fVar 8) (fC (.int 5)))) (sName 10) B_l_costs_1)))))))
noncomputable def F_l_costs : List PyData → Option PV := fnF 2 11 (gSeq (gSetD 2 (fTup (aCons (fC (.int 0)) (aCons (fC (.int 1)) aNil)))) (gSeq (gSetD 3 (fTup (aCons (fC (.int 0)) (aCons (fC (.int 1)) aNil)))) (gSeq (gSetD 4 (fTup (aCons (fC (.int 0)) (aCons (fC (.int 1)) aNil)))) (gSeq (gSetD 5 (fTup (aCons (fOp ixD (fOp ixD (fVar 0) (fC (.int 1))) (fC (.int 1))) (aCons (fC (.int 1)) aNil)))) (gSeq (gFor (iSq (fOp ixD (fVar 0) (fC (.int 2)))) (sName 6) B_l_costs_0) (gSeq (gFor (iFn rng1 (aCons (fCall lenD (aCons (fVar 1) aNil)) aNil)) (sName 7) B_l_costs_2) (gRet (fTup (aCons (fVar 2) (aCons (fVar 3) (aCons (fCall F_l_sum (aCons (fVar 4) (aCons (fCall F_l_times (aCons (fTup (aCons (fOp subD (fC (.int 0)) (fOp ixD (fOp ixD (fVar 0) (fC (.int 1))) (fC (.int 6)))) (aCons (fC (.int 1)) aNil))) (aCons (fVar 5) aNil))) aNil))) aNil)))))))))))
noncomputable def F_l_value : List PyData → Option PV := fnF 2 3 (gSeq (gSetD 2 (fOp ixD (fLst (aCons (fC (.int 1)) (aCons (fC (.int 1)) (aCons (fC (.int 2)) (aCons (fC (.int 3)) (aCons (fC (.int 10)) aNil)))))) (fCall F_l_draw (aCons (fVar 0) (aCons (fOp addD (fVar 1) (fC (.int 1900))) (aCons (fC (.int 5)) aNil)))))) (gRet (fCall F_l_norm (aCons (fOp subD (fCall F_l_draw (aCons (fVar 0) (aCons (fVar 1) (aCons (fC (.int 41)) aNil)))) (fC (.int 20))) (aCons (fVar 2) aNil)))))
noncomputable def F_l_triple : List PyData → Option PV := fnF 2 4 (gSeq (gSetD 2 (fTup (aCons (fC (.int 0)) (aCons (fC (.int 1)) aNil)))) (gSeq (gSetD 3 (fTup (aCons (fC (.int 0)) (aCons (fC (.int 1)) aNil)))) (gSeq (gIf (bVal (fOp eqDD (fCall F_l_draw (aCons (fVar 0) (aCons (fOp addD (fVar 1) (fC (.int 1))) (aCons (fC (.int 3)) aNil)))) (fC (.int 0)))) (gSetD 2 (fCall F_l_norm (aCons (fOp subD (fCall F_l_draw (aCons (fVar 0) (aCons (fOp addD (fVar 1) (fC (.int 2))) (aCons (fC (.int 5)) aNil)))) (fC (.int 2))) (aCons (fOp addD (fC (.int 1)) (fCall F_l_draw (aCons (fVar 0) (aCons (fOp addD (fVar 1) (fC (.int 3))) (aCons (fC (.int 3)) aNil))))) aNil)))) gNext) (gSeq (gIf (bVal (fOp eqDD (fCall F_l_draw (aCons (fVar 0) (aCons (fOp addD (fVar 1) (fC (.int 4))) (aCons (fC (.int 3)) aNil)))) (fC (.int 0)))) (gSetD 3 (fCall F_l_norm (aCons (fOp subD (fCall F_l_draw (aCons (fVar 0) (aCons (fOp addD (fVar 1) (fC (.int 5))) (aCons (fC (.int 5)) aNil)))) (fC (.int 2))) (aCons (fOp addD (fC (.int 1)) (fCall F_l_draw (aCons (fVar 0) (aCons (fOp addD (fVar 1) (fC (.int 6))) (aCons (fC (.int 3)) aNil))))) aNil)))) gNext) (gRet (fTup (aCons (fVar 2) (aCons (fVar 3) (aCons (fCall F_l_value (aCons (fVar 0) (aCons (fOp addD (fVar 1) (fC (.int 7))) aNil))) aNil)))))))))
noncomputable def B_l_prices_0 : Ds → Option Out := (gSeq (gSetD 6 (fCall F_l_triple (aCons (fVar 0) (aCons (fOp addD (fVar 2) (fOp mulD (fC (.int 10)) (fVar 5))) aNil)))) (gSeq (gIf (bVal (fCall F_l_cheaper (aCons (fVar 6) (aCons (fVar 3) aNil)))) (gSetD 6 (fCall F_l_more (aCons (fVar 3) (aCons (fVar 6) (aCons (fTup (aCons (fUn negD (fC (.int 1))) (aCons (fC (.int 1)) aNil))) aNil))))) gNext) (gSeq (gIf (bVal (fOp eqDD (fCall F_l_draw (aCons (fVar 0) (aCons (fOp addD (fOp addD (fVar 2) (fOp mulD (fC (.int 10)) (fVar 5))) (fC (.int 8))) (aCons (fC (.int 6)) aNil)))) (fC (.int 0)))) (gSetD 6 (fVar 3)) gNext) (gApp 4 (fVar 6)))))
noncomputable def E_l_prices_0 : Ds → Option PV := (fCall F_l_triple (aCons (fVar 1) (aCons (fOp addD (fOp addD (fVar 3) (fC (.int 50))) (fOp mulD (fC (.int 10)) (fVar 0))) aNil)))
noncomputable def E_l_prices_1 : Ds → Option PV := (fCall F_l_triple (aCons (fVar 1) (aCons (fOp addD (fOp addD (fVar 3) (fC (.int 100))) (fOp mulD (fC (.int 10)) (fVar 0))) aNil)))
noncomputable def F_l_prices : List PyData → Option PV := fnF 3 9 (gSeq (gSetD 3 (fTup (aCons (fTup (aCons (fC (.int 0)) (aCons (fC (.int 1)) aNil))) (aCons (fTup (aCons (fC (.int 0)) (aCons (fC (.int 1)) aNil))) (aCons (fTup (aCons (fC (.int 0)) (aCons (fC (.int 1)) aNil))) aNil))))) (gSeq (gSet 4 (fLst aNil)) (gSeq (gFor (iFn rng1 (aCons (fCall lenD (aCons (fOp ixD (fVar 1) (fC (.int 0))) aNil)) aNil)) (sName 5) B_l_prices_0) (gSeq (gSetD 7 (fComp (iFn rng1 (aCons (fCall lenD (aCons (fOp ixD (fVar 1) (fC (.int 0))) aNil)) aNil)) gtName bTrue E_l_prices_0)) (gSeq (gSetD 8 (fComp (iFn rng1 (aCons (fCall lenD (aCons (fOp ixD (fVar 1) (fC (.int 2))) aNil)) aNil)) gtName bTrue E_l_prices_1)) (gRet (fFrz (fTup (aCons (fCall tupD (aCons (fVar 4) aNil)) (aCons (fCall tupD (aCons (fVar 7) aNil)) (aCons (fCall tupD (aCons (fVar 8) aNil)) aNil)))))))))))
noncomputable def E_law_0 : Ds → Option PV := (fCall F_floor_of (aCons (fVar 2) (aCons (fCall F_l_prices (aCons (fVar 1) (aCons (fVar 2) (aCons (fOp addD (fC (.int 300)) (fOp mulD (fC (.int 150)) (fVar 0))) aNil)))) aNil)))
noncomputable def B_law_0 : Ds → Option Out := (gIf (bVal (fCall F_l_cheaper (aCons (fVar 4) (aCons (fVar 5) aNil)))) (gRet (fC (.bool false))) gNext)
noncomputable def B_law_1 : Ds → Option Out := (gSeq (gSetD 4 (fCall F_l_costs (aCons (fVar 1) (aCons (fCall F_l_plan (aCons (fVar 0) (aCons (fVar 1) (aCons (fOp addD (fC (.int 1000)) (fOp mulD (fC (.int 150)) (fVar 3))) aNil)))) aNil)))) (gFor (iSq (fVar 2)) (sName 5) B_law_0))
noncomputable def F_law : List PyData → Option PV := fnF 1 6 (gSeq (gSetD 1 (fCall F_l_house (aCons (fVar 0) aNil))) (gSeq (gSetD 2 (fComp (iFn rng1 (aCons (fC (.int 4)) aNil)) gtName bTrue E_law_0)) (gSeq (gFor (iFn rng1 (aCons (fC (.int 3)) aNil)) (sName 3) B_law_1) (gRet (fC (.bool true))))))
end
end Law

set_option Elab.async false
set_option linter.all false
set_option maxRecDepth 100000
set_option maxHeartbeats 400000
local macro_rules | `(tactic| walk_at "r") => `(tactic| simp only [L2.fnF, L2.gSeq_eq, L2.seqK_next, L2.seqK_ret, L2.seqK_brk, L2.seqK_cont, L2.gSet_eq, L2.letP_some, L2.gSetD_eq, L2.letK_some, L2.gIf, L2.gRet, L2.gRetV, L2.gRetN, L2.gNext, L2.gPass, L2.gBreak, L2.gCont, L2.gDrop, L2.gPar, L2.gApp_eq, L2.gFor, L2.gWhile, L2.gFrz1, L2.frz1, L2.fVar, L2.fC, L2.fOp, L2.fUn, L2.fCall, L2.fTup, L2.fLst, L2.fSl, L2.fIf, L2.fAnd, L2.fOr, L2.fNot, L2.fChain, L2.fIsin, L2.fFlat, L2.Flat, L2.fFrz, L2.frz, L2.fComp, L2.oNone, L2.oSome, L2.asI_int, L2.asB_bool, L2.aCons, L2.aNil, L2.bVal, L2.bNot, L2.bAnd, L2.bOr, L2.bTrue, L2.iFn, L2.iSq, L2.seqOf_list, L2.seqOf_tup, L2.outV_ret, L2.outV_next, L2.dats_nil, L2.dats_cons, L2.sName, L2.sTup, L2.sCons, L2.sNil, L2.gtName, L2.gtTup, L2.PV.d_dat, L2.PV.d_own, L2.muAbs,
  L2.addD_int, L2.subD_int, L2.ltD_int, L2.leD_int, L2.gtD_int, L2.geD_int, L2.eqDD_int, L2.neDD_int, L2.eqDD_str, L2.neDD_str, L2.ixD_tup, L2.ixD_list, L2.absD_int, L2.negD_int, L2.lenD_list, L2.lenD_tup, L2.tupD_list, L2.tupD_tup, L2.listD_list, L2.listD_tup, L2.slD_tup, L2.slD_list, L2.isD_none, L2.isNotD_none, L2.chain_if, L2.intD_int, L2.intD_bool, L2.sumD_list, L2.enumD_seq, L2.fIxO, L2.fListO, L2.gMut0, L2.isNoneD, L2.atI_0, L2.atI_1, L2.atI_2, L2.atI_3, L2.atI_4, L2.atI_5, L2.atI_6, L2.isI, L2.tyOf, String.reduceBEq,
  Option.bind_some, Option.bind_none, Option.map_some, Option.map_none, List.map_cons, List.map_nil, List.length_cons, List.length_nil, List.replicate, List.cons_append, List.nil_append, List.append_nil, List.set_cons_zero, List.set_cons_succ, List.getElem?_cons_zero, List.getElem?_cons_succ, Nat.reduceAdd, Nat.reduceSub, Nat.reduceEqDiff, Nat.reduceLeDiff, Nat.reduceLT, Int.reduceToNat, Int.cast_ofNat_Int, eq_self,
  if_true, if_false, reduceIte, decide_eq_true_eq, decide_true, decide_false, Bool.false_eq_true, Bool.not_eq_true', decide_eq_false_iff_not, Bool.not_true, Bool.not_false, not_true_eq_false, not_false_eq_true, Bool.true_or, Bool.false_or, Bool.or_true, Bool.or_false, Bool.and_true, Bool.true_and, Bool.and_false, Bool.false_and, reduceCtorEq, and_self])
namespace Law
open PySem L2
noncomputable abbrev gc (a b : Int) : Int := (Int.gcd a b : Nat)
theorem gcd_fmod (x y : Int) : Int.gcd y (x.fmod y) = Int.gcd x y := by
  rw [Int.fmod_def]
  apply Nat.dvd_antisymm
  · apply Int.dvd_gcd
    · have h1 : ((Int.gcd y (x - y * x.fdiv y) : Nat) : Int) ∣ y := Int.gcd_dvd_left ..
      have h2 : ((Int.gcd y (x - y * x.fdiv y) : Nat) : Int) ∣ x - y * x.fdiv y := Int.gcd_dvd_right ..
      have h3 := Int.dvd_add h2 (Int.dvd_mul_of_dvd_left (c := x.fdiv y) h1)
      rwa [Int.sub_add_cancel] at h3
    · exact Int.gcd_dvd_left ..
  · apply Int.dvd_gcd
    · exact Int.gcd_dvd_right ..
    · exact Int.dvd_sub (Int.gcd_dvd_left ..) (Int.dvd_mul_of_dvd_left (Int.gcd_dvd_right ..))
theorem natAbs_fmod_lt (x : Int) {y : Int} (h : y ≠ 0) : (x.fmod y).natAbs < y.natAbs := by
  rcases Int.lt_or_gt_of_ne h with hy | hy
  · have e : Int.fmod x y = x % y + if 0 ≤ y ∨ y ∣ x then 0 else y := Int.fmod_eq_emod
    have h1 := Int.emod_nonneg x h
    have h2 := Int.emod_lt x h
    split at e <;> omega
  · have h1 := Int.fmod_nonneg_of_pos x hy
    have h2 := Int.fmod_lt_of_pos x hy
    omega
/-- the fraction of two numbers -/
noncomputable def lowF (t b : Int) : Int × Int := (t.fdiv (if b < 0 then -gc t b else gc t b), b.fdiv (if b < 0 then -gc t b else gc t b))
structure Frac (m : Nat) (q : Int × Int) : Prop where
  pos : 0 < q.2
  low : Int.gcd q.1 q.2 = 1
  bt : Bt m q.1
  bb : Bt m q.2
theorem Frac.mono {m n : Nat} {q : Int × Int} (h : Frac m q) (hl : m ≤ n) : Frac n q := ⟨h.pos, h.low, h.bt.mono hl, h.bb.mono hl⟩
theorem low_frac {t b : Int} {m : Nat} (hb : 0 < b) (ht : Bt m t) (hbb : Bt m b) : Frac m (lowF t b) := by
  have hg : 0 < Int.gcd t b := Int.gcd_pos_of_ne_zero_right t (by omega)
  have hgi : (0 : Int) < gc t b := by show (0 : Int) < ((Int.gcd t b : Nat) : Int); omega
  have e : lowF t b = (t / gc t b, b / gc t b) := by
    unfold lowF
    rw [if_neg (by omega), Int.fdiv_eq_ediv_of_nonneg _ (by omega), Int.fdiv_eq_ediv_of_nonneg _ (by omega)]
  have d1 : gc t b ∣ t := Int.gcd_dvd_left ..
  have d2 : gc t b ∣ b := Int.gcd_dvd_right ..
  rw [e]
  refine ⟨Int.ediv_pos_of_pos_of_dvd hb (by omega) d2, Int.gcd_ediv_gcd_ediv_gcd hg, ?_, ?_⟩
  · have := ht.fdiv (j := gc t b)
    rwa [Int.fdiv_eq_ediv_of_nonneg _ (by omega)] at this
  · have := hbb.fdiv (j := gc t b)
    rwa [Int.fdiv_eq_ediv_of_nonneg _ (by omega)] at this
/-- fractions in lowest terms are alike just where they are equal -/
theorem frac_inj {m n : Nat} {p q : Int × Int} (hp : Frac m p) (hq : Frac n q) (h : p.1 * q.2 - q.1 * p.2 = 0) : p = q := by
  obtain ⟨a, b⟩ := p
  obtain ⟨c, d⟩ := q
  have pb : 0 < b := hp.pos
  have pd : 0 < d := hq.pos
  have g1 : Int.gcd a b = 1 := hp.low
  have g2 : Int.gcd c d = 1 := hq.low
  have e : a * d = c * b := by have : a * d - c * b = 0 := h; omega
  have k1 : b ∣ d := by
    have z : b ∣ a * d := ⟨c, by rw [e, Int.mul_comm]⟩
    have z' : b.natAbs ∣ a.natAbs * d.natAbs := by rw [← Int.natAbs_mul]; exact Int.natAbs_dvd_natAbs.mpr z
    have cp : Nat.Coprime b.natAbs a.natAbs := by rw [Nat.coprime_comm]; exact g1
    exact Int.natAbs_dvd_natAbs.mp (cp.dvd_of_dvd_mul_left z')
  have k2 : d ∣ b := by
    have z : d ∣ c * b := ⟨a, by rw [← e, Int.mul_comm]⟩
    have z' : d.natAbs ∣ c.natAbs * b.natAbs := by rw [← Int.natAbs_mul]; exact Int.natAbs_dvd_natAbs.mpr z
    have cp : Nat.Coprime d.natAbs c.natAbs := by rw [Nat.coprime_comm]; exact g2
    exact Int.natAbs_dvd_natAbs.mp (cp.dvd_of_dvd_mul_left z')
  have ebd : b = d := by
    have := Int.le_of_dvd pd k1
    have := Int.le_of_dvd pb k2
    omega
  subst ebd
  have : a = c := Int.eq_of_mul_eq_mul_right (by omega) e
  rw [this]
theorem gc_bt {m : Nat} {t b : Int} (hb : b ≠ 0) (h : Bt m b) : Bt m (gc t b) := h.of_le (by
  have h1 := Int.gcd_le_natAbs_right t hb
  show ((Int.gcd t b : Nat) : Int).natAbs ≤ _
  omega)
theorem gc_ne {t b : Int} (hb : b ≠ 0) : gc t b ≠ 0 := by
  have h1 := Int.gcd_pos_of_ne_zero_right t hb
  show ((Int.gcd t b : Nat) : Int) ≠ 0
  omega
noncomputable abbrev fr (q : Int × Int) : PyData := .tuple [.int q.1, .int q.2]
noncomputable def plusF (p q : Int × Int) : Int × Int := lowF (p.1 * q.2 + q.1 * p.2) (p.2 * q.2)
noncomputable def timesF (p q : Int × Int) : Int × Int := lowF (p.1 * q.1) (p.2 * q.2)
noncomputable def underF (p q : Int × Int) : Bool := decide (p.1 * q.2 < q.1 * p.2)
noncomputable abbrev Q2 := Int × Int
noncomputable def val (q : Q2) : Rat := (q.1 : Rat) / (q.2 : Rat)
theorem cast_ne {b : Int} (h : b ≠ 0) : (b : Rat) ≠ 0 := by exact_mod_cast h
theorem val_low {t b : Int} (hb : 0 < b) : val (lowF t b) = (t : Rat) / (b : Rat) := by
  have hg : 0 < Int.gcd t b := Int.gcd_pos_of_ne_zero_right t (by omega)
  have hgi : (0 : Int) < gc t b := by show (0 : Int) < ((Int.gcd t b : Nat) : Int); omega
  have e : lowF t b = (t / gc t b, b / gc t b) := by
    unfold lowF
    rw [if_neg (by omega), Int.fdiv_eq_ediv_of_nonneg _ (by omega), Int.fdiv_eq_ediv_of_nonneg _ (by omega)]
  have d1 : t / gc t b * gc t b = t := Int.ediv_mul_cancel (Int.gcd_dvd_left ..)
  have d2 : b / gc t b * gc t b = b := Int.ediv_mul_cancel (Int.gcd_dvd_right ..)
  rw [e]
  show ((t / gc t b : Int) : Rat) / ((b / gc t b : Int) : Rat) = _
  have hb2 : b / gc t b ≠ 0 := fun z => by rw [z] at d2; omega
  have r1 := cast_ne hb2
  have r2 := cast_ne (show gc t b ≠ 0 by omega)
  have r3 := cast_ne (show b ≠ 0 by omega)
  generalize gc t b = g at *
  have c1 : ((t / g : Int) : Rat) * (g : Rat) = (t : Rat) := by exact_mod_cast d1
  have c2 : ((b / g : Int) : Rat) * (g : Rat) = (b : Rat) := by exact_mod_cast d2
  generalize ((t / g : Int) : Rat) = x at *
  generalize ((b / g : Int) : Rat) = y at *
  generalize (g : Rat) = z at *
  rw [← c1, ← c2]
  grind
theorem val_plus {p q : Q2} (hp : 0 < p.2) (hq : 0 < q.2) : val (plusF p q) = val p + val q := by
  unfold plusF
  rw [val_low (Int.mul_pos hp hq)]
  have r1 := cast_ne (show p.2 ≠ 0 by omega)
  have r2 := cast_ne (show q.2 ≠ 0 by omega)
  unfold val
  push_cast
  grind
theorem val_times {p q : Q2} (hp : 0 < p.2) (hq : 0 < q.2) : val (timesF p q) = val p * val q := by
  unfold timesF
  rw [val_low (Int.mul_pos hp hq)]
  have r1 := cast_ne (show p.2 ≠ 0 by omega)
  have r2 := cast_ne (show q.2 ≠ 0 by omega)
  unfold val
  push_cast
  grind
theorem val_inj {m n : Nat} {p q : Q2} (hp : Frac m p) (hq : Frac n q) (h : val p = val q) : p = q := by
  refine frac_inj hp hq ?_
  have r1 := cast_ne (show p.2 ≠ 0 by have := hp.pos; omega)
  have r2 := cast_ne (show q.2 ≠ 0 by have := hq.pos; omega)
  have h' : (p.1 : Rat) / (p.2 : Rat) = (q.1 : Rat) / (q.2 : Rat) := h
  have e : (p.1 : Rat) * (q.2 : Rat) - (q.1 : Rat) * (p.2 : Rat) = 0 := by grind
  exact_mod_cast e
theorem val_one (n : Int) : val (n, 1) = (n : Rat) := by
  show (n : Rat) / ((1 : Int) : Rat) = n
  grind
theorem plus_frac {m n : Nat} {p q : Q2} (hp : Frac m p) (hq : Frac n q) : Frac (m + n + 1) (plusF p q) :=
  low_frac (Int.mul_pos hp.pos hq.pos) ((hp.bt.mul hq.bb).add ((hq.bt.mul hp.bb).mono (by omega))) ((hp.bb.mul hq.bb).mono (by omega))
theorem times_frac {m n : Nat} {p q : Q2} (hp : Frac m p) (hq : Frac n q) : Frac (m + n) (timesF p q) :=
  low_frac (Int.mul_pos hp.pos hq.pos) (hp.bt.mul hq.bt) (hp.bb.mul hq.bb)
theorem one_frac {m : Nat} {n : Int} (h : Bt m n) (hm : 1 ≤ m) : Frac m (n, 1) := ⟨by show (0 : Int) < 1; decide, by show Int.gcd n 1 = 1; simp, h, Bt.mono (m := 1) ⟨by show (1 : Int).natAbs < 2 ^ 1; decide⟩ hm⟩
theorem C_common (x y : Int) (z : Option PV) : C_common_divisor_0 [iD x, iD y, z] = some (!decide (y = 0)) := by
  unfold C_common_divisor_0
  walk_at "r"
theorem B_common (x : Int) {y : Int} (z : Option PV) (h : y ≠ 0) : B_common_divisor_0 [iD x, iD y, z] = some (.next [iD y, iD (x.fmod y), iD (x.fmod y)]) := by
  unfold B_common_divisor_0
  walk_at "r"
  rw [modD_int h]
  walk_at "r"
theorem common_eq {x y : Int} (hx : 0 ≤ x) (hy : 0 ≤ y) : F_common_divisor [.int x, .int y] = some (.dat (.int (gc x y))) := by
  unfold F_common_divisor
  walk_at "r"
  obtain ⟨ds', h1, ⟨x', y', z', rfl, hg, hx', hy'⟩, h3⟩ := whileD_by (Fc := C_common_divisor_0) (G := B_common_divisor_0) (fun ds => ∃ x' y' z', ds = [iD x', iD y', z'] ∧ gc x' y' = gc x y ∧ 0 ≤ x' ∧ 0 ≤ y') (fun ds => muAbs 1 ds - 1) (by
    rintro ds ⟨x', y', z', rfl, hg, hx', hy'⟩
    rw [C_common]
    by_cases h : y' = 0
    · left; simp [h]
    · right
      refine ⟨by simp [h], _, B_common x' z' h, ⟨y', x'.fmod y', _, rfl, ?_, hy', Int.fmod_nonneg_of_pos x' (by omega)⟩, ?_⟩
      · rw [← hg]
        show ((Int.gcd y' (x'.fmod y') : Nat) : Int) = (Int.gcd x' y' : Nat)
        rw [gcd_fmod]
      · have := natAbs_fmod_lt x' h
        walk_at "r"
        omega) (y.natAbs + 1) [iD x, iD y, none] ⟨x, y, none, rfl, rfl, hx, hy⟩ (by walk_at "r"; omega)
  rw [C_common] at h3
  have hz : y' = 0 := by simpa using h3
  subst hz
  have e : gc x' 0 = x' := by show ((Int.gcd x' 0 : Nat) : Int) = x'; rw [Int.gcd_zero_right]; omega
  rw [h1, ← hg, e]
  walk_at "r"
/-- lowest terms are found: a pair of the same value, coprime, its bottom above 0, is it -/
theorem low_uniq {t b x y : Int} (hb : 0 < b) (hy : 0 < y) (hc : Int.gcd x y = 1) (he : t * y = x * b) : lowF t b = (x, y) := by
  have hg : 0 < Int.gcd t b := Int.gcd_pos_of_ne_zero_right t (by omega)
  have hgi : (0 : Int) < gc t b := by show (0 : Int) < ((Int.gcd t b : Nat) : Int); omega
  have k1 : y ∣ b := by
    have z : y ∣ x * b := ⟨t, by rw [← he, Int.mul_comm]⟩
    have z' : y.natAbs ∣ x.natAbs * b.natAbs := by rw [← Int.natAbs_mul]; exact Int.natAbs_dvd_natAbs.mpr z
    have cp : Nat.Coprime y.natAbs x.natAbs := by rw [Nat.coprime_comm]; exact hc
    exact Int.natAbs_dvd_natAbs.mp (cp.dvd_of_dvd_mul_left z')
  obtain ⟨k, rfl⟩ := k1
  have hk : 0 < k := by
    rcases Int.lt_or_le 0 k with h | h
    · exact h
    · have := Int.mul_nonpos_of_nonneg_of_nonpos (Int.le_of_lt hy) h; omega
  have ht : t = x * k := by
    have : t * y = (x * k) * y := by rw [he, Int.mul_assoc, Int.mul_comm y k]
    exact Int.eq_of_mul_eq_mul_right (by omega) this
  subst ht
  have e : Int.gcd (x * k) (y * k) = k.natAbs := by rw [Int.gcd_mul_right, hc, Nat.one_mul]
  have eg : gc (x * k) (y * k) = k := by show ((Int.gcd _ _ : Nat) : Int) = k; rw [e]; omega
  unfold lowF
  rw [if_neg (by omega), eg, Int.fdiv_eq_ediv_of_nonneg _ (by omega), Int.fdiv_eq_ediv_of_nonneg _ (by omega), Int.mul_ediv_cancel _ (by omega), Int.mul_ediv_cancel _ (by omega)]
theorem cop_mul {x y z : Int} (h1 : Int.gcd x y = 1) (h2 : Int.gcd x z = 1) : Int.gcd x (y * z) = 1 := by
  show Nat.gcd x.natAbs (y * z).natAbs = 1
  rw [Int.natAbs_mul]
  exact Nat.Coprime.mul_right h1 h2
theorem cop_of_dvd {x y z : Int} (h1 : Int.gcd x y = 1) (h2 : z ∣ y) : Int.gcd x z = 1 :=
  Nat.Coprime.coprime_dvd_right (Int.natAbs_dvd_natAbs.mpr h2) h1
theorem cop_comm {x y : Int} (h : Int.gcd x y = 1) : Int.gcd y x = 1 := by rw [Int.gcd_comm]; exact h
theorem cop_add {x y k : Int} (h : Int.gcd x y = 1) : Int.gcd (x + k * y) y = 1 := by
  rw [← h]
  apply Nat.dvd_antisymm
  · apply Int.dvd_gcd
    · have h1 : ((Int.gcd (x + k * y) y : Nat) : Int) ∣ y := Int.gcd_dvd_right ..
      have h2 : ((Int.gcd (x + k * y) y : Nat) : Int) ∣ x + k * y := Int.gcd_dvd_left ..
      have h3 := Int.dvd_sub h2 (Int.dvd_mul_of_dvd_right (b := k) h1)
      rwa [Int.add_sub_cancel] at h3
    · exact Int.gcd_dvd_right ..
  · apply Int.dvd_gcd
    · exact Int.dvd_add (Int.gcd_dvd_left ..) (Int.dvd_mul_of_dvd_right (b := k) (Int.gcd_dvd_right ..))
    · exact Int.gcd_dvd_right ..
theorem plus_low {a b c d : Int} (hb : 0 < b) (hd : 0 < d) (h1 : Int.gcd a b = 1) (h2 : Int.gcd c d = 1) :
    let s := gc b d
    let t := a * d.fdiv s + c * b.fdiv s
    let e := gc t s
    0 < s ∧ 0 < e ∧ lowF (a * d + c * b) (b * d) = (t.fdiv e, b.fdiv s * d.fdiv e) := by
  have hg : 0 < Int.gcd b d := Int.gcd_pos_of_ne_zero_right b (by omega)
  have hs : (0 : Int) < gc b d := by show (0 : Int) < ((Int.gcd b d : Nat) : Int); omega
  obtain ⟨b', hb'⟩ : gc b d ∣ b := Int.gcd_dvd_left ..
  obtain ⟨d', hd'⟩ : gc b d ∣ d := Int.gcd_dvd_right ..
  have co : Int.gcd b' d' = 1 := by
    have := Int.gcd_ediv_gcd_ediv_gcd (i := b) (j := d) hg
    have q1 : b / ((Int.gcd b d : Nat) : Int) = b' := by
      show b / gc b d = b'
      conv => lhs; lhs; rw [hb']
      rw [Int.mul_ediv_cancel_left _ (by omega)]
    have q2 : d / ((Int.gcd b d : Nat) : Int) = d' := by
      show d / gc b d = d'
      conv => lhs; lhs; rw [hd']
      rw [Int.mul_ediv_cancel_left _ (by omega)]
    rwa [q1, q2] at this
  intro s t e
  have es : gc b d = s := rfl
  have f1 : b.fdiv s = b' := by rw [Int.fdiv_eq_ediv_of_nonneg _ (by omega)]; rw [es] at hb'; rw [hb', Int.mul_ediv_cancel_left _ (by omega)]
  have f2 : d.fdiv s = d' := by rw [Int.fdiv_eq_ediv_of_nonneg _ (by omega)]; rw [es] at hd'; rw [hd', Int.mul_ediv_cancel_left _ (by omega)]
  have et : t = a * d' + c * b' := by show a * d.fdiv s + c * b.fdiv s = _; rw [f1, f2]
  have hge : 0 < Int.gcd t s := Int.gcd_pos_of_ne_zero_right t (by omega)
  have he : (0 : Int) < e := by show (0 : Int) < ((Int.gcd t s : Nat) : Int); omega
  refine ⟨hs, he, ?_⟩
  rw [es] at hb' hd'
  clear_value s
  obtain ⟨t', ht'⟩ : e ∣ t := Int.gcd_dvd_left ..
  obtain ⟨s', hs'⟩ : e ∣ s := Int.gcd_dvd_right ..
  have co2 : Int.gcd t' s' = 1 := by
    have := Int.gcd_ediv_gcd_ediv_gcd (i := t) (j := s) hge
    have q1 : t / ((Int.gcd t s : Nat) : Int) = t' := by
      show t / e = t'
      rw [ht', Int.mul_ediv_cancel_left _ (by omega)]
    have q2 : s / ((Int.gcd t s : Nat) : Int) = s' := by
      show s / e = s'
      rw [hs', Int.mul_ediv_cancel_left _ (by omega)]
    rwa [q1, q2] at this
  clear_value e
  have pb' : 0 < b' := by
    rcases Int.lt_or_le 0 b' with h | h
    · exact h
    · have := Int.mul_nonpos_of_nonneg_of_nonpos (Int.le_of_lt (show (0:Int) < s by omega)) h; omega
  have pd' : 0 < d' := by
    rcases Int.lt_or_le 0 d' with h | h
    · exact h
    · have := Int.mul_nonpos_of_nonneg_of_nonpos (Int.le_of_lt (show (0:Int) < s by omega)) h; omega
  have ps' : 0 < s' := by
    rcases Int.lt_or_le 0 s' with h | h
    · exact h
    · have := Int.mul_nonpos_of_nonneg_of_nonpos (Int.le_of_lt he) h; omega
  have tb : Int.gcd t b' = 1 := by
    rw [et]
    have : Int.gcd (a * d') b' = 1 := cop_comm (cop_mul (cop_comm (cop_of_dvd h1 ⟨s, by rw [hb', Int.mul_comm]⟩)) co)
    exact cop_add this
  have td : Int.gcd t d' = 1 := by
    rw [et, Int.add_comm]
    have : Int.gcd (c * b') d' = 1 := cop_comm (cop_mul (cop_comm (cop_of_dvd h2 ⟨s, by rw [hd', Int.mul_comm]⟩)) (cop_comm co))
    exact cop_add this
  have dt : t' ∣ t := ⟨e, by rw [ht', Int.mul_comm]⟩
  have f3 : d.fdiv e = s' * d' := by
    rw [Int.fdiv_eq_ediv_of_nonneg _ (by omega), hd', hs', Int.mul_assoc, Int.mul_ediv_cancel_left _ (by omega)]
  have f4 : t.fdiv e = t' := by
    rw [Int.fdiv_eq_ediv_of_nonneg _ (by omega), ht', Int.mul_ediv_cancel_left _ (by omega)]
  rw [f1, f3, f4]
  apply low_uniq (Int.mul_pos hb hd) (Int.mul_pos pb' (Int.mul_pos ps' pd'))
  · exact cop_mul (cop_comm (cop_of_dvd (cop_comm tb) dt)) (cop_mul co2 (cop_comm (cop_of_dvd (cop_comm td) dt)))
  · have e1 : a * d + c * b = s * t := by rw [et, Int.mul_add]; conv => lhs; rw [hb', hd']
                                          simp only [Int.mul_left_comm, Int.mul_comm]
    rw [e1, ht']
    conv => rhs; rw [hb', hd']
    rw [hs']
    simp only [Int.mul_left_comm, Int.mul_comm]
theorem times_low {a b c d : Int} (hb : 0 < b) (hd : 0 < d) (h1 : Int.gcd a b = 1) (h2 : Int.gcd c d = 1) :
    let e := gc a d
    let f := gc c b
    0 < e ∧ 0 < f ∧ lowF (a * c) (b * d) = (a.fdiv e * c.fdiv f, b.fdiv f * d.fdiv e) := by
  have key : ∀ {x y : Int}, 0 < y → ∃ x' y', 0 < gc x y ∧ x = gc x y * x' ∧ y = gc x y * y' ∧ 0 < y' ∧ Int.gcd x' y' = 1 ∧ x.fdiv (gc x y) = x' ∧ y.fdiv (gc x y) = y' := by
    intro x y hy
    have hg : 0 < Int.gcd x y := Int.gcd_pos_of_ne_zero_right x (by omega)
    have hs : (0 : Int) < gc x y := by show (0 : Int) < ((Int.gcd x y : Nat) : Int); omega
    obtain ⟨x', hx'⟩ : gc x y ∣ x := Int.gcd_dvd_left ..
    obtain ⟨y', hy'⟩ : gc x y ∣ y := Int.gcd_dvd_right ..
    have q1 : x / gc x y = x' := by conv => lhs; lhs; rw [hx']
                                    rw [Int.mul_ediv_cancel_left _ (by omega)]
    have q2 : y / gc x y = y' := by conv => lhs; lhs; rw [hy']
                                    rw [Int.mul_ediv_cancel_left _ (by omega)]
    refine ⟨x', y', hs, hx', hy', ?_, ?_, ?_, ?_⟩
    · rcases Int.lt_or_le 0 y' with h | h
      · exact h
      · have := Int.mul_nonpos_of_nonneg_of_nonpos (Int.le_of_lt hs) h; omega
    · have := Int.gcd_ediv_gcd_ediv_gcd (i := x) (j := y) hg
      have q1' : x / ((Int.gcd x y : Nat) : Int) = x' := q1
      have q2' : y / ((Int.gcd x y : Nat) : Int) = y' := q2
      rwa [q1', q2'] at this
    · rw [Int.fdiv_eq_ediv_of_nonneg _ (by omega), q1]
    · rw [Int.fdiv_eq_ediv_of_nonneg _ (by omega), q2]
  obtain ⟨a', d', he, ea, ed, pd, ce, fa, fd⟩ := key (x := a) hd
  obtain ⟨c', b', hf, ec, eb, pb, cf, fc, fb⟩ := key (x := c) hb
  intro e f
  have ee : gc a d = e := rfl
  have ef : gc c b = f := rfl
  rw [ee] at he ea ed fa fd
  rw [ef] at hf ec eb fc fb
  refine ⟨he, hf, ?_⟩
  clear_value e f
  rw [fa, fd, fc, fb]
  apply low_uniq (Int.mul_pos hb hd) (Int.mul_pos pb pd)
  · have c1 : Int.gcd a' b' = 1 := cop_comm (cop_of_dvd (cop_comm (cop_of_dvd h1 ⟨f, by rw [eb, Int.mul_comm]⟩)) ⟨e, by rw [ea, Int.mul_comm]⟩)
    have c2 : Int.gcd c' d' = 1 := cop_comm (cop_of_dvd (cop_comm (cop_of_dvd h2 ⟨e, by rw [ed, Int.mul_comm]⟩)) ⟨f, by rw [ec, Int.mul_comm]⟩)
    exact cop_comm (cop_mul (cop_comm (cop_mul c1 ce)) (cop_comm (cop_mul cf c2)))
  · conv => lhs; rw [ea, ec]
    conv => rhs; rw [eb, ed]
    simp only [Int.mul_left_comm, Int.mul_comm]
theorem gc_abs1 (t b : Int) : gc (if t < 0 then -t else t) b = gc t b := by
  show ((Int.gcd _ _ : Nat) : Int) = (Int.gcd t b : Nat)
  split <;> simp
theorem gc_btl {m : Nat} {t b : Int} (hb : 0 < b) (h : Bt m b) : Bt m (gc b t) := h.of_le (by
  have h1 := Int.gcd_le_natAbs_left (a := b) t (by omega)
  show ((Int.gcd b t : Nat) : Int).natAbs ≤ _
  omega)
theorem plusG {m n : Nat} {p q : Q2} (hp : Frac m p) (hq : Frac n q) (h : m + n ≤ 7998) : F_plus [fr p, fr q] = some (.dat (fr (plusF p q))) := by
  have c1 : Bt 60000 p.1 := hp.bt.mono (by omega)
  have c2 : Bt 60000 p.2 := hp.bb.mono (by omega)
  have c3 : Bt 60000 q.1 := hq.bt.mono (by omega)
  have c4 : Bt 60000 q.2 := hq.bb.mono (by omega)
  obtain ⟨s0, e0, el⟩ := plus_low hp.pos hq.pos hp.low hq.low
  have bs : Bt 8000 (gc p.2 q.2) := (gc_btl hp.pos hp.bb).mono (by omega)
  have be : ∀ t, Bt 8000 (gc t (gc p.2 q.2)) := fun t => gc_bt (by omega) bs
  unfold F_plus
  walk_at "r"
  rw [common_eq (Int.le_of_lt hp.pos) (Int.le_of_lt hq.pos)]
  walk_at "r"
  simp only [fdivD_int (show gc p.2 q.2 ≠ 0 by omega) bs]
  walk_at "r"
  simp only [mulD_int, c1, c2.fdiv, c3, c4.fdiv]
  walk_at "r"
  rw [common_eq (by split <;> omega) (by omega), gc_abs1]
  walk_at "r"
  simp only [fdivD_int (show gc (p.1 * q.2.fdiv (gc p.2 q.2) + q.1 * p.2.fdiv (gc p.2 q.2)) (gc p.2 q.2) ≠ 0 by omega) (be _), fdivD_int (show gc p.2 q.2 ≠ 0 by omega) bs]
  walk_at "r"
  rw [mulD_int c2.fdiv c4.fdiv]
  unfold plusF
  rw [el]
  rfl
theorem timesG {m n : Nat} {p q : Q2} (hp : Frac m p) (hq : Frac n q) (h : m + n ≤ 7998) : F_times [fr p, fr q] = some (.dat (fr (timesF p q))) := by
  have c1 : Bt 60000 p.1 := hp.bt.mono (by omega)
  have c2 : Bt 60000 p.2 := hp.bb.mono (by omega)
  have c3 : Bt 60000 q.1 := hq.bt.mono (by omega)
  have c4 : Bt 60000 q.2 := hq.bb.mono (by omega)
  obtain ⟨s0, e0, el⟩ := times_low hp.pos hq.pos hp.low hq.low
  have b1 : Bt 8000 (gc p.1 q.2) := (gc_bt (by have := hq.pos; omega) hq.bb).mono (by omega)
  have b2 : Bt 8000 (gc q.1 p.2) := (gc_bt (by have := hp.pos; omega) hp.bb).mono (by omega)
  have n1 := hp.pos
  have n2 := hq.pos
  unfold F_times
  walk_at "r"
  rw [common_eq (by split <;> omega) (by omega), gc_abs1]
  walk_at "r"
  rw [common_eq (by split <;> omega) (by omega), gc_abs1]
  walk_at "r"
  simp only [fdivD_int (show gc p.1 q.2 ≠ 0 by omega) b1, fdivD_int (show gc q.1 p.2 ≠ 0 by omega) b2]
  walk_at "r"
  rw [mulD_int c1.fdiv c3.fdiv]
  walk_at "r"
  simp only [fdivD_int (show gc p.1 q.2 ≠ 0 by omega) b1, fdivD_int (show gc q.1 p.2 ≠ 0 by omega) b2]
  walk_at "r"
  rw [mulD_int c2.fdiv c4.fdiv]
  unfold timesF
  rw [el]
  rfl
theorem underG {m n : Nat} {p q : Q2} (hp : Frac m p) (hq : Frac n q) (h : m + n ≤ 59999) : F_under [fr p, fr q] = some (.dat (.bool (underF p q))) := by
  have c1 : Bt 60000 p.1 := hp.bt.mono (by omega)
  have c2 : Bt 60000 p.2 := hp.bb.mono (by omega)
  have c3 : Bt 60000 q.1 := hq.bt.mono (by omega)
  have c4 : Bt 60000 q.2 := hq.bb.mono (by omega)
  unfold F_under
  walk_at "r"
  simp only [mulD_int, c1, c2, c3, c4]
  walk_at "r"
  rfl
noncomputable abbrev scr (ns : List Int) : PyData := .list (ns.map .int)
theorem scr_len (ns : List Int) : (ns.map PyData.int).length = ns.length := by simp
theorem scr_at {ns : List Int} {i : Int} (h0 : 0 ≤ i) (h : i < ns.length) : atI (ns.map PyData.int) i = some (.int (ns.getD i.toNat 0)) := by
  rw [atI_lit (n := i.toNat) (by omega) (by simp; omega), List.getElem?_map, List.getElem?_eq_getElem (by omega)]
  simp [List.getD_eq_getElem?_getD, List.getElem?_eq_getElem (show i.toNat < ns.length by omega)]
noncomputable def drawTail : Ds → Option Out := (gSeq (gSetD 4 (fOp modD (fOp mulD (fOp addD (fOp modD (fVar 3) (fC (.int 1000003))) (fC (.int 1))) (fOp addD (fOp addD (fOp mulD (fVar 1) (fVar 1)) (fVar 1)) (fC (.int 41)))) (fC (.int 999983)))) (gRet (fOp modD (fOp fdivD (fOp modD (fOp mulD (fOp modD (fOp mulD (fVar 4) (fOp addD (fVar 4) (fC (.int 7919)))) (fC (.int 2147483647))) (fC (.int 69621))) (fC (.int 2147483629))) (fC (.int 11))) (fVar 2))))
theorem draw_tail {d : PyData} {k m c : Int} (hk0 : 0 ≤ k) (hk1 : k ≤ 1000000) (hm : 0 < m) : ∃ r : Int, drawTail [some (.dat d), iD k, iD m, iD c, none] = some (.ret (.dat (.int r))) ∧ 0 ≤ r ∧ r < m := by
  have fin : ∀ z : Int, 0 ≤ z.fmod m ∧ z.fmod m < m := fun z => ⟨Int.fmod_nonneg_of_pos z hm, Int.fmod_lt_of_pos z hm⟩
  have h1 := Int.fmod_nonneg_of_pos c (b := 1000003) (by decide)
  have h2 := Int.fmod_lt_of_pos c (b := 1000003) (by decide)
  have b1 : Bt 62 k := Bt.small (by omega) (by omega)
  have bk : Bt 200 (k * k + k + 41) := ((((b1.mul b1).add (b1.mono (by decide))).add (Bt.mono (m := 62) (Bt.small (by decide) (by decide)) (by decide)))).mono (by decide)
  have h3 := Int.fmod_nonneg_of_pos ((c.fmod 1000003 + 1) * (k * k + k + 41)) (b := 999983) (by decide)
  have h4 := Int.fmod_lt_of_pos ((c.fmod 1000003 + 1) * (k * k + k + 41)) (b := 999983) (by decide)
  unfold drawTail
  walk_at "r"
  rw [modD_int (by decide)]
  walk_at "r"
  rw [mulD_int (b1.mono (by decide)) (b1.mono (by decide))]
  walk_at "r"
  rw [mulD_int (Bt.s62 (by omega) (by omega)) (bk.mono (by decide))]
  walk_at "r"
  rw [modD_int (by decide)]
  walk_at "r"
  rw [mulD_int (Bt.s62 (by omega) (by omega)) (Bt.s62 (by omega) (by omega))]
  walk_at "r"
  rw [modD_int (by decide)]
  walk_at "r"
  generalize ((c.fmod 1000003 + 1) * (k * k + k + 41)).fmod 999983 = y
  have h5 := Int.fmod_nonneg_of_pos (y * (y + 7919)) (b := 2147483647) (by decide)
  have h6 := Int.fmod_lt_of_pos (y * (y + 7919)) (b := 2147483647) (by decide)
  rw [mulD_int (Bt.s62 (by omega) (by omega)) Bt.lit]
  walk_at "r"
  rw [modD_int (by decide)]
  walk_at "r"
  rw [fdivD_int (by decide) Bt.lit]
  walk_at "r"
  rw [modD_int (by omega)]
  exact ⟨_, rfl, fin _⟩
theorem draw_eq {ns : List Int} {k m : Int} (hl : ns.length ≤ 63) (hk0 : 0 ≤ k) (hk1 : k ≤ 1000000) (hm : 0 < m) : ∃ r : Int, F_l_draw [scr ns, .int k, .int m] = some (.dat (.int r)) ∧ 0 ≤ r ∧ r < m := by
  have fin : ∀ z : Int, 0 ≤ z.fmod m ∧ z.fmod m < m := fun z => ⟨Int.fmod_nonneg_of_pos z hm, Int.fmod_lt_of_pos z hm⟩
  have tail : ∀ (c : Int), ∃ r : Int, (drawTail [some (.dat (scr ns)), iD k, iD m, iD c, none]).bind outV = some (.dat (.int r)) ∧ 0 ≤ r ∧ r < m := fun c => by
    obtain ⟨r, h, h'⟩ := draw_tail (d := scr ns) (c := c) hk0 hk1 hm
    rw [h]
    exact ⟨r, rfl, h'⟩
  unfold F_l_draw
  walk_at "r"
  rw [scr_len]
  by_cases hp : (0 : Int) < (ns.length : Int)
  · rw [if_pos hp, modD_int (by omega)]
    have g1 := Int.fmod_nonneg_of_pos k hp
    have g2 := Int.fmod_lt_of_pos k hp
    walk_at "r"
    rw [scr_at g1 g2]
    walk_at "r"
    rw [scr_at (Int.le_refl 0) hp]
    walk_at "r"
    rw [modD_int (by decide)]
    walk_at "r"
    by_cases h2 : Int.fmod (ns.getD 0 0) 2 = 1
    · rw [if_pos h2, scr_len]
      have q0 : 0 ≤ k.fdiv (ns.length : Int) := Int.fdiv_nonneg hk0 (by omega)
      have q1 : k.fdiv (ns.length : Int) ≤ k := by
        have := PySem.natAbs_fdiv_le k (ns.length : Int)
        omega
      rw [fdivD_int (by decide) Bt.lit, fdivD_int (by omega) (Bt.s62 (by omega) (by omega))]
      walk_at "r"
      rw [mulD_int Bt.lit (Bt.s62 (by omega) (by omega))]
      walk_at "r"
      rw [shrD_int (by omega), powD_int ⟨by decide, by decide, by decide⟩]
      walk_at "r"
      rw [modD_int (by decide)]
      walk_at "r"
      rw [modD_int (by omega)]
      walk_at "r"
      exact ⟨_, rfl, fin _⟩
    · rw [if_neg h2]
      simp only [seqK_next]
      exact tail _
  · rw [if_neg hp]
    simp only [seqK_next]
    exact tail 0
theorem C_lnorm (x y : Int) (a b z : Option PV) : C_l_norm_0 [a, b, iD x, iD y, z] = some (decide (0 < y)) := by
  unfold C_l_norm_0
  walk_at "r"
theorem B_lnorm (x : Int) {y : Int} (a b z : Option PV) (h : y ≠ 0) : B_l_norm_0 [a, b, iD x, iD y, z] = some (.next [a, b, iD y, iD (x.fmod y), iD (x.fmod y)]) := by
  unfold B_l_norm_0
  walk_at "r"
  rw [modD_int h]
  walk_at "r"
theorem norm_eq {t b : Int} (hb : 0 < b) (hbb : Bt 8000 b) : F_l_norm [.int t, .int b] = some (.dat (fr (lowF t b))) := by
  unfold F_l_norm
  walk_at "r"
  obtain ⟨ds', h1, ⟨x', y', z', rfl, hg, hx', hy'⟩, h3⟩ := whileD_by (Fc := C_l_norm_0) (G := B_l_norm_0) (fun ds => ∃ x' y' z', ds = [iD t, iD b, iD x', iD y', z'] ∧ gc x' y' = gc t b ∧ 0 ≤ x' ∧ 0 ≤ y') (fun ds => muAbs 3 ds - 1) (by
    rintro ds ⟨x', y', z', rfl, hg, hx', hy'⟩
    rw [C_lnorm]
    by_cases h : y' = 0
    · left; simp [h]
    · right
      refine ⟨by simp; omega, _, B_lnorm x' _ _ z' h, ⟨y', x'.fmod y', _, rfl, ?_, hy', Int.fmod_nonneg_of_pos x' (by omega)⟩, ?_⟩
      · rw [← hg]
        show ((Int.gcd y' (x'.fmod y') : Nat) : Int) = (Int.gcd x' y' : Nat)
        rw [gcd_fmod]
      · have := natAbs_fmod_lt x' h
        walk_at "r"
        omega) (b.natAbs + 1) [iD t, iD b, iD (if t < 0 then -t else t), iD b, none] ⟨_, b, none, rfl, by
          show ((Int.gcd (if t < 0 then -t else t) b : Nat) : Int) = (Int.gcd t b : Nat)
          split <;> simp, by split <;> omega, by omega⟩ (by walk_at "r"; omega)
  rw [C_lnorm] at h3
  have hz : y' = 0 := by
    have : ¬ 0 < y' := by simpa using h3
    omega
  subst hz
  have e : gc x' 0 = x' := by show ((Int.gcd x' 0 : Nat) : Int) = x'; rw [Int.gcd_zero_right]; omega
  rw [e] at hg
  subst hg
  rw [h1]
  walk_at "r"
  have hg' := gc_ne (t := t) (show b ≠ 0 by omega)
  have hgb := gc_bt (t := t) (show b ≠ 0 by omega) hbb
  rw [fdivD_int hg' hgb, fdivD_int hg' hgb]
  unfold lowF
  rw [if_neg (by omega)]
  rfl
theorem sumG {m n : Nat} {p q : Q2} (hp : Frac m p) (hq : Frac n q) (h : m + n ≤ 7998) : F_l_sum [fr p, fr q] = some (.dat (fr (plusF p q))) := by
  have c1 : Bt 60000 p.1 := hp.bt.mono (by omega)
  have c2 : Bt 60000 p.2 := hp.bb.mono (by omega)
  have c3 : Bt 60000 q.1 := hq.bt.mono (by omega)
  have c4 : Bt 60000 q.2 := hq.bb.mono (by omega)
  unfold F_l_sum
  walk_at "r"
  simp only [mulD_int, c1, c2, c3, c4]
  walk_at "r"
  rw [norm_eq (Int.mul_pos hp.pos hq.pos) ((hp.bb.mul hq.bb).mono (by omega))]
  rfl
theorem ltimesG {m n : Nat} {p q : Q2} (hp : Frac m p) (hq : Frac n q) (h : m + n ≤ 7998) : F_l_times [fr p, fr q] = some (.dat (fr (timesF p q))) := by
  have c1 : Bt 60000 p.1 := hp.bt.mono (by omega)
  have c2 : Bt 60000 p.2 := hp.bb.mono (by omega)
  have c3 : Bt 60000 q.1 := hq.bt.mono (by omega)
  have c4 : Bt 60000 q.2 := hq.bb.mono (by omega)
  unfold F_l_times
  walk_at "r"
  simp only [mulD_int, c1, c2, c3, c4]
  walk_at "r"
  rw [norm_eq (Int.mul_pos hp.pos hq.pos) ((hp.bb.mul hq.bb).mono (by omega))]
  rfl
theorem belowG {m n : Nat} {p q : Q2} (hp : Frac m p) (hq : Frac n q) (h : m + n ≤ 59999) : F_l_below [fr p, fr q] = some (.dat (.bool (underF p q))) := by
  have c1 : Bt 60000 p.1 := hp.bt.mono (by omega)
  have c2 : Bt 60000 p.2 := hp.bb.mono (by omega)
  have c3 : Bt 60000 q.1 := hq.bt.mono (by omega)
  have c4 : Bt 60000 q.2 := hq.bb.mono (by omega)
  unfold F_l_below
  walk_at "r"
  simp only [mulD_int, c1, c2, c3, c4]
  walk_at "r"
  rfl
structure Tr where
  a : Q2
  b : Q2
  c : Q2
noncomputable def trD (x : Tr) : PyData := .tuple [fr x.a, fr x.b, fr x.c]
structure TrOk (m : Nat) (x : Tr) : Prop where
  a : Frac m x.a
  b : Frac m x.b
  c : Frac m x.c
theorem TrOk.mono {m n : Nat} {x : Tr} (h : TrOk m x) (hl : m ≤ n) : TrOk n x := ⟨h.a.mono hl, h.b.mono hl, h.c.mono hl⟩
theorem ix_tr0 (x : Tr) : ixD (trD x) (.int 0) = some (.dat (fr x.a)) := rfl
theorem ix_tr1 (x : Tr) : ixD (trD x) (.int 1) = some (.dat (fr x.b)) := rfl
theorem ix_tr2 (x : Tr) : ixD (trD x) (.int 2) = some (.dat (fr x.c)) := rfl
theorem rng3 : rngI 0 3 = [.int 0, .int 1, .int 2] := rfl
noncomputable def moreF (x y : Tr) (q : Q2) : Tr := ⟨plusF x.a (timesF y.a q), plusF x.b (timesF y.b q), plusF x.c (timesF y.c q)⟩
theorem more_ok {m n k : Nat} {x y : Tr} {q : Q2} (hx : TrOk m x) (hy : TrOk n y) (hq : Frac k q) : TrOk (m + (n + k) + 1) (moreF x y q) :=
  ⟨plus_frac hx.a (times_frac hy.a hq), plus_frac hx.b (times_frac hy.b hq), plus_frac hx.c (times_frac hy.c hq)⟩
theorem moreG {m n k : Nat} {x y : Tr} {q : Q2} (hx : TrOk m x) (hy : TrOk n y) (hq : Frac k q) (h : m + (n + k) ≤ 7998) : F_l_more [trD x, trD y, fr q] = some (.dat (trD (moreF x y q))) := by
  have ta := times_frac hy.a hq
  have tb := times_frac hy.b hq
  have tc := times_frac hy.c hq
  unfold F_l_more
  walk_at "r"
  rw [rng1_int (by decide)]
  walk_at "r"
  rw [rng3]
  simp only [compD, E_l_more_0]
  walk_at "r"
  rw [ix_tr0, ix_tr0, ix_tr1, ix_tr1, ix_tr2, ix_tr2]
  walk_at "r"
  rw [ltimesG hy.a hq (by omega), ltimesG hy.b hq (by omega), ltimesG hy.c hq (by omega)]
  walk_at "r"
  rw [sumG hx.a ta (by omega), sumG hx.b tb (by omega), sumG hx.c tc (by omega)]
  rfl
noncomputable def negF (q : Q2) : Q2 := (0 - q.1, q.2)
theorem neg_frac {m : Nat} {q : Q2} (h : Frac m q) : Frac m (negF q) := by
  have e : (0 - q.1 : Int) = -q.1 := by omega
  refine ⟨h.pos, ?_, ?_, h.bb⟩
  · show Int.gcd (0 - q.1) q.2 = 1
    rw [e, Int.neg_gcd]; exact h.low
  · show Bt m (0 - q.1)
    rw [e]; exact h.bt.neg
theorem neg_val {q : Q2} : val (negF q) = - val q := by
  show ((0 - q.1 : Int) : Rat) / (q.2 : Rat) = - ((q.1 : Rat) / (q.2 : Rat))
  push_cast
  grind
theorem shaped_fr (q : Q2) : SeqAt.shaped (fr q) = true := by simp [SeqAt.shaped, PyData.canLay0, PyData.depth, PyData.canLayAll0, PyData.depthAll]
theorem neDD_fr (p q : Q2) : neDD (fr p) (fr q) = some (.dat (.bool (decide (p ≠ q)))) := by
  show (if SeqAt.shaped (fr p) = true ∧ SeqAt.shaped (fr q) = true then some (PV.dat (.bool (!PyData.eqv (fr p) (fr q)))) else none) = _
  rw [if_pos ⟨shaped_fr p, shaped_fr q⟩]
  have e : PyData.eqv (fr p) (fr q) = decide (p = q) := by
    rw [Bool.eq_iff_iff]
    simp [PyData.eqv, PyData.eqvAll, Prod.ext_iff]
  rw [e]
  simp
theorem neg_eq (q : Q2) : F_l_negative [fr q] = some (.dat (fr (negF q))) := by
  unfold F_l_negative
  walk_at "r"
  rfl
noncomputable def cheapF (x y : Tr) : Bool := if x.a ≠ y.a then underF x.a y.a else if x.b ≠ y.b then underF x.b y.b else if x.c ≠ y.c then underF x.c y.c else false
theorem cheaperG {m n : Nat} {x y : Tr} (hx : TrOk m x) (hy : TrOk n y) (h : m + n ≤ 59999) : F_l_cheaper [trD x, trD y] = some (.dat (.bool (cheapF x y))) := by
  unfold F_l_cheaper cheapF
  walk_at "r"
  rw [rng1_int (by decide)]
  walk_at "r"
  rw [rng3]
  simp only [forD, B_l_cheaper_0]
  walk_at "r"
  rw [ix_tr0, ix_tr0]
  walk_at "r"
  rw [neDD_fr]
  walk_at "r"
  by_cases c1 : x.a ≠ y.a
  · rw [if_pos c1, if_pos c1, belowG hx.a hy.a h]
    rfl
  rw [if_neg c1, if_neg c1]
  walk_at "r"
  rw [ix_tr1, ix_tr1]
  walk_at "r"
  rw [neDD_fr]
  walk_at "r"
  by_cases c2 : x.b ≠ y.b
  · rw [if_pos c2, if_pos c2, belowG hx.b hy.b h]
    rfl
  rw [if_neg c2, if_neg c2]
  walk_at "r"
  rw [ix_tr2, ix_tr2]
  walk_at "r"
  rw [neDD_fr]
  walk_at "r"
  by_cases c3 : x.c ≠ y.c
  · rw [if_pos c3, if_pos c3, belowG hx.c hy.c h]
    rfl
  rw [if_neg c3, if_neg c3]
  rfl
structure Sh (k : Nat) (d : PyData) : Prop where
  c : d.canLay0 = true
  d : d.depth ≤ k
theorem Sh.mono {k l : Nat} {d : PyData} (h : Sh k d) (hl : k ≤ l) : Sh l d := ⟨h.c, Nat.le_trans h.d hl⟩
theorem Sh.shaped {k : Nat} {d : PyData} (h : Sh k d) (hk : k ≤ 64) : SeqAt.shaped d = true := by
  have := h.c
  have := h.d
  simp only [SeqAt.shaped, Bool.and_eq_true, decide_eq_true_eq]
  exact ⟨h.c, by omega⟩
mutual
theorem eqv_self : ∀ d : PyData, d.canLay0 = true → PyData.eqv d d = true
  | .none, _ => rfl
  | .bool b, _ => by simp [PyData.eqv]
  | .int i, _ => by simp [PyData.eqv]
  | .str x, _ => by simp [PyData.eqv]
  | .list xs, h => by rw [PyData.eqv]; exact eqvs_self xs (by simpa [PyData.canLay0] using h)
  | .tuple xs, h => by rw [PyData.eqv]; exact eqvs_self xs (by simpa [PyData.canLay0] using h)
  | .dict _, h => by simp [PyData.canLay0] at h
theorem eqvs_self : ∀ l : List PyData, PyData.canLayAll0 l = true → PyData.eqvAll l l = true
  | [], _ => rfl
  | x :: r, h => by
    have h' : x.canLay0 = true ∧ PyData.canLayAll0 r = true := by simpa [PyData.canLayAll0] using h
    rw [PyData.eqvAll, eqv_self x h'.1, eqvs_self r h'.2]
    rfl
end
theorem div_lt {a b c d : Int} (hb : 0 < b) (hd : 0 < d) : ((a : Rat) / (b : Rat) < (c : Rat) / (d : Rat)) ↔ a * d < c * b := by
  have hb' : (0 : Rat) < (b : Rat) := by exact_mod_cast hb
  have hd' : (0 : Rat) < (d : Rat) := by exact_mod_cast hd
  have e1 : (a : Rat) / (b : Rat) * ((b : Rat) * (d : Rat)) = (a : Rat) * (d : Rat) := by grind
  have e2 : (c : Rat) / (d : Rat) * ((b : Rat) * (d : Rat)) = (c : Rat) * (b : Rat) := by grind
  constructor
  · intro h
    have := Rat.mul_lt_mul_of_pos_right h (Rat.mul_pos hb' hd')
    rw [e1, e2] at this
    exact_mod_cast this
  · intro h
    have h' : (a : Rat) * (d : Rat) < (c : Rat) * (b : Rat) := by exact_mod_cast h
    refine Rat.lt_of_mul_lt_mul_right (c := (b : Rat) * (d : Rat)) ?_ (Rat.le_of_lt (Rat.mul_pos hb' hd'))
    rw [e1, e2]
    exact h'
theorem under_val {p q : Q2} (hp : 0 < p.2) (hq : 0 < q.2) : underF p q = decide (val p < val q) := by
  unfold underF val
  rw [decide_eq_decide]
  exact (div_lt hp hq).symm
theorem val_q0 : val (0, 1) = 0 := by
  rw [val_one]; rfl
theorem neg_iff {p : Q2} (hp : 0 < p.2) : p.1 < 0 ↔ val p < 0 := by
  have := div_lt (a := p.1) (b := p.2) (c := 0) (d := 1) hp (by decide)
  have e : ((0 : Int) : Rat) / ((1 : Int) : Rat) = 0 := by rw [show (((0 : Int) : Rat)) = 0 from rfl]; grind
  rw [e] at this
  unfold val
  rw [this]
  simp
theorem nn_iff {p : Q2} (hp : 0 < p.2) : 0 ≤ p.1 ↔ 0 ≤ val p := by
  have := neg_iff hp
  constructor
  · intro h
    exact Rat.not_lt.mp fun z => by have := this.mpr z; omega
  · intro h
    exact Int.not_lt.mp fun z => Rat.not_lt.mpr h (this.mp z)
structure FD (D M : Int) (q : Q2) : Prop where
  pos : 0 < q.2
  low : Int.gcd q.1 q.2 = 1
  dvd : q.2 ∣ D
  mag : (q.1.natAbs : Int) ≤ M * q.2
theorem FD.mono {D M D' M' : Int} {q : Q2} (h : FD D M q) (hd : D ∣ D') (hm : M ≤ M') : FD D' M' q :=
  ⟨h.pos, h.low, Int.dvd_trans h.dvd hd, Int.le_trans h.mag (Int.mul_le_mul_of_nonneg_right hm (Int.le_of_lt h.pos))⟩
theorem FD.frac {D M : Int} {q : Q2} {k : Nat} (h : FD D M q) (hD : 0 < D) (h1 : Bt k D) (h2 : Bt k (M * D)) : Frac k q := by
  have l := Int.le_of_dvd hD h.dvd
  have p := h.pos
  have m := h.mag
  have hM : 0 ≤ M := by
    rcases Int.lt_or_le M 0 with c | c
    · have := Int.mul_neg_of_neg_of_pos c p; omega
    · exact c
  have l2 : M * q.2 ≤ M * D := Int.mul_le_mul_of_nonneg_left l hM
  exact ⟨p, h.low, h2.of_le (by omega), h1.of_le (by omega)⟩
theorem low_eqs {t b : Int} (hb : 0 < b) : 0 < (lowF t b).2 ∧ Int.gcd (lowF t b).1 (lowF t b).2 = 1 ∧ (lowF t b).1 * b = t * (lowF t b).2 ∧ (lowF t b).2 ∣ b := by
  have hg : 0 < Int.gcd t b := Int.gcd_pos_of_ne_zero_right t (by omega)
  have hgi : (0 : Int) < gc t b := by show (0 : Int) < ((Int.gcd t b : Nat) : Int); omega
  have e : lowF t b = (t / gc t b, b / gc t b) := by
    unfold lowF
    rw [if_neg (by omega), Int.fdiv_eq_ediv_of_nonneg _ (by omega), Int.fdiv_eq_ediv_of_nonneg _ (by omega)]
  have d1 : gc t b ∣ t := Int.gcd_dvd_left ..
  have d2 : gc t b ∣ b := Int.gcd_dvd_right ..
  have m1 : t / gc t b * gc t b = t := Int.ediv_mul_cancel d1
  have m2 : b / gc t b * gc t b = b := Int.ediv_mul_cancel d2
  rw [e]
  refine ⟨Int.ediv_pos_of_pos_of_dvd hb (by omega) d2, Int.gcd_ediv_gcd_ediv_gcd hg, ?_, ⟨gc t b, m2.symm⟩⟩
  show t / gc t b * b = t * (b / gc t b)
  generalize gc t b = g at *
  have : t / g * b = t / g * (b / g * g) := by rw [m2]
  rw [this, Int.mul_comm (b / g) g, ← Int.mul_assoc, m1]
theorem low_dvd {t b c D : Int} (hb : 0 < b) (h : t * D = c * b) : (lowF t b).2 ∣ D := by
  obtain ⟨p, l, e, _⟩ := low_eqs (t := t) hb
  generalize (lowF t b).1 = x at *
  generalize (lowF t b).2 = y at *
  have k : x * D = c * y := by
    apply Int.eq_of_mul_eq_mul_right (show b ≠ 0 by omega)
    calc x * D * b = (x * b) * D := by simp only [Int.mul_left_comm, Int.mul_comm]
      _ = (t * D) * y := by rw [e]; simp only [Int.mul_left_comm, Int.mul_comm]
      _ = c * y * b := by rw [h]; simp only [Int.mul_left_comm, Int.mul_comm]
  have z : y ∣ x * D := ⟨c, by rw [k, Int.mul_comm]⟩
  have z' : y.natAbs ∣ x.natAbs * D.natAbs := by rw [← Int.natAbs_mul]; exact Int.natAbs_dvd_natAbs.mpr z
  have cp : Nat.Coprime y.natAbs x.natAbs := by rw [Nat.coprime_comm]; exact l
  exact Int.natAbs_dvd_natAbs.mp (cp.dvd_of_dvd_mul_left z')
theorem low_mag {t b M : Int} (hb : 0 < b) (h : (t.natAbs : Int) ≤ M * b) : (((lowF t b).1).natAbs : Int) ≤ M * (lowF t b).2 := by
  obtain ⟨p, l, e, _⟩ := low_eqs (t := t) hb
  generalize (lowF t b).1 = x at *
  generalize (lowF t b).2 = y at *
  have e' : (x.natAbs : Int) * b = (t.natAbs : Int) * y := by
    have := congrArg Int.natAbs e
    rw [Int.natAbs_mul, Int.natAbs_mul] at this
    have hb' : (b.natAbs : Int) = b := by omega
    have hy' : (y.natAbs : Int) = y := by omega
    rw [← hb', ← hy']
    exact_mod_cast this
  apply Int.le_of_mul_le_mul_right (a := b) _ hb
  rw [e']
  have := Int.mul_le_mul_of_nonneg_right h (Int.le_of_lt p)
  calc (t.natAbs : Int) * y ≤ M * b * y := this
    _ = M * y * b := by simp only [Int.mul_left_comm, Int.mul_comm]
theorem FD.plus {D M N : Int} {p q : Q2} (hp : FD D M p) (hq : FD D N q) : FD D (M + N) (plusF p q) := by
  have hb := Int.mul_pos hp.pos hq.pos
  obtain ⟨a, l, _, _⟩ := low_eqs (t := p.1 * q.2 + q.1 * p.2) hb
  obtain ⟨u, hu⟩ := hp.dvd
  obtain ⟨v, hv⟩ := hq.dvd
  refine ⟨a, l, low_dvd (c := p.1 * u + q.1 * v) hb ?_, low_mag hb ?_⟩
  · have e1 : p.1 * q.2 * D = p.1 * u * (p.2 * q.2) := by rw [hu]; simp only [Int.mul_left_comm, Int.mul_comm]
    have e2 : q.1 * p.2 * D = q.1 * v * (p.2 * q.2) := by rw [hv]; simp only [Int.mul_left_comm, Int.mul_comm]
    rw [Int.add_mul, Int.add_mul, e1, e2]
  · have h1 := Int.mul_le_mul_of_nonneg_right hp.mag (Int.le_of_lt hq.pos)
    have h2 := Int.mul_le_mul_of_nonneg_right hq.mag (Int.le_of_lt hp.pos)
    have a1 : ((p.1 * q.2).natAbs : Int) = (p.1.natAbs : Int) * q.2 := by
      rw [Int.natAbs_mul]; have : (q.2.natAbs : Int) = q.2 := by have := hq.pos; omega
      push_cast; rw [this]
    have a2 : ((q.1 * p.2).natAbs : Int) = (q.1.natAbs : Int) * p.2 := by
      rw [Int.natAbs_mul]; have : (p.2.natAbs : Int) = p.2 := by have := hp.pos; omega
      push_cast; rw [this]
    have a3 := Int.natAbs_add_le (p.1 * q.2) (q.1 * p.2)
    have e1 : (M + N) * (p.2 * q.2) = M * p.2 * q.2 + N * q.2 * p.2 := by rw [Int.add_mul]; simp only [Int.mul_left_comm, Int.mul_comm]
    omega
theorem FD.times {D E M N : Int} {p q : Q2} (hp : FD D M p) (hq : FD E N q) : FD (D * E) (M * N) (timesF p q) := by
  have hb := Int.mul_pos hp.pos hq.pos
  obtain ⟨a, l, _, d⟩ := low_eqs (t := p.1 * q.1) hb
  refine ⟨a, l, Int.dvd_trans d (Int.mul_dvd_mul hp.dvd hq.dvd), low_mag hb ?_⟩
  have : ((p.1 * q.1).natAbs : Int) = (p.1.natAbs : Int) * (q.1.natAbs : Int) := by rw [Int.natAbs_mul]; push_cast; rfl
  rw [this]
  have h0 : 0 ≤ M * p.2 := by have := hp.mag; omega
  calc (p.1.natAbs : Int) * (q.1.natAbs : Int) ≤ (M * p.2) * (N * q.2) := Int.mul_le_mul hp.mag hq.mag (by omega) h0
    _ = M * N * (p.2 * q.2) := by simp only [Int.mul_left_comm, Int.mul_comm]
noncomputable def q2 (x : Rat) : Q2 := (x.num, (x.den : Int))
noncomputable def qd (x : Rat) : PyData := fr (q2 x)
theorem q2_pos (x : Rat) : 0 < (q2 x).2 := by have := x.den_pos; show (0 : Int) < (x.den : Int); omega
theorem q2_cop (x : Rat) : Int.gcd (q2 x).1 (q2 x).2 = 1 := x.reduced
theorem val_q2 (x : Rat) : val (q2 x) = x := by
  show (x.num : Rat) / ((x.den : Int) : Rat) = x
  rw [← Rat.divInt_eq_div, Rat.num_divInt_den]
theorem num_pos {x : Rat} (h : 0 < x) : 0 < x.num := by
  have := (Rat.lt_iff 0 x).mp h
  simpa using this
theorem bt_any (i : Int) {m : Nat} (h : i.natAbs ≤ m) : Bt m i := ⟨Nat.lt_of_lt_of_le Nat.lt_two_pow_self (Nat.pow_le_pow_right (by decide) h)⟩
theorem frac_any {q : Q2} (h0 : 0 < q.2) (h1 : Int.gcd q.1 q.2 = 1) : Frac (q.1.natAbs + q.2.natAbs) q := ⟨h0, h1, bt_any _ (by omega), bt_any _ (by omega)⟩
theorem q2_val {q : Q2} (h0 : 0 < q.2) (h1 : Int.gcd q.1 q.2 = 1) : q = q2 (val q) := val_inj (frac_any h0 h1) (frac_any (q2_pos _) (q2_cop _)) (val_q2 _).symm
theorem q2_plus (x y : Rat) : plusF (q2 x) (q2 y) = q2 (x + y) := by
  obtain ⟨h0, h1, _, _⟩ := low_eqs (t := (q2 x).1 * (q2 y).2 + (q2 y).1 * (q2 x).2) (Int.mul_pos (q2_pos x) (q2_pos y))
  have := q2_val (q := plusF (q2 x) (q2 y)) h0 h1
  rwa [val_plus (q2_pos x) (q2_pos y), val_q2, val_q2] at this
theorem q2_times (x y : Rat) : timesF (q2 x) (q2 y) = q2 (x * y) := by
  obtain ⟨h0, h1, _, _⟩ := low_eqs (t := (q2 x).1 * (q2 y).1) (Int.mul_pos (q2_pos x) (q2_pos y))
  have := q2_val (q := timesF (q2 x) (q2 y)) h0 h1
  rwa [val_times (q2_pos x) (q2_pos y), val_q2, val_q2] at this
theorem q2_neg (x : Rat) : (-(q2 x).1, (q2 x).2) = q2 (-x) := rfl
theorem qd_int (n : Int) : PyData.tuple [.int n, .int 1] = qd (n : Rat) := rfl
theorem ix_qd0 (x : Rat) : ixD (qd x) (.int 0) = some (.dat (.int x.num)) := rfl
/-- small enough to be reckoned with -/
structure Ok (x : Rat) : Prop where
  f : Frac 3000 (q2 x)
structure DOk (D : Int) : Prop where
  pos : 0 < D
  bt : Bt 1000 D
structure Sz (D M : Int) (x : Rat) : Prop where
  f : FD D M (q2 x)
theorem Sz.m0 {D M : Int} {x : Rat} (h : Sz D M x) : 0 ≤ M := by
  have h1 := h.f.mag
  have h2 := h.f.pos
  rcases Int.lt_or_le M 0 with c | c
  · have := Int.mul_neg_of_neg_of_pos c h2; omega
  · exact c
theorem Sz.ok {D M : Int} {x : Rat} (h : Sz D M x) (hD : DOk D) (hM : M ≤ 2 ^ 200) : Ok x := by
  have h0 := h.m0
  have b : Bt 201 M := by
    have z : Bt 201 ((2 : Int) ^ 200) := ⟨by decide⟩
    exact z.of_le (by omega)
  exact ⟨h.f.frac hD.pos (hD.bt.mono (by decide)) ((b.mul hD.bt).mono (by decide))⟩
theorem Sz.mono {D M E N : Int} {x : Rat} (h : Sz D M x) (hd : D ∣ E) (hm : M ≤ N) : Sz E N x := ⟨h.f.mono hd hm⟩
theorem Sz.add {D M N : Int} {x y : Rat} (hx : Sz D M x) (hy : Sz D N y) : Sz D (M + N) (x + y) := ⟨by rw [← q2_plus]; exact hx.f.plus hy.f⟩
theorem Sz.neg {D M : Int} {x : Rat} (hx : Sz D M x) : Sz D M (-x) := by
  refine ⟨hx.f.pos, ?_, hx.f.dvd, ?_⟩
  · have := hx.f.low
    rw [← q2_neg]
    show Int.gcd (-(q2 x).1) (q2 x).2 = 1
    rw [Int.neg_gcd]; exact this
  · have := hx.f.mag
    rw [← q2_neg]
    show ((-(q2 x).1).natAbs : Int) ≤ _
    rw [Int.natAbs_neg]; exact this
theorem Sz.sub {D M N : Int} {x y : Rat} (hx : Sz D M x) (hy : Sz D N y) : Sz D (M + N) (x - y) := by rw [Rat.sub_eq_add_neg]; exact hx.add hy.neg
theorem Sz.mul {D E M N : Int} {x y : Rat} (hx : Sz D M x) (hy : Sz E N y) : Sz (D * E) (M * N) (x * y) := ⟨by rw [← q2_times]; exact hx.f.times hy.f⟩
noncomputable def mn (x y : Rat) : Rat := if x < y then x else y
theorem Sz.mn {D M N : Int} {x y : Rat} (hx : Sz D M x) (hy : Sz D N y) : Sz D (M + N) (Law.mn x y) := by
  have := hx.m0
  have := hy.m0
  unfold Law.mn
  split
  · exact hx.mono (Int.dvd_refl _) (by omega)
  · exact hy.mono (Int.dvd_refl _) (by omega)
theorem Sz.int {D M n : Int} (h : (n.natAbs : Int) ≤ M) : Sz D M (n : Rat) := by
  refine ⟨by show (0 : Int) < 1; decide, by show Int.gcd n 1 = 1; simp, by show (1 : Int) ∣ D; exact ⟨D, by simp⟩, ?_⟩
  show (n.natAbs : Int) ≤ M * 1
  omega
theorem Sz.zero {D M : Int} (h : 0 ≤ M) : Sz D M 0 := Sz.int (n := 0) (by simpa using h)
theorem Sz.ite {D M N : Int} {x y : Rat} {c : Prop} [Decidable c] (hx : Sz D M x) (hy : Sz D N y) : Sz D (M + N) (if c then x else y) := by
  have := hx.m0
  have := hy.m0
  split
  · exact hx.mono (Int.dvd_refl _) (by omega)
  · exact hy.mono (Int.dvd_refl _) (by omega)
theorem Ok.neg {x : Rat} (h : Ok x) : Ok (-x) := ⟨h.f.pos, by
    have := h.f.low
    rw [← q2_neg]
    show Int.gcd (-(q2 x).1) (q2 x).2 = 1
    rw [Int.neg_gcd]; exact this, by rw [← q2_neg]; exact h.f.bt.neg, h.f.bb⟩
theorem under_rat (x y : Rat) : underF (q2 x) (q2 y) = decide (x < y) := by
  rw [under_val (q2_pos x) (q2_pos y), val_q2, val_q2]
theorem ok_zero : Ok 0 := ⟨Frac.mono (m := 2) ⟨by decide, by decide, ⟨by decide⟩, ⟨by decide⟩⟩ (by decide)⟩
theorem inv_q2 {x : Rat} (h : 0 < x) : q2 x⁻¹ = ((q2 x).2, (q2 x).1) := by
  have hn : 0 < x.num := num_pos h
  have hc : Int.gcd (x.den : Int) x.num = 1 := by rw [Int.gcd_comm]; exact x.reduced
  have := q2_val (q := ((x.den : Int), x.num)) hn hc
  have e : val ((x.den : Int), x.num) = x⁻¹ := by
    have h1 := val_q2 x
    have h2 : val (q2 x) = (x.num : Rat) / ((x.den : Int) : Rat) := rfl
    show ((x.den : Int) : Rat) / (x.num : Rat) = x⁻¹
    rw [← h1, h2]
    have r1 := cast_ne (show x.num ≠ 0 by omega)
    have r2 := cast_ne (show (x.den : Int) ≠ 0 by have := x.den_pos; omega)
    grind
  rw [e] at this
  exact this.symm
end Law

set_option Elab.async false
set_option linter.all false
set_option maxRecDepth 100000
set_option maxHeartbeats 400000
namespace Law
open PySem L2
structure Hr where
  sun : Int
  need : Int
  line : Option (Int × Int × Int × Int)
noncomputable def lineD : Option (Int × Int × Int × Int) → PyData
  | none => .none
  | some (a, b, c, d) => .tuple [.int a, .int b, .int c, .int d]
noncomputable def hourD (h : Hr) : PyData := .tuple [.int h.sun, .int h.need, lineD h.line]
structure Wk where
  name : Str
  amount : Int
  first : Int
  last : Int
  most : Int
noncomputable def workD (w : Wk) : PyData := .tuple [.str w.name, .int w.amount, .int w.first, .int w.last, .int w.most]
structure House where
  hs : List Hr
  size : Int
  start : Int
  fill : Int
  take : Int
  kept : Q2
  left : Q2
  rest : Int
  ws : List Wk
noncomputable def storeD (h : House) : PyData := .tuple [.int h.size, .int h.start, .int h.fill, .int h.take, fr h.kept, fr h.left, .int h.rest]
noncomputable def houseD (h : House) : PyData := .tuple [.tuple (h.hs.map hourD), storeD h, .tuple (h.ws.map workD)]
theorem ix_house0 (h : House) : ixD (houseD h) (.int 0) = some (.dat (.tuple (h.hs.map hourD))) := rfl
theorem ix_house1 (h : House) : ixD (houseD h) (.int 1) = some (.dat (storeD h)) := rfl
theorem ix_house2 (h : House) : ixD (houseD h) (.int 2) = some (.dat (.tuple (h.ws.map workD))) := rfl
theorem ix_store0 (h : House) : ixD (storeD h) (.int 0) = some (.dat (.int h.size)) := rfl
theorem ix_store1 (h : House) : ixD (storeD h) (.int 1) = some (.dat (.int h.start)) := rfl
theorem ix_store2 (h : House) : ixD (storeD h) (.int 2) = some (.dat (.int h.fill)) := rfl
theorem ix_store3 (h : House) : ixD (storeD h) (.int 3) = some (.dat (.int h.take)) := rfl
theorem ix_store4 (h : House) : ixD (storeD h) (.int 4) = some (.dat (fr h.kept)) := rfl
theorem ix_store5 (h : House) : ixD (storeD h) (.int 5) = some (.dat (fr h.left)) := rfl
theorem ix_store6 (h : House) : ixD (storeD h) (.int 6) = some (.dat (.int h.rest)) := rfl
theorem ix_hour0 (h : Hr) : ixD (hourD h) (.int 0) = some (.dat (.int h.sun)) := rfl
theorem ix_hour1 (h : Hr) : ixD (hourD h) (.int 1) = some (.dat (.int h.need)) := rfl
theorem ix_hour2 (h : Hr) : ixD (hourD h) (.int 2) = some (.dat (lineD h.line)) := rfl
theorem ix_work1 (w : Wk) : ixD (workD w) (.int 1) = some (.dat (.int w.amount)) := rfl
theorem ix_work2 (w : Wk) : ixD (workD w) (.int 2) = some (.dat (.int w.first)) := rfl
theorem ix_work3 (w : Wk) : ixD (workD w) (.int 3) = some (.dat (.int w.last)) := rfl
theorem ix_work4 (w : Wk) : ixD (workD w) (.int 4) = some (.dat (.int w.most)) := rfl
noncomputable abbrev InB (i : Int) : Prop := 0 ≤ i ∧ i ≤ 1000000
noncomputable abbrev PrB (i : Int) : Prop := -1000000 ≤ i ∧ i ≤ 1000000
structure HrOk (h : Hr) : Prop where
  sun : InB h.sun
  need : InB h.need
  line : ∀ a b c d, h.line = some (a, b, c, d) → PrB a ∧ InB b ∧ PrB c ∧ InB d
structure WkOk (n : Int) (w : Wk) : Prop where
  amount : InB w.amount
  first : 0 ≤ w.first
  fl : w.first ≤ w.last
  last : w.last < n
  most : InB w.most
structure HouseOk (h : House) : Prop where
  hs : ∀ x ∈ h.hs, HrOk x
  h1 : 1 ≤ h.hs.length
  hl : h.hs.length ≤ 4
  size : InB h.size
  start : InB h.start
  full : h.start ≤ h.size
  fill : InB h.fill
  take : InB h.take
  kept : Frac 5 h.kept
  left : Frac 5 h.left
  kp : 0 < h.kept.1 ∧ h.kept.1 ≤ h.kept.2
  lf : 0 < h.left.1 ∧ h.left.1 ≤ h.left.2
  rest : InB h.rest
  ws : ∀ w ∈ h.ws, WkOk h.hs.length w
  wl : h.ws.length ≤ 2
theorem number_eq {ns : List Int} {k most : Int} (hl : ns.length ≤ 63) (hk0 : 0 ≤ k) (hk1 : k ≤ 100000) (m0 : 0 ≤ most) (m1 : most ≤ 12) : ∃ r : Int, F_l_number [scr ns, .int k, .int most] = some (.dat (.int r)) ∧ InB r := by
  obtain ⟨b', eb, b0', b1'⟩ := draw_eq (ns := ns) (k := 1) (m := 6) hl (by decide) (by decide) (by decide)
  obtain ⟨b, hb, b0, b1⟩ : ∃ b : Int, atI [PyData.int 1, .int 1, .int 1, .int 1, .int 1, .int 1000] b' = some (.int b) ∧ 0 ≤ b ∧ b ≤ 1000 := by
    have : b' = 0 ∨ b' = 1 ∨ b' = 2 ∨ b' = 3 ∨ b' = 4 ∨ b' = 5 := by omega
    rcases this with rfl | rfl | rfl | rfl | rfl | rfl <;> exact ⟨_, rfl, by decide, by decide⟩
  obtain ⟨c, ec, c0, c1⟩ := draw_eq (ns := ns) (k := k + 2900) (m := 8) hl (by omega) (by omega) (by decide)
  obtain ⟨d, ed, d0, d1⟩ := draw_eq (ns := ns) (k := k) (m := most + 1) hl (by omega) (by omega) (by omega)
  have fin : ∀ z : Int, 0 ≤ z → z ≤ 83333 → mulD (.int z) (.int d) = some (.dat (.int (z * d))) ∧ InB (z * d) := fun z h0 h1 => by
    refine ⟨mulD_int (Bt.s62 (by omega) (by omega)) (Bt.s62 (by omega) (by omega)), Int.mul_nonneg h0 d0, ?_⟩
    have : z * d ≤ 83333 * 12 := Int.mul_le_mul h1 (by omega) d0 (by decide)
    omega
  unfold F_l_number
  walk_at "r"
  rw [eb]
  walk_at "r"
  rw [hb]
  walk_at "r"
  rw [ec]
  walk_at "r"
  by_cases z : c = 0
  · rw [if_pos z]
    walk_at "r"
    rw [ed]
    walk_at "r"
    obtain ⟨h1, h2⟩ := fin 83333 (by decide) (by decide)
    rw [h1]
    exact ⟨_, rfl, h2⟩
  · rw [if_neg z]
    walk_at "r"
    rw [ed]
    walk_at "r"
    obtain ⟨h1, h2⟩ := fin b b0 (by omega)
    rw [h1]
    exact ⟨_, rfl, h2⟩
theorem low_share {t b : Int} (t1 : 1 ≤ t) (tb : t ≤ b) : 0 < (lowF t b).1 ∧ (lowF t b).1 ≤ (lowF t b).2 := by
  have hb : 0 < b := by omega
  have hg : 0 < Int.gcd t b := Int.gcd_pos_of_ne_zero_right t (by omega)
  have hgi : (0 : Int) < gc t b := by show (0 : Int) < ((Int.gcd t b : Nat) : Int); omega
  have e : lowF t b = (t / gc t b, b / gc t b) := by
    unfold lowF
    rw [if_neg (by omega), Int.fdiv_eq_ediv_of_nonneg _ (by omega), Int.fdiv_eq_ediv_of_nonneg _ (by omega)]
  rw [e]
  exact ⟨Int.ediv_pos_of_pos_of_dvd (by omega) (by omega) (Int.gcd_dvd_left ..), Int.ediv_le_ediv hgi tb⟩
theorem share_eq {ns : List Int} {k : Int} (hl : ns.length ≤ 63) (hk0 : 0 ≤ k) (hk1 : k ≤ 10000) : ∃ q : Q2, F_l_share [scr ns, .int k] = some (.dat (fr q)) ∧ Frac 5 q ∧ 0 < q.1 ∧ q.1 ≤ q.2 := by
  obtain ⟨b, e1, b0, b1⟩ := draw_eq (ns := ns) (k := k + 1) (m := 12) hl (by omega) (by omega) (by decide)
  obtain ⟨t, e2, t0, t1⟩ := draw_eq (ns := ns) (k := k + 2) (m := 1 + b) hl (by omega) (by omega) (by omega)
  obtain ⟨v, e3, v0, v1⟩ := draw_eq (ns := ns) (k := k) (m := 5) hl (by omega) (by omega) (by decide)
  have L : Frac 5 (lowF (1 + t) (1 + b)) := low_frac (by omega) ⟨by omega⟩ ⟨by omega⟩
  have S := low_share (t := 1 + t) (b := 1 + b) (by omega) (by omega)
  obtain ⟨q, hq, fq, sq⟩ : ∃ q : Q2, atI [.tuple [.int 1, .int 1], .tuple [.int 1, .int 2], .tuple [.int 9, .int 10], .tuple [.int 2, .int 3], fr (lowF (1 + t) (1 + b))] v = some (fr q) ∧ Frac 5 q ∧ 0 < q.1 ∧ q.1 ≤ q.2 := by
    have : v = 0 ∨ v = 1 ∨ v = 2 ∨ v = 3 ∨ v = 4 := by omega
    rcases this with rfl | rfl | rfl | rfl | rfl
    · exact ⟨(1, 1), rfl, ⟨by decide, by decide, ⟨by decide⟩, ⟨by decide⟩⟩, by decide⟩
    · exact ⟨(1, 2), rfl, ⟨by decide, by decide, ⟨by decide⟩, ⟨by decide⟩⟩, by decide⟩
    · exact ⟨(9, 10), rfl, ⟨by decide, by decide, ⟨by decide⟩, ⟨by decide⟩⟩, by decide⟩
    · exact ⟨(2, 3), rfl, ⟨by decide, by decide, ⟨by decide⟩, ⟨by decide⟩⟩, by decide⟩
    · exact ⟨_, rfl, L, S⟩
  unfold F_l_share
  walk_at "r"
  rw [e1]
  walk_at "r"
  rw [e2]
  walk_at "r"
  rw [norm_eq (by omega) (Bt.s62 (by omega) (by omega))]
  rw [appK_some (l := [.tuple [.int 1, .int 1], .tuple [.int 1, .int 2], .tuple [.int 9, .int 10], .tuple [.int 2, .int 3]]) _ rfl (by simp)]
  walk_at "r"
  rw [e3]
  walk_at "r"
  rw [hq]
  exact ⟨q, rfl, fq, sq⟩
theorem house_hour {ns : List Int} {t : Int} (hl : ns.length ≤ 63) (t0 : 0 ≤ t) (t1 : t < 4) (n : Option PV) (L : List PyData) (hL : L.length < 1000) (x4 x5 x6 x7 : Option PV) (r : Ds) :
    ∃ h : Hr, HrOk h ∧ ∃ y4 y5 y6 y7, B_l_house_0 (some (.dat (scr ns)) :: n :: some (.own L) :: iD t :: x4 :: x5 :: x6 :: x7 :: r) = some (.next (some (.dat (scr ns)) :: n :: some (.own (L ++ [hourD h])) :: iD t :: y4 :: y5 :: y6 :: y7 :: r)) := by
  have D := fun (j m : Int) (h0 : 0 ≤ j) (h1 : j < 100) (hm : 0 < m) => draw_eq (ns := ns) (k := 100 + 20 * t + j) (m := m) hl (by omega) (by omega) hm
  have N := fun (j : Int) (h0 : 0 ≤ j) (h1 : j < 100) => number_eq (ns := ns) (k := 100 + 20 * t + j) (most := 12) hl (by omega) (by omega) (by decide) (by decide)
  obtain ⟨d0, e0, p0, q0⟩ := draw_eq (ns := ns) (k := 100 + 20 * t) (m := 4) hl (by omega) (by omega) (by decide)
  obtain ⟨d1, e1, p1, q1⟩ := D 1 27 (by decide) (by decide) (by decide)
  obtain ⟨d3, e3, p3, q3⟩ := D 3 27 (by decide) (by decide) (by decide)
  obtain ⟨d7, e7, p7, q7⟩ := D 7 8 (by decide) (by decide) (by decide)
  obtain ⟨d8, e8, p8, q8⟩ := D 8 (2 * 10 ^ 6 + 1) (by decide) (by decide) (by decide)
  obtain ⟨n2, f2, b2⟩ := N 2 (by decide) (by decide)
  obtain ⟨n4, f4, b4⟩ := N 4 (by decide) (by decide)
  obtain ⟨n5, f5, b5⟩ := N 5 (by decide) (by decide)
  obtain ⟨n6, f6, b6⟩ := N 6 (by decide) (by decide)
  have pw : powD (.int 10) (.int 6) = some (.dat (.int (10 ^ 6))) := powD_int ⟨by decide, by decide, by decide⟩
  have ap : ∀ (pv : PV) (ds : Ds), ds[2]? = some (some (.own L)) → appK (some pv) 2 ds = some (.next (ds.set 2 (some (.own (L ++ [pv.d]))))) := fun pv ds h => appK_some pv h (by omega)
  unfold B_l_house_0
  walk_at "r"
  rw [mulD_int Bt.lit (Bt.s62 (by omega) (by omega))]
  walk_at "r"
  rw [e0]
  walk_at "r"
  by_cases c : 0 < d0
  · rw [if_pos c, e1]
    walk_at "r"
    rw [e3]
    walk_at "r"
    rw [e7]
    walk_at "r"
    by_cases c7 : d7 = 0
    · rw [if_pos c7, pw]
      walk_at "r"
      rw [mulD_int Bt.lit (by exact Bt.lit)]
      walk_at "r"
      rw [e8]
      walk_at "r"
      rw [f2, f4]
      walk_at "r"
      rw [f5, f6]
      walk_at "r"
      rw [ap _ _ rfl]
      exact ⟨⟨n5, n6, some (d8 - 10 ^ 6, n2, d3 - 6, n4)⟩, ⟨b5, b6, fun _ _ _ _ h => by
        cases h
        exact ⟨by omega, b2, by omega, b4⟩⟩, _, _, _, _, rfl⟩
    · rw [if_neg c7]
      walk_at "r"
      rw [f2, f4]
      walk_at "r"
      rw [f5, f6]
      walk_at "r"
      rw [ap _ _ rfl]
      exact ⟨⟨n5, n6, some (d1 - 6, n2, d3 - 6, n4)⟩, ⟨b5, b6, fun _ _ _ _ h => by
        cases h
        exact ⟨by omega, b2, by omega, b4⟩⟩, _, _, _, _, rfl⟩
  · rw [if_neg c]
    walk_at "r"
    rw [f5, f6]
    walk_at "r"
    rw [ap _ _ rfl]
    exact ⟨⟨n5, n6, none⟩, ⟨b5, b6, fun _ _ _ _ h => by cases h⟩, _, _, _, _, rfl⟩
theorem house_work {ns : List Int} {t n : Int} (hl : ns.length ≤ 63) (n0 : 1 ≤ n) (n1 : n ≤ 4) (t0 : 0 ≤ t) (t1 : t < 2) (x2 x3 x4 x5 x6 x7 x8 x9 x12 x13 : Option PV) (L : List PyData) (hL : L.length < 1000) :
    ∃ w : Wk, WkOk n w ∧ ∃ y4 y12 y13, B_l_house_1 [some (.dat (scr ns)), iD n, x2, x3, x4, x5, x6, x7, x8, x9, some (.own L), iD t, x12, x13] = some (.next [some (.dat (scr ns)), iD n, x2, x3, y4, x5, x6, x7, x8, x9, some (.own (L ++ [workD w])), iD t, y12, y13]) := by
  obtain ⟨d0, e0, p0, q0⟩ := draw_eq (ns := ns) (k := 200 + 10 * t) (m := n) hl (by omega) (by omega) (by omega)
  obtain ⟨d1, e1, p1, q1⟩ := draw_eq (ns := ns) (k := 200 + 10 * t + 1) (m := n - d0) hl (by omega) (by omega) (by omega)
  obtain ⟨n2, f2, b2⟩ := number_eq (ns := ns) (k := 200 + 10 * t + 2) (most := 12) hl (by omega) (by omega) (by decide) (by decide)
  obtain ⟨n3, f3, b3⟩ := number_eq (ns := ns) (k := 200 + 10 * t + 3) (most := 8) hl (by omega) (by omega) (by decide) (by decide)
  have ht : ∃ z, ixD (.str "ab") (.int t) = some (.dat (.str ⟨#[z]⟩)) := by
    have : t = 0 ∨ t = 1 := by omega
    rcases this with rfl | rfl <;> exact ⟨_, rfl⟩
  obtain ⟨z, hz⟩ := ht
  have ha : addD (.str "work") (.str ⟨#[z]⟩) = some (.dat (.str ("work" ++ ⟨#[z]⟩))) := addD_str (by show 4 + 1 ≤ 1000000; decide)
  unfold B_l_house_1
  walk_at "r"
  rw [mulD_int Bt.lit (Bt.s62 (by omega) (by omega))]
  walk_at "r"
  rw [e0]
  walk_at "r"
  rw [e1]
  walk_at "r"
  rw [hz]
  walk_at "r"
  rw [ha]
  walk_at "r"
  rw [f2, f3]
  walk_at "r"
  rw [appK_some _ (l := L) rfl (by omega)]
  exact ⟨⟨_, n2, d0, d0 + d1, n3⟩, ⟨b2, p0, by show d0 ≤ d0 + d1; omega, by show d0 + d1 < n; omega, b3⟩, _, _, _, rfl⟩
theorem house_eq {ns : List Int} (hl : ns.length ≤ 63) : ∃ h : House, F_l_house [scr ns] = some (.dat (houseD h)) ∧ HouseOk h := by
  obtain ⟨n', en, n0', n1'⟩ := draw_eq (ns := ns) (k := 10) (m := 8) hl (by decide) (by decide) (by decide)
  obtain ⟨n, hn, n0, n1⟩ : ∃ b : Int, atI [PyData.int 1, .int 2, .int 2, .int 3, .int 3, .int 2, .int 3, .int 4] n' = some (.int b) ∧ 1 ≤ b ∧ b ≤ 4 := by
    have : n' = 0 ∨ n' = 1 ∨ n' = 2 ∨ n' = 3 ∨ n' = 4 ∨ n' = 5 ∨ n' = 6 ∨ n' = 7 := by omega
    rcases this with rfl | rfl | rfl | rfl | rfl | rfl | rfl | rfl <;> exact ⟨_, rfl, by decide, by decide⟩
  obtain ⟨sz, es, bs⟩ := number_eq (ns := ns) (k := 20) (most := 12) hl (by decide) (by decide) (by decide) (by decide)
  obtain ⟨st, et, t0, t1⟩ := draw_eq (ns := ns) (k := 21) (m := sz + 1) hl (by decide) (by decide) (by omega)
  obtain ⟨f, ef, bf⟩ := number_eq (ns := ns) (k := 22) (most := 8) hl (by decide) (by decide) (by decide) (by decide)
  obtain ⟨g, eg, bg⟩ := number_eq (ns := ns) (k := 23) (most := 8) hl (by decide) (by decide) (by decide) (by decide)
  obtain ⟨kp, ekp, hkp, skp⟩ := share_eq (ns := ns) (k := 30) hl (by decide) (by decide)
  obtain ⟨lf, elf, hlf, slf⟩ := share_eq (ns := ns) (k := 40) hl (by decide) (by decide)
  obtain ⟨r, er, r0, r1⟩ := draw_eq (ns := ns) (k := 24) (m := 13) hl (by decide) (by decide) (by decide)
  obtain ⟨w', ew, w0', w1'⟩ := draw_eq (ns := ns) (k := 11) (m := 6) hl (by decide) (by decide) (by decide)
  obtain ⟨w, hw, w0, w1⟩ : ∃ b : Int, atI [PyData.int 0, .int 0, .int 1, .int 1, .int 2, .int 2] w' = some (.int b) ∧ 0 ≤ b ∧ b ≤ 2 := by
    have : w' = 0 ∨ w' = 1 ∨ w' = 2 ∨ w' = 3 ∨ w' = 4 ∨ w' = 5 := by omega
    rcases this with rfl | rfl | rfl | rfl | rfl | rfl <;> exact ⟨_, rfl, by decide, by decide⟩
  unfold F_l_house
  walk_at "r"
  rw [en]
  walk_at "r"
  rw [hn]
  walk_at "r"
  rw [rng1_int (by omega)]
  walk_at "r"
  obtain ⟨ds', h1, ⟨hs', hlen, hok, y3, y4, y5, y6, y7, rfl⟩⟩ := forD_rng (gt := sName 3) (G := B_l_house_0) (lo := 0) (n := n.toNat) (ds := [some (.dat (scr ns)), iD n, some (.own []), none, none, none, none, none, none, none, none, none, none, none])
    (fun i ds => ∃ hs : List Hr, hs.length = i ∧ (∀ x ∈ hs, HrOk x) ∧ ∃ y3 y4 y5 y6 y7, ds = [some (.dat (scr ns)), iD n, some (.own (hs.map hourD)), y3, y4, y5, y6, y7, none, none, none, none, none, none])
    ⟨[], rfl, by simp, none, none, none, none, none, rfl⟩ (by
      rintro i ds hi ⟨hs, hlen, hok, y3, y4, y5, y6, y7, rfl⟩
      obtain ⟨h, hh, z4, z5, z6, z7, e⟩ := house_hour (t := 0 + (i : Int)) hl (by omega) (by omega) (iD n) (hs.map hourD) (by simp; omega) y4 y5 y6 y7 [none, none, none, none, none, none]
      refine ⟨_, _, rfl, .inl e, hs ++ [h], by simp [hlen], ?_, iD (0 + (i : Int)), z4, z5, z6, z7, by rw [List.map_append]; rfl⟩
      intro x hx
      rcases List.mem_append.mp hx with hx | hx
      · exact hok x hx
      · simp at hx; subst hx; exact hh)
  rw [h1]
  walk_at "r"
  rw [es]
  walk_at "r"
  rw [et, ef, eg]
  walk_at "r"
  rw [ekp, elf, er]
  walk_at "r"
  rw [addD_tup (by simp)]
  walk_at "r"
  rw [ew]
  walk_at "r"
  rw [hw]
  walk_at "r"
  rw [rng1_int (by omega)]
  walk_at "r"
  obtain ⟨ds', h2, ⟨ws', wlen, wok, z4, z11, z12, z13, rfl⟩⟩ := forD_rng (gt := sName 11) (G := B_l_house_1) (lo := 0) (n := w.toNat) (ds := [some (.dat (scr ns)), iD n, some (.own (hs'.map hourD)), y3, y4, y5, y6, y7, iD sz, some (.dat (.tuple [.int sz, .int st, .int f, .int g, fr kp, fr lf, .int r])), some (.own []), none, none, none])
    (fun i ds => ∃ ws : List Wk, ws.length = i ∧ (∀ x ∈ ws, WkOk n x) ∧ ∃ y4 y11 y12 y13, ds = [some (.dat (scr ns)), iD n, some (.own (hs'.map hourD)), y3, y4, y5, y6, y7, iD sz, some (.dat (.tuple [.int sz, .int st, .int f, .int g, fr kp, fr lf, .int r])), some (.own (ws.map workD)), y11, y12, y13])
    ⟨[], rfl, by simp, y4, none, none, none, rfl⟩ (by
      rintro i ds hi ⟨ws, wlen, wok, y4, y11, y12, y13, rfl⟩
      obtain ⟨w, hw, z4, z12, z13, e⟩ := house_work (n := n) (t := 0 + (i : Int)) hl (by omega) (by omega) (by omega) (by omega) (some (.own (hs'.map hourD))) y3 y4 y5 y6 y7 (iD sz) (some (.dat (.tuple [.int sz, .int st, .int f, .int g, fr kp, fr lf, .int r]))) y12 y13 (ws.map workD) (by simp; omega)
      refine ⟨_, _, rfl, .inl e, ws ++ [w], by simp [wlen], ?_, z4, iD (0 + (i : Int)), z12, z13, by rw [List.map_append]; rfl⟩
      intro x hx
      rcases List.mem_append.mp hx with hx | hx
      · exact wok x hx
      · simp at hx; subst hx; exact hw)
  rw [h2]
  walk_at "r"
  refine ⟨⟨hs', sz, st, f, g, kp, lf, r, ws'⟩, rfl, ⟨hok, by show 1 ≤ hs'.length; omega, by show hs'.length ≤ 4; omega, bs, ⟨t0, by show st ≤ 1000000; omega⟩, by show st ≤ sz; omega, bf, bg, hkp, hlf, skp, slf, ⟨r0, by show r ≤ 1000000; omega⟩, ?_, by show ws'.length ≤ 2; omega⟩⟩
  intro x hx
  have e : (n : Int) = (hs'.length : Int) := by omega
  rw [← e]
  exact wok x hx
theorem rng_len (lo : Int) (n : Nat) : (rngI lo n).length = n := by simp [rngI]
noncomputable def zipL (l m : List PyData) : List PyData := List.zipWith (fun x y => .tuple [x, y]) l m
theorem zip_len (l m : List PyData) : (zipL l m).length = min l.length m.length := by simp [zipL]
theorem zip_get {α β : Type} {f : α → PyData} {g : β → PyData} {l : List α} {m : List β} {i : Nat} {d : PyData} (a : α) (b : β) (h : (zipL (l.map f) (m.map g))[i]? = some d) :
    i < l.length ∧ i < m.length ∧ d = .tuple [f (l.getD i a), g (m.getD i b)] := by
  have hi : i < min l.length m.length := by
    by_cases c : i < min l.length m.length
    · exact c
    · rw [List.getElem?_eq_none (by rw [zip_len]; simp; omega)] at h; cases h
  have h1 : i < l.length := by omega
  have h2 : i < m.length := by omega
  refine ⟨h1, h2, ?_⟩
  unfold zipL at h
  rw [List.getElem?_zipWith] at h
  simp only [List.getElem?_map, List.getElem?_eq_getElem h1, List.getElem?_eq_getElem h2, Option.map_some] at h
  cases h
  simp [List.getD_eq_getElem?_getD, h1, h2]
theorem at_getD {α : Type} {f : α → PyData} {l : List α} (a : α) {i : Nat} (h : i < l.length) : atI (l.map f) (i : Int) = some (f (l.getD i a)) := by
  rw [atI_lit (n := i) rfl (by simpa using h), List.getElem?_map, List.getElem?_eq_getElem h]
  simp [List.getD_eq_getElem?_getD, h]
noncomputable abbrev q0 : Q2 := (0, 1)
theorem frac_q0 {m : Nat} (hm : 1 ≤ m) : Frac m q0 := one_frac (Bt.mono (m := 1) ⟨by decide⟩ hm) hm
noncomputable abbrev frs (l : List Q2) : PyData := .list (l.map fr)
noncomputable def AllF (k : Nat) (l : List Q2) : Prop := ∀ q ∈ l, Frac k q
theorem AllF.at {k : Nat} {l : List Q2} (h : AllF k l) {i : Nat} (hi : i < l.length) : Frac k (l.getD i q0) := by
  rw [List.getD_eq_getElem?_getD, List.getElem?_eq_getElem hi]
  exact h _ (List.getElem_mem ..)
theorem AllF.mono {k m : Nat} {l : List Q2} (h : AllF k l) (hl : k ≤ m) : AllF m l := fun q hq => (h q hq).mono hl
noncomputable def TopsF (k : Nat) (l : List (Option Q2)) : Prop := ∀ t, some t ∈ l → Frac k t
theorem TopsF.at {k : Nat} {l : List (Option Q2)} (h : TopsF k l) {i : Nat} {t : Q2} (e : l.getD i none = some t) : Frac k t := by
  by_cases hi : i < l.length
  · rw [List.getD_eq_getElem?_getD, List.getElem?_eq_getElem hi] at e
    exact h t (by rw [← (show l[i] = some t from e)]; exact List.getElem_mem ..)
  · rw [List.getD_eq_getElem?_getD, List.getElem?_eq_none (by omega)] at e
    cases e
noncomputable abbrev tr0 : Tr := ⟨q0, q0, q0⟩
theorem tr0_ok {m : Nat} (h : 1 ≤ m) : TrOk m tr0 := ⟨frac_q0 h, frac_q0 h, frac_q0 h⟩
noncomputable def AllT (k : Nat) (l : List Tr) : Prop := ∀ x ∈ l, TrOk k x
theorem AllT.at {k : Nat} {l : List Tr} (h : AllT k l) {i : Nat} (hi : i < l.length) : TrOk k (l.getD i tr0) := by
  rw [List.getD_eq_getElem?_getD, List.getElem?_eq_getElem hi]
  exact h _ (List.getElem_mem ..)
noncomputable def mulT (x : Tr) (q : Q2) : Tr := ⟨timesF x.a q, timesF x.b q, timesF x.c q⟩
noncomputable def addT (x y : Tr) : Tr := ⟨plusF x.a y.a, plusF x.b y.b, plusF x.c y.c⟩
theorem mulT_ok {m n : Nat} {x : Tr} {q : Q2} (hx : TrOk m x) (hq : Frac n q) : TrOk (m + n) (mulT x q) := ⟨times_frac hx.a hq, times_frac hx.b hq, times_frac hx.c hq⟩
theorem multG {m n : Nat} {x : Tr} {q : Q2} (hx : TrOk m x) (hq : Frac n q) (h : m + n ≤ 7998) : F_multiplied [trD x, fr q] = some (.dat (trD (mulT x q))) := by
  unfold F_multiplied
  walk_at "r"
  rw [ix_tr0, ix_tr1, ix_tr2]
  walk_at "r"
  rw [timesG hx.a hq h, timesG hx.b hq h, timesG hx.c hq h]
  rfl
theorem addG {m n : Nat} {x y : Tr} (hx : TrOk m x) (hy : TrOk n y) (h : m + n ≤ 7998) : F_added [trD x, trD y] = some (.dat (trD (addT x y))) := by
  unfold F_added
  walk_at "r"
  rw [ix_tr0, ix_tr1, ix_tr2, ix_tr0, ix_tr1, ix_tr2]
  walk_at "r"
  rw [plusG hx.a hy.a h, plusG hx.b hy.b h, plusG hx.c hy.c h]
  rfl
theorem zip_tr (x y : Tr) : zipD [trD x, trD y] = some [.tuple [fr x.a, fr y.a], .tuple [fr x.b, fr y.b], .tuple [fr x.c, fr y.c]] := rfl
theorem aheadG {m n : Nat} {x y : Tr} (hx : TrOk m x) (hy : TrOk n y) (h : m + n ≤ 59999) : F_ahead [trD x, trD y] = some (.dat (.bool (cheapF x y))) := by
  unfold F_ahead cheapF
  walk_at "r"
  rw [zip_tr]
  simp only [Option.bind_some]
  simp only [forD, B_ahead_0]
  walk_at "r"
  rw [neDD_fr]
  walk_at "r"
  by_cases c1 : x.a ≠ y.a
  · rw [if_pos c1, if_pos c1, underG hx.a hy.a h]
    rfl
  rw [if_neg c1, if_neg c1]
  walk_at "r"
  rw [neDD_fr]
  walk_at "r"
  by_cases c2 : x.b ≠ y.b
  · rw [if_pos c2, if_pos c2, underG hx.b hy.b h]
    rfl
  rw [if_neg c2, if_neg c2]
  walk_at "r"
  rw [neDD_fr]
  walk_at "r"
  by_cases c3 : x.c ≠ y.c
  · rw [if_pos c3, if_pos c3, underG hx.c hy.c h]
    rfl
  rw [if_neg c3, if_neg c3]
  rfl
noncomputable def sumR (f : Nat → Rat) : Nat → Rat
  | 0 => 0
  | n + 1 => sumR f n + f n
theorem sumR_congr {f g : Nat → Rat} : ∀ n, (∀ i, i < n → f i = g i) → sumR f n = sumR g n
  | 0, _ => rfl
  | n + 1, h => by
    show sumR f n + f n = sumR g n + g n
    rw [sumR_congr n fun i hi => h i (by omega), h n (by omega)]
theorem sumR_sub (f g : Nat → Rat) : ∀ n, sumR (fun i => f i - g i) n = sumR f n - sumR g n
  | 0 => by show (0 : Rat) = 0 - 0; grind
  | n + 1 => by
    show sumR (fun i => f i - g i) n + (f n - g n) = (sumR f n + f n) - (sumR g n + g n)
    rw [sumR_sub f g n]
    grind
theorem sumR_mul (f : Nat → Rat) (c : Rat) : ∀ n, sumR f n * c = sumR (fun i => f i * c) n
  | 0 => by show (0 : Rat) * c = 0; grind
  | n + 1 => by
    show (sumR f n + f n) * c = sumR (fun i => f i * c) n + f n * c
    rw [← sumR_mul f c n]
    grind
theorem sumR_add (f g : Nat → Rat) : ∀ n, sumR (fun i => f i + g i) n = sumR f n + sumR g n
  | 0 => by show (0 : Rat) = 0 + 0; grind
  | n + 1 => by
    show sumR (fun i => f i + g i) n + (f n + g n) = (sumR f n + f n) + (sumR g n + g n)
    rw [sumR_add f g n]
    grind
theorem sumR_zero : ∀ n, sumR (fun _ => 0) n = 0
  | 0 => rfl
  | n + 1 => by show sumR (fun _ => 0) n + 0 = 0; rw [sumR_zero n]; grind
theorem sumR_comm (f : Nat → Nat → Rat) (m : Nat) : ∀ n, sumR (fun j => sumR (fun i => f i j) m) n = sumR (fun i => sumR (fun j => f i j) n) m
  | 0 => by
    show (0 : Rat) = sumR (fun i => 0) m
    rw [sumR_zero]
  | n + 1 => by
    show sumR (fun j => sumR (fun i => f i j) m) n + sumR (fun i => f i n) m = sumR (fun i => sumR (fun j => f i j) n + f i n) m
    rw [sumR_comm f m n, sumR_add]
/-- a part of a triple -/
structure Part (π : Tr → Q2) : Prop where
  more : ∀ x y q, π (moreF x y q) = plusF (π x) (timesF (π y) q)
  ok : ∀ k x, TrOk k x → Frac k (π x)
  nought : π tr0 = q0
theorem part_a : Part Tr.a := ⟨fun _ _ _ => rfl, fun _ _ h => h.a, rfl⟩
theorem part_b : Part Tr.b := ⟨fun _ _ _ => rfl, fun _ _ h => h.b, rfl⟩
theorem part_c : Part Tr.c := ⟨fun _ _ _ => rfl, fun _ _ h => h.c, rfl⟩
theorem Part.val_more {π : Tr → Q2} (P : Part π) {x y : Tr} {q : Q2} {k l m : Nat} (hx : TrOk k x) (hy : TrOk l y) (hq : Frac m q) : val (π (moreF x y q)) = val (π x) + val (π y) * val q := by
  rw [P.more, val_plus (P.ok _ _ hx).pos (times_frac (P.ok _ _ hy) hq).pos, val_times (P.ok _ _ hy).pos hq.pos]
/-- from nought on, by the first part that isn't nought -/
noncomputable def NN (a b c : Rat) : Prop := 0 < a ∨ (a = 0 ∧ (0 < b ∨ (b = 0 ∧ 0 ≤ c)))
theorem NN.add {a b c x y z : Rat} (h : NN a b c) (k : NN x y z) : NN (a + x) (b + y) (c + z) := by
  unfold NN at *
  grind
theorem NN.zero : NN 0 0 0 := .inr ⟨rfl, .inr ⟨rfl, Rat.le_refl⟩⟩
theorem NN.mul {a b c k : Rat} (h : NN a b c) (hk : 0 ≤ k) : NN (a * k) (b * k) (c * k) := by
  by_cases z : k = 0
  · subst z
    have e : ∀ x : Rat, x * 0 = 0 := fun x => by grind
    rw [e, e, e]
    exact NN.zero
  · have p : 0 < k := by grind
    rcases h with h | ⟨rfl, h | ⟨rfl, h⟩⟩
    · exact .inl (Rat.mul_pos h p)
    · exact .inr ⟨by grind, .inl (Rat.mul_pos h p)⟩
    · exact .inr ⟨by grind, .inr ⟨by grind, Rat.mul_nonneg h hk⟩⟩
theorem NN.sum {fa fb fc : Nat → Rat} : ∀ n, (∀ j, j < n → NN (fa j) (fb j) (fc j)) → NN (sumR fa n) (sumR fb n) (sumR fc n)
  | 0, _ => NN.zero
  | n + 1, h => (NN.sum n fun j hj => h j (by omega)).add (h n (by omega))
theorem cheap_iff {k l : Nat} {x y : Tr} (hx : TrOk k x) (hy : TrOk l y) : cheapF x y = false ↔ NN (val x.a - val y.a) (val x.b - val y.b) (val x.c - val y.c) := by
  have key : ∀ {p q : Q2}, Frac k p → Frac l q → (p = q ↔ val p = val q) := fun hp hq => ⟨fun e => by rw [e], fun e => val_inj hp hq e⟩
  unfold cheapF NN
  have ka := key hx.a hy.a
  have kb := key hx.b hy.b
  have kc := key hx.c hy.c
  rw [under_val hx.a.pos hy.a.pos, under_val hx.b.pos hy.b.pos, under_val hx.c.pos hy.c.pos]
  by_cases c1 : x.a = y.a
  · have v1 := ka.mp c1
    rw [if_neg (fun z => z c1)]
    by_cases c2 : x.b = y.b
    · have v2 := kb.mp c2
      rw [if_neg (fun z => z c2)]
      by_cases c3 : x.c = y.c
      · have v3 := kc.mp c3
        rw [if_neg (fun z => z c3)]
        simp only [true_iff]
        grind
      · have v3 : val x.c ≠ val y.c := fun z => c3 (kc.mpr z)
        rw [if_pos c3, decide_eq_false_iff_not]
        grind
    · have v2 : val x.b ≠ val y.b := fun z => c2 (kb.mpr z)
      rw [if_pos c2, decide_eq_false_iff_not]
      grind
  · have v1 : val x.a ≠ val y.a := fun z => c1 (ka.mpr z)
    rw [if_pos c1, decide_eq_false_iff_not]
    grind
theorem cheap_neg {k : Nat} {x : Tr} (hx : TrOk k x) (h : cheapF x tr0 = true) : NN (- val x.a) (- val x.b) (- val x.c) := by
  have : ¬ NN (val x.a - val q0) (val x.b - val q0) (val x.c - val q0) := fun z => by
    have := (cheap_iff hx (tr0_ok (m := 1) (by decide))).mpr z
    rw [h] at this
    cases this
  rw [val_q0] at this
  unfold NN at *
  grind
theorem cheap_nn {k : Nat} {x : Tr} (hx : TrOk k x) (h : cheapF x tr0 = false) : NN (val x.a) (val x.b) (val x.c) := by
  have := (cheap_iff hx (tr0_ok (m := 1) (by decide))).mp h
  have e : ∀ r : Rat, r - val q0 = r := fun r => by rw [val_q0]; grind
  rwa [e, e, e] at this
noncomputable abbrev m1 : Q2 := (-1, 1)
theorem frac_m1 {k : Nat} (hk : 1 ≤ k) : Frac k m1 := one_frac (Bt.mono (m := 1) ⟨by decide⟩ hk) hk
structure Pr where
  here : List Tr
  stored : List Tr
  done : List Tr
noncomputable abbrev trT (l : List Tr) : PyData := .tuple (l.map trD)
noncomputable def pricesD (P : Pr) : PyData := .tuple [trT P.here, trT P.stored, trT P.done]
theorem ix_pr0 (P : Pr) : ixD (pricesD P) (.int 0) = some (.dat (trT P.here)) := rfl
theorem ix_pr1 (P : Pr) : ixD (pricesD P) (.int 1) = some (.dat (trT P.stored)) := rfl
theorem ix_pr2 (P : Pr) : ixD (pricesD P) (.int 2) = some (.dat (trT P.done)) := rfl
structure PrcOk (n w : Nat) (P : Pr) : Prop where
  hl : P.here.length = n
  sl : P.stored.length = n
  dl : P.done.length = w
  hf : AllT 10 P.here
  sf : AllT 10 P.stored
  df : AllT 10 P.done
  nn : ∀ x ∈ P.here, cheapF x tr0 = false
theorem AllT.snoc {k : Nat} {l : List Tr} {x : Tr} (h : AllT k l) (hx : TrOk k x) : AllT k (l ++ [x]) := fun y hy => by
  rcases List.mem_append.mp hy with hy | hy
  · exact h y hy
  · simp at hy; subst hy; exact hx
theorem value_eq {ns : List Int} {k : Int} (hl : ns.length ≤ 63) (hk0 : 0 ≤ k) (hk1 : k ≤ 100000) : ∃ q : Q2, F_l_value [scr ns, .int k] = some (.dat (fr q)) ∧ Frac 6 q := by
  obtain ⟨b', eb, b0', b1'⟩ := draw_eq (ns := ns) (k := k + 1900) (m := 5) hl (by omega) (by omega) (by decide)
  obtain ⟨b, hb, b0, b1⟩ : ∃ b : Int, atI [PyData.int 1, .int 1, .int 2, .int 3, .int 10] b' = some (.int b) ∧ 0 < b ∧ b ≤ 10 := by
    have : b' = 0 ∨ b' = 1 ∨ b' = 2 ∨ b' = 3 ∨ b' = 4 := by omega
    rcases this with rfl | rfl | rfl | rfl | rfl <;> exact ⟨_, rfl, by decide, by decide⟩
  obtain ⟨d, ed, d0, d1⟩ := draw_eq (ns := ns) (k := k) (m := 41) hl (by omega) (by omega) (by decide)
  unfold F_l_value
  walk_at "r"
  rw [eb]
  walk_at "r"
  rw [hb]
  walk_at "r"
  rw [ed]
  walk_at "r"
  rw [norm_eq b0 (Bt.s62 (by omega) (by omega))]
  exact ⟨_, rfl, low_frac b0 ⟨by omega⟩ ⟨by omega⟩⟩
theorem triple_eq {ns : List Int} {k : Int} (hl : ns.length ≤ 63) (hk0 : 0 ≤ k) (hk1 : k ≤ 50000) : ∃ x : Tr, F_l_triple [scr ns, .int k] = some (.dat (trD x)) ∧ TrOk 6 x := by
  obtain ⟨d1, e1, p1, r1⟩ := draw_eq (ns := ns) (k := k + 1) (m := 3) hl (by omega) (by omega) (by decide)
  obtain ⟨d2, e2, p2, r2⟩ := draw_eq (ns := ns) (k := k + 2) (m := 5) hl (by omega) (by omega) (by decide)
  obtain ⟨d3, e3, p3, r3⟩ := draw_eq (ns := ns) (k := k + 3) (m := 3) hl (by omega) (by omega) (by decide)
  obtain ⟨d4, e4, p4, r4⟩ := draw_eq (ns := ns) (k := k + 4) (m := 3) hl (by omega) (by omega) (by decide)
  obtain ⟨d5, e5, p5, r5⟩ := draw_eq (ns := ns) (k := k + 5) (m := 5) hl (by omega) (by omega) (by decide)
  obtain ⟨d6, e6, p6, r6⟩ := draw_eq (ns := ns) (k := k + 6) (m := 3) hl (by omega) (by omega) (by decide)
  obtain ⟨v, ev, fv⟩ := value_eq (ns := ns) (k := k + 7) hl (by omega) (by omega)
  have Z : Frac 6 q0 := frac_q0 (by decide)
  have L1 : Frac 6 (lowF (d2 - 2) (1 + d3)) := low_frac (by omega) ⟨by omega⟩ ⟨by omega⟩
  have L2 : Frac 6 (lowF (d5 - 2) (1 + d6)) := low_frac (by omega) ⟨by omega⟩ ⟨by omega⟩
  have fz : PyData.tuple [.int 0, .int 1] = fr q0 := rfl
  unfold F_l_triple
  walk_at "r"
  rw [e1]
  walk_at "r"
  rw [e2]
  walk_at "r"
  rw [e3]
  walk_at "r"
  rw [norm_eq (by omega) (Bt.s62 (by omega) (by omega))]
  walk_at "r"
  have first : ∃ a : Q2, Frac 6 a ∧ (if d1 = 0 then some (Out.next [some (.dat (scr ns)), iD k, some (.dat (fr (lowF (d2 - 2) (1 + d3)))), some (.dat (fr q0))]) else some (Out.next [some (.dat (scr ns)), iD k, some (.dat (fr q0)), some (.dat (fr q0))])) = some (Out.next [some (.dat (scr ns)), iD k, some (.dat (fr a)), some (.dat (fr q0))]) := by
    by_cases c : d1 = 0
    · exact ⟨_, L1, if_pos c⟩
    · exact ⟨q0, Z, if_neg c⟩
  obtain ⟨a, ha, ea⟩ := first
  rw [fz, ea]
  walk_at "r"
  rw [e4]
  walk_at "r"
  rw [e5]
  walk_at "r"
  rw [e6]
  walk_at "r"
  rw [norm_eq (by omega) (Bt.s62 (by omega) (by omega))]
  walk_at "r"
  have second : ∃ b : Q2, Frac 6 b ∧ (if d4 = 0 then some (Out.next [some (.dat (scr ns)), iD k, some (.dat (fr a)), some (.dat (fr (lowF (d5 - 2) (1 + d6))))]) else some (Out.next [some (.dat (scr ns)), iD k, some (.dat (fr a)), some (.dat (fr q0))])) = some (Out.next [some (.dat (scr ns)), iD k, some (.dat (fr a)), some (.dat (fr b))]) := by
    by_cases c : d4 = 0
    · exact ⟨_, L2, if_pos c⟩
    · exact ⟨q0, Z, if_neg c⟩
  obtain ⟨b, hb, eb⟩ := second
  rw [eb]
  walk_at "r"
  rw [ev]
  walk_at "r"
  exact ⟨⟨a, b, v⟩, rfl, ha, hb, fv⟩
theorem turned_nn {k : Nat} {x : Tr} (h : TrOk k x) (hc : cheapF x tr0 = true) : cheapF (moreF tr0 x m1) tr0 = false := by
  have t : TrOk (1 + (k + 1) + 1) (moreF tr0 x m1) := more_ok (tr0_ok (by decide)) h (frac_m1 (k := 1) (by decide))
  rw [cheap_iff t (tr0_ok (m := 1) (by decide))]
  have n := cheap_neg h hc
  have e : ∀ π, Part π → val (π (moreF tr0 x m1)) - val q0 = - val (π x) := fun π P => by
    rw [P.val_more (tr0_ok (m := 1) (by decide)) h (frac_m1 (k := 1) (by decide)), P.nought, val_q0, val_one]
    have : ((-1 : Int) : Rat) = -1 := rfl
    rw [this]
    grind
  show NN (_ - val q0) (_ - val q0) (_ - val q0)
  rw [e _ part_a, e _ part_b, e _ part_c]
  exact n
theorem tr0_nn : cheapF tr0 tr0 = false := rfl
theorem triples_eq {ns : List Int} {n : Nat} {E : Ds → Option PV} {ds : Ds} {k : Nat → Int} (hl : ns.length ≤ 63) (hk : ∀ i, i < n → 0 ≤ k i ∧ k i ≤ 50000) (hE : ∀ i, i < n → E (some (.dat (.int (0 + (i : Nat)))) :: ds) = F_l_triple [scr ns, .int (k i)]) : ∃ l : List Tr, compD gtName bTrue E ds (rngI 0 n) = some (l.map trD) ∧ l.length = n ∧ AllT 10 l := by
  have D := fun i : Nat => fun h : 0 ≤ k i ∧ k i ≤ 50000 => triple_eq (ns := ns) (k := k i) hl h.1 h.2
  let d : Nat → Tr := fun i => if h : 0 ≤ k i ∧ k i ≤ 50000 then (D i h).choose else tr0
  have hd : ∀ i, i < n → F_l_triple [scr ns, .int (k i)] = some (.dat (trD (d i))) ∧ TrOk 6 (d i) := fun i hi => by
    have e : d i = (D i (hk i hi)).choose := dif_pos (hk i hi)
    rw [e]
    exact (D i (hk i hi)).choose_spec
  refine ⟨(List.range n).map d, ?_, by simp, fun x hx => ?_⟩
  · rw [comp_rng (f := fun i : Nat => trD (d i)) (fun i hi => ⟨PV.dat (trD (d i)), by rw [hE i hi]; exact (hd i hi).1, rfl⟩), List.map_map]
    rfl
  · obtain ⟨j, hj, rfl⟩ := List.mem_map.mp hx
    exact (hd j (List.mem_range.mp hj)).2.mono (by decide)
theorem prices_eq {ns : List Int} {h : House} {k : Int} (hl : ns.length ≤ 63) (n1 : h.hs.length ≤ 24) (w1 : h.ws.length ≤ 6) (k0 : 0 ≤ k) (k1 : k ≤ 20000) : ∃ P : Pr, F_l_prices [scr ns, houseD h, .int k] = some (.dat (pricesD P)) ∧ PrcOk h.hs.length h.ws.length P := by
  have ez : PyData.tuple [.tuple [.int 0, .int 1], .tuple [.int 0, .int 1], .tuple [.int 0, .int 1]] = trD tr0 := rfl
  unfold F_l_prices
  walk_at "r"
  rw [ix_house0]
  walk_at "r"
  rw [List.length_map, rng1_int (by omega)]
  walk_at "r"
  rw [ez, Int.toNat_natCast]
  obtain ⟨ds', h1, here, g1, g2, g3, y5, y6, rfl⟩ := forD_rng (gt := sName 5) (G := B_l_prices_0) (lo := 0) (n := h.hs.length) (ds := [some (.dat (scr ns)), some (.dat (houseD h)), iD k, some (.dat (trD tr0)), some (.own []), none, none, none, none])
    (fun i ds => ∃ l : List Tr, l.length = i ∧ AllT 10 l ∧ (∀ x ∈ l, cheapF x tr0 = false) ∧ ∃ y5 y6, ds = [some (.dat (scr ns)), some (.dat (houseD h)), iD k, some (.dat (trD tr0)), some (.own (l.map trD)), y5, y6, none, none])
    ⟨[], rfl, fun x hx => by simp at hx, fun x hx => by simp at hx, none, none, rfl⟩ (by
      rintro i ds hi ⟨l, l1, l2, l3, y5, y6, rfl⟩
      obtain ⟨x, ex, fx⟩ := triple_eq (ns := ns) (k := k + 10 * (i : Int)) hl (by omega) (by omega)
      obtain ⟨d, ed, d0, d1⟩ := draw_eq (ns := ns) (k := k + 10 * (i : Int) + 8) (m := 6) hl (by omega) (by omega) (by decide)
      have tk : TrOk 10 (moreF tr0 x m1) := (more_ok (tr0_ok (m := 1) (by decide)) fx (frac_m1 (k := 1) (by decide))).mono (by decide)
      have st : ∃ z : Tr, B_l_prices_0 [some (.dat (scr ns)), some (.dat (houseD h)), iD k, some (.dat (trD tr0)), some (.own (l.map trD)), iD (0 + (i : Int)), y6, none, none] = some (.next [some (.dat (scr ns)), some (.dat (houseD h)), iD k, some (.dat (trD tr0)), some (.own ((l ++ [z]).map trD)), iD (0 + (i : Int)), some (.dat (trD z)), none, none]) ∧ TrOk 10 z ∧ cheapF z tr0 = false := by
        have ap : ∀ (z : Tr) (x5 : Option PV), appK (some (.dat (trD z))) 4 [some (.dat (scr ns)), some (.dat (houseD h)), iD k, some (.dat (trD tr0)), some (.own (l.map trD)), x5, some (.dat (trD z)), none, none] = some (.next [some (.dat (scr ns)), some (.dat (houseD h)), iD k, some (.dat (trD tr0)), some (.own ((l ++ [z]).map trD)), x5, some (.dat (trD z)), none, none]) := fun z x5 => by
          rw [appK_some (l := l.map trD) _ rfl (by rw [List.length_map]; omega), List.map_append]
          rfl
        refine ⟨if d = 0 then tr0 else if cheapF x tr0 = true then moreF tr0 x m1 else x, ?_, ?_, ?_⟩
        · unfold B_l_prices_0
          rw [Int.zero_add]
          walk_at "r"
          rw [mulD_int Bt.lit (Bt.s62 (by omega) (by omega))]
          walk_at "r"
          rw [ex]
          walk_at "r"
          rw [cheaperG fx (tr0_ok (m := 1) (by decide)) (by decide)]
          walk_at "r"
          rw [show PyData.tuple [.int (-1), .int 1] = fr m1 from rfl, moreG (tr0_ok (m := 1) (by decide)) fx (frac_m1 (k := 1) (by decide)) (by decide)]
          walk_at "r"
          have mid : (if cheapF x tr0 = true then some (Out.next [some (.dat (scr ns)), some (.dat (houseD h)), iD k, some (.dat (trD tr0)), some (.own (l.map trD)), iD (i : Int), some (.dat (trD (moreF tr0 x m1))), none, none]) else some (Out.next [some (.dat (scr ns)), some (.dat (houseD h)), iD k, some (.dat (trD tr0)), some (.own (l.map trD)), iD (i : Int), some (.dat (trD x)), none, none])) = some (Out.next [some (.dat (scr ns)), some (.dat (houseD h)), iD k, some (.dat (trD tr0)), some (.own (l.map trD)), iD (i : Int), some (.dat (trD (if cheapF x tr0 = true then moreF tr0 x m1 else x))), none, none]) := by split <;> rfl
          rw [mid]
          walk_at "r"
          rw [mulD_int Bt.lit (Bt.s62 (by omega) (by omega))]
          walk_at "r"
          rw [ed]
          walk_at "r"
          by_cases c : d = 0
          · rw [if_pos c, if_pos c]
            walk_at "r"
            rw [ap]
          · rw [if_neg c, if_neg c]
            walk_at "r"
            rw [ap]
        · split
          · exact tr0_ok (by decide)
          · split
            · exact tk
            · exact fx.mono (by decide)
        · split
          · exact tr0_nn
          · split
            · rename_i _ c; exact turned_nn fx c
            · rename_i _ c; simpa using c
      obtain ⟨z, e, f1, f2⟩ := st
      refine ⟨_, _, rfl, .inl e, l ++ [z], by simp [l1], l2.snoc f1, ?_, _, _, rfl⟩
      intro y hy
      rcases List.mem_append.mp hy with hy | hy
      · exact l3 y hy
      · simp at hy; subst hy; exact f2)
  rw [h1]
  walk_at "r"
  rw [ix_house0]
  walk_at "r"
  rw [List.length_map, rng1_int (by omega)]
  walk_at "r"
  obtain ⟨stored, e2, s1, s2⟩ := triples_eq (ns := ns) (n := h.hs.length) (E := E_l_prices_0) (ds := [some (.dat (scr ns)), some (.dat (houseD h)), iD k, some (.dat (trD tr0)), some (.own (here.map trD)), y5, y6, none, none]) (k := fun i => k + 50 + 10 * (i : Int)) hl (fun i hi => by omega) (fun i hi => by
    unfold E_l_prices_0
    walk_at "r"
    rw [Int.zero_add, mulD_int Bt.lit (Bt.s62 (by omega) (by omega))]
    walk_at "r")
  rw [Int.toNat_natCast, e2]
  walk_at "r"
  rw [if_pos (by rw [rng_len]; omega)]
  walk_at "r"
  rw [ix_house2]
  walk_at "r"
  rw [List.length_map, rng1_int (by omega)]
  walk_at "r"
  obtain ⟨done, e3, t1, t2⟩ := triples_eq (ns := ns) (n := h.ws.length) (E := E_l_prices_1) (ds := [some (.dat (scr ns)), some (.dat (houseD h)), iD k, some (.dat (trD tr0)), some (.own (here.map trD)), y5, y6, some (.dat (.list (stored.map trD))), none]) (k := fun i => k + 100 + 10 * (i : Int)) hl (fun i hi => by omega) (fun i hi => by
    unfold E_l_prices_1
    walk_at "r"
    rw [Int.zero_add, mulD_int Bt.lit (Bt.s62 (by omega) (by omega))]
    walk_at "r")
  rw [Int.toNat_natCast, e3]
  walk_at "r"
  rw [if_pos (by rw [rng_len]; omega)]
  walk_at "r"
  exact ⟨⟨here, stored, done⟩, rfl, ⟨g1, s1, t1, g2, s2, t2, g3⟩⟩
end Law

set_option Elab.async false
set_option linter.all false
set_option maxRecDepth 100000
set_option maxHeartbeats 400000
namespace Law
open PySem L2
noncomputable abbrev RR := Tr × Int
noncomputable def rrD (r : RR) : PyData := .tuple [trD r.1, .int r.2]
noncomputable abbrev coinT (i : Int) : Tr := ⟨q0, q0, (i, 1)⟩
noncomputable abbrev lackT : Tr := ⟨(1, 1), q0, q0⟩
noncomputable abbrev undT : Tr := ⟨q0, (1, 1), q0⟩
theorem coin_ok {i : Int} (h : -1000000 ≤ i ∧ i ≤ 1000000) : TrOk 21 (coinT i) := ⟨frac_q0 (by decide), frac_q0 (by decide), one_frac ⟨by omega⟩ (by decide)⟩
theorem lack_ok : TrOk 2 lackT := ⟨one_frac ⟨by decide⟩ (by decide), frac_q0 (by decide), frac_q0 (by decide)⟩
theorem und_ok : TrOk 2 undT := ⟨frac_q0 (by decide), one_frac ⟨by decide⟩ (by decide), frac_q0 (by decide)⟩
theorem num_ok {i : Int} (h : InB i) : Frac 21 (i, 1) := one_frac ⟨by omega⟩ (by decide)
theorem pn_ok {i : Int} (h : PrB i) : Frac 21 (i, 1) := one_frac ⟨by omega⟩ (by decide)
/-- less of the program -/
theorem less_eq {m n : Nat} {x y : Tr} (hx : TrOk m x) (hy : TrOk n y) (h : m + (n + 1) ≤ 7998) : F_less [trD x, trD y] = some (.dat (trD (moreF x y m1))) := by
  unfold F_less
  walk_at "r"
  rw [show PyData.tuple [.int (-1), .int 1] = fr m1 from rfl, multG hy (frac_m1 (k := 1) (by decide)) (by omega)]
  walk_at "r"
  rw [addG hx (mulT_ok hy (frac_m1 (k := 1) (by decide))) (by omega)]
  rfl
theorem coins_eq (i : Int) : F_coins [.int i] = some (.dat (trD (coinT i))) := by
  unfold F_coins
  walk_at "r"
  rfl
theorem times_negR {k l : Nat} {p q : Q2} (hp : Frac k p) (hq : Frac l q) : timesF (timesF p q) m1 = timesF p (negF q) := by
  have f1 := times_frac hp hq
  apply val_inj (times_frac f1 (frac_m1 (k := 1) (by decide))) (times_frac hp (neg_frac hq))
  rw [val_times f1.pos (show 0 < m1.2 by decide), val_times hp.pos hq.pos, val_times hp.pos (neg_frac hq).pos, neg_val, val_one]
  have : ((-1 : Int) : Rat) = -1 := rfl
  rw [this]
  grind
theorem more_negR {k l m : Nat} {x y : Tr} {q : Q2} (hy : TrOk k y) (hq : Frac l q) : moreF x (mulT y q) m1 = moreF x y (negF q) := by
  unfold moreF mulT
  rw [times_negR hy.a hq, times_negR hy.b hq, times_negR hy.c hq]
noncomputable def lineRows (p : Tr) : Option (Int × Int × Int × Int) → List RR
  | none => []
  | some (b, m, g, t) => [(moreF (coinT b) p m1, m), (moreF p (coinT g) m1, t)]
noncomputable def fourRows (h : House) (x : Hr) (p q nx : Tr) : List RR := [(moreF p q (negF h.kept), h.fill), (moreF q p (negF h.left), h.take), (moreF lackT p m1, x.need), (moreF q nx m1, h.size)]
structure RowsB (l : List RR) : Prop where
  t : ∀ r ∈ l, TrOk 40 r.1
  i : ∀ r ∈ l, InB r.2
theorem RowsB.app {l m : List RR} (h : RowsB l) (k : RowsB m) : RowsB (l ++ m) := ⟨fun r hr => by
  rcases List.mem_append.mp hr with hr | hr
  · exact h.t r hr
  · exact k.t r hr, fun r hr => by
  rcases List.mem_append.mp hr with hr | hr
  · exact h.i r hr
  · exact k.i r hr⟩
theorem RowsB.nil : RowsB [] := ⟨fun r hr => by simp at hr, fun r hr => by simp at hr⟩
theorem RowsB.one {x : Tr} {i : Int} (h : TrOk 40 x) (k : InB i) : RowsB [(x, i)] := ⟨fun r hr => by simp at hr; subst hr; exact h, fun r hr => by simp at hr; subst hr; exact k⟩
theorem line_rows_ok {x : Hr} {p : Tr} (hx : HrOk x) (hp : TrOk 10 p) : RowsB (lineRows p x.line) := by
  cases e : x.line with
  | none => exact RowsB.nil
  | some l =>
    obtain ⟨b, m, g, t⟩ := l
    obtain ⟨h1, h2, h3, h4⟩ := hx.line b m g t e
    have r1 : RowsB [(moreF (coinT b) p m1, m)] := RowsB.one ((more_ok (coin_ok h1) hp (frac_m1 (k := 1) (by decide))).mono (by decide)) h2
    have r2 : RowsB [(moreF p (coinT g) m1, t)] := RowsB.one ((more_ok hp (coin_ok h3) (frac_m1 (k := 1) (by decide))).mono (by decide)) h4
    exact r1.app r2
theorem four_rows_ok {h : House} {x : Hr} {p q nx : Tr} (H : HouseOk h) (hx : HrOk x) (hp : TrOk 10 p) (hq : TrOk 10 q) (hn : TrOk 21 nx) : RowsB (fourRows h x p q nx) := by
  have r1 : RowsB [(moreF p q (negF h.kept), h.fill)] := RowsB.one ((more_ok hp hq (neg_frac H.kept)).mono (by decide)) H.fill
  have r2 : RowsB [(moreF q p (negF h.left), h.take)] := RowsB.one ((more_ok hq hp (neg_frac H.left)).mono (by decide)) H.take
  have r3 : RowsB [(moreF lackT p m1, x.need)] := RowsB.one ((more_ok lack_ok hp (frac_m1 (k := 1) (by decide))).mono (by decide)) hx.need
  have r4 : RowsB [(moreF q nx m1, h.size)] := RowsB.one ((more_ok hq hn (frac_m1 (k := 1) (by decide))).mono (by decide)) H.size
  exact ((r1.app r2).app r3).app r4
theorem line_rests_eq {x : Hr} {p : Tr} (hx : HrOk x) (hp : TrOk 10 p) : F_line_rests [lineD x.line, trD p] = some (.own ((lineRows p x.line).map rrD)) := by
  unfold F_line_rests
  walk_at "r"
  cases e : x.line with
  | none =>
    simp only [lineD]
    walk_at "r"
    rfl
  | some l =>
    obtain ⟨b, m, g, t⟩ := l
    obtain ⟨h1, h2, h3, h4⟩ := hx.line b m g t e
    simp only [lineD]
    walk_at "r"
    rw [coins_eq, coins_eq]
    walk_at "r"
    rw [less_eq (coin_ok h1) hp (by decide)]
    walk_at "r"
    rw [less_eq hp (coin_ok h3) (by decide)]
    rfl
theorem hour_rests_eq {h : House} {x : Hr} {p q nx : Tr} (H : HouseOk h) (hx : HrOk x) (hp : TrOk 10 p) (hq : TrOk 10 q) (hn : TrOk 21 nx) : F_hour_rests [hourD x, storeD h, trD p, trD q, trD nx] = some (.own ((lineRows p x.line ++ fourRows h x p q nx).map rrD)) := by
  have ll : (lineRows p x.line).length ≤ 2 := by
    cases x.line with
    | none => exact Nat.zero_le 2
    | some l => obtain ⟨b, m, g, t⟩ := l; exact Nat.le_refl 2
  unfold F_hour_rests
  walk_at "r"
  rw [ix_hour2]
  walk_at "r"
  rw [line_rests_eq hx hp]
  walk_at "r"
  rw [ix_store4, ix_store5, ix_store2, ix_store3, ix_store0, ix_hour1]
  walk_at "r"
  rw [multG hq H.kept (by decide)]
  walk_at "r"
  rw [multG hp H.left (by decide)]
  walk_at "r"
  rw [less_eq hp (mulT_ok hq H.kept) (by decide), less_eq hq (mulT_ok hp H.left) (by decide)]
  walk_at "r"
  rw [show c_LACKED = trD lackT from rfl, less_eq lack_ok hp (by decide), less_eq hq hn (by decide)]
  walk_at "r"
  rw [more_negR (m := 0) hq H.kept, more_negR (m := 0) hp H.left]
  rw [addD_list (by simp only [List.length_map, List.length_cons, List.length_nil]; omega)]
  rw [List.map_append]
  rfl
noncomputable def accR : Tr → List RR → Tr
  | a, [] => a
  | a, r :: l => accR (if cheapF r.1 tr0 = true then moreF a r.1 (r.2, 1) else a) l
noncomputable def wS (π : Tr → Q2) : List RR → Rat
  | [] => 0
  | r :: l => (if cheapF r.1 tr0 = true then val (π r.1) * (r.2 : Rat) else 0) + wS π l
theorem wS_app (π : Tr → Q2) : ∀ l m, wS π (l ++ m) = wS π l + wS π m
  | [], m => by show wS π m = 0 + wS π m; grind
  | r :: l, m => by
    show _ + wS π (l ++ m) = (_ + wS π l) + wS π m
    rw [wS_app π l m]
    grind
theorem acc_ok : ∀ (l : List RR) {a : Tr} {C : Nat}, TrOk C a → RowsB l → TrOk (C + 62 * l.length) (accR a l) ∧ ∀ π, Part π → val (π (accR a l)) = val (π a) + wS π l
  | [], a, C, ha, _ => ⟨ha.mono (by simp), fun π P => by show val (π a) = val (π a) + 0; grind⟩
  | r :: l, a, C, ha, hr => by
    have t := hr.t r (by simp)
    have i := num_ok (hr.i r (by simp))
    have hr' : RowsB l := ⟨fun x hx => hr.t x (by simp [hx]), fun x hx => hr.i x (by simp [hx])⟩
    have l1 : C + 62 + 62 * l.length = C + 62 * (r :: l).length := by rw [List.length_cons, Nat.mul_add]; omega
    have st : TrOk (C + 62) (if cheapF r.1 tr0 = true then moreF a r.1 (r.2, 1) else a) ∧ ∀ π, Part π → val (π (if cheapF r.1 tr0 = true then moreF a r.1 (r.2, 1) else a)) = val (π a) + if cheapF r.1 tr0 = true then val (π r.1) * (r.2 : Rat) else 0 := by
      by_cases c : cheapF r.1 tr0 = true
      · rw [if_pos c]
        refine ⟨(more_ok ha t i).mono (by omega), fun π P => ?_⟩
        rw [if_pos c, P.val_more ha t i, val_one]
      · rw [if_neg c]
        refine ⟨ha.mono (by omega), fun π P => ?_⟩
        rw [if_neg c]
        grind
    obtain ⟨b1, b2⟩ := acc_ok l st.1 hr'
    refine ⟨by rw [← l1]; exact b1, fun π P => ?_⟩
    show val (π (accR _ l)) = val (π a) + (_ + wS π l)
    rw [b2 π P, st.2 π P]
    grind
theorem floor_loop : ∀ (l : List RR) {a : Tr} {C : Nat} (x0 x1 x2 x3 x5 x6 : Option PV), TrOk C a → RowsB l → C + 62 * l.length ≤ 7900 → ∃ y5 y6, forD (sTup 2 (sCons 5 (sCons 6 sNil))) B_floor_of_1 (l.map rrD) [x0, x1, x2, x3, some (.dat (trD a)), x5, x6] = some (.next [x0, x1, x2, x3, some (.dat (trD (accR a l))), y5, y6])
  | [], a, C, x0, x1, x2, x3, x5, x6, _, _, _ => ⟨x5, x6, rfl⟩
  | r :: l, a, C, x0, x1, x2, x3, x5, x6, ha, hr, hC => by
    have t := hr.t r (by simp)
    have i := num_ok (hr.i r (by simp))
    have hr' : RowsB l := ⟨fun x hx => hr.t x (by simp [hx]), fun x hx => hr.i x (by simp [hx])⟩
    rw [List.length_cons, Nat.mul_add] at hC
    have B : B_floor_of_1 [x0, x1, x2, x3, some (.dat (trD a)), some (.dat (trD r.1)), iD r.2] = some (.next [x0, x1, x2, x3, some (.dat (trD (if cheapF r.1 tr0 = true then moreF a r.1 (r.2, 1) else a))), some (.dat (trD r.1)), iD r.2]) := by
      unfold B_floor_of_1
      walk_at "r"
      rw [show c_FREE = trD tr0 from rfl, aheadG t (tr0_ok (m := 1) (by decide)) (by omega)]
      walk_at "r"
      by_cases c : cheapF r.1 tr0 = true
      · rw [if_pos c, if_pos c, show PyData.tuple [.int r.2, .int 1] = fr (r.2, 1) from rfl, multG t i (by decide)]
        walk_at "r"
        rw [addG ha (mulT_ok t i) (by omega)]
        rfl
      · rw [if_neg c, if_neg c]
    have ok : TrOk (C + 62) (if cheapF r.1 tr0 = true then moreF a r.1 (r.2, 1) else a) := by
      split
      · exact (more_ok ha t i).mono (by omega)
      · exact ha.mono (by omega)
    obtain ⟨y5, y6, e⟩ := floor_loop l x0 x1 x2 x3 (some (.dat (trD r.1))) (iD r.2) ok hr' (by omega)
    refine ⟨y5, y6, ?_⟩
    rw [List.map_cons]
    rw [forD_next (ds1 := [x0, x1, x2, x3, some (.dat (trD a)), some (.dat (trD r.1)), iD r.2]) rfl B]
    exact e
end Law

set_option Elab.async false
set_option linter.all false
set_option maxRecDepth 100000
set_option maxHeartbeats 400000
namespace Law
open PySem L2
noncomputable abbrev hr0 : Hr := ⟨0, 0, none⟩
noncomputable abbrev wk0 : Wk := ⟨"", 0, 0, 0, 0⟩
theorem hr_at {h : House} (H : HouseOk h) {t : Nat} (ht : t < h.hs.length) : HrOk (h.hs.getD t hr0) := by
  rw [List.getD_eq_getElem?_getD, List.getElem?_eq_getElem ht]
  exact H.hs _ (List.getElem_mem ..)
theorem wk_at {h : House} (H : HouseOk h) {j : Nat} (hj : j < h.ws.length) : WkOk h.hs.length (h.ws.getD j wk0) := by
  rw [List.getD_eq_getElem?_getD, List.getElem?_eq_getElem hj]
  exact H.ws _ (List.getElem_mem ..)
/-- the price behind hour t -/
noncomputable def nxT (h : House) (P : Pr) (t : Nat) : Tr := if t + 1 < h.hs.length then P.stored.getD (t + 1) tr0 else coinT h.rest
theorem nx_ok {h : House} {P : Pr} (H : HouseOk h) (K : PrcOk h.hs.length h.ws.length P) (t : Nat) : TrOk 21 (nxT h P t) := by
  unfold nxT
  split
  · exact (K.sf.at (by rw [K.sl]; assumption)).mono (by decide)
  · have := H.rest
    exact coin_ok (by omega)
noncomputable def hourRows (h : House) (P : Pr) (t : Nat) : List RR := lineRows (P.here.getD t tr0) (h.hs.getD t hr0).line ++ fourRows h (h.hs.getD t hr0) (P.here.getD t tr0) (P.stored.getD t tr0) (nxT h P t)
noncomputable def wRow (h : House) (P : Pr) (t j : Nat) : RR := (moreF (P.here.getD t tr0) (P.done.getD j tr0) m1, (h.ws.getD j wk0).most)
noncomputable def uRow (h : House) (P : Pr) (j : Nat) : RR := (moreF undT (P.done.getD j tr0) m1, (h.ws.getD j wk0).amount)
noncomputable def inW (w : Wk) (t : Nat) : Bool := decide (w.first ≤ (t : Int) ∧ (t : Int) ≤ w.last)
noncomputable def workRows (h : House) (P : Pr) (j : Nat) : List RR := (((List.range h.hs.length).filter (inW (h.ws.getD j wk0))).map fun t => wRow h P t j) ++ [uRow h P j]
noncomputable def catR (f : Nat → List RR) : Nat → List RR
  | 0 => []
  | n + 1 => catR f n ++ f n
noncomputable def progRows (h : House) (P : Pr) : List RR := catR (hourRows h P) h.hs.length ++ catR (workRows h P) h.ws.length
theorem catR_ok {f : Nat → List RR} : ∀ n, (∀ i, i < n → RowsB (f i)) → RowsB (catR f n)
  | 0, _ => RowsB.nil
  | n + 1, h => (catR_ok n fun i hi => h i (by omega)).app (h n (by omega))
theorem catR_len {f : Nat → List RR} {k : Nat} : ∀ n, (∀ i, i < n → (f i).length ≤ k) → (catR f n).length ≤ k * n
  | 0, _ => by simp [catR]
  | n + 1, h => by
    have h1 := catR_len n fun i hi => h i (by omega)
    have h2 := h n (by omega)
    show (catR f n ++ f n).length ≤ _
    rw [List.length_append, Nat.mul_add]
    omega
theorem wS_cat (π : Tr → Q2) (f : Nat → List RR) : ∀ n, wS π (catR f n) = sumR (fun i => wS π (f i)) n
  | 0 => rfl
  | n + 1 => by
    show wS π (catR f n ++ f n) = sumR _ n + _
    rw [wS_app, wS_cat π f n]
theorem hour_rows_ok {h : House} {P : Pr} (H : HouseOk h) (K : PrcOk h.hs.length h.ws.length P) {t : Nat} (ht : t < h.hs.length) : RowsB (hourRows h P t) :=
  (line_rows_ok (hr_at H ht) (K.hf.at (by rw [K.hl]; exact ht))).app (four_rows_ok H (hr_at H ht) (K.hf.at (by rw [K.hl]; exact ht)) (K.sf.at (by rw [K.sl]; exact ht)) (nx_ok H K t))
theorem hour_rows_len (h : House) (P : Pr) (t : Nat) : (hourRows h P t).length ≤ 6 := by
  unfold hourRows
  rw [List.length_append]
  have : (lineRows (P.here.getD t tr0) (h.hs.getD t hr0).line).length ≤ 2 := by
    cases (h.hs.getD t hr0).line with
    | none => exact Nat.zero_le 2
    | some l => obtain ⟨b, m, g, t⟩ := l; exact Nat.le_refl 2
  have e : (fourRows h (h.hs.getD t hr0) (P.here.getD t tr0) (P.stored.getD t tr0) (nxT h P t)).length = 4 := rfl
  omega
theorem wRow_ok {h : House} {P : Pr} (H : HouseOk h) (K : PrcOk h.hs.length h.ws.length P) {t j : Nat} (ht : t < h.hs.length) (hj : j < h.ws.length) : TrOk 40 (wRow h P t j).1 ∧ InB (wRow h P t j).2 :=
  ⟨(more_ok (K.hf.at (by rw [K.hl]; exact ht)) (K.df.at (by rw [K.dl]; exact hj)) (frac_m1 (k := 1) (by decide))).mono (by decide), (wk_at H hj).most⟩
theorem uRow_ok {h : House} {P : Pr} (H : HouseOk h) (K : PrcOk h.hs.length h.ws.length P) {j : Nat} (hj : j < h.ws.length) : RowsB [uRow h P j] :=
  RowsB.one ((more_ok und_ok (K.df.at (by rw [K.dl]; exact hj)) (frac_m1 (k := 1) (by decide))).mono (by decide)) (wk_at H hj).amount
theorem work_rows_ok {h : House} {P : Pr} (H : HouseOk h) (K : PrcOk h.hs.length h.ws.length P) {j : Nat} (hj : j < h.ws.length) : RowsB (workRows h P j) := by
  refine RowsB.app ⟨fun r hr => ?_, fun r hr => ?_⟩ (uRow_ok H K hj)
  · obtain ⟨t, ht, rfl⟩ := List.mem_map.mp hr
    exact (wRow_ok H K (List.mem_range.mp (List.mem_filter.mp ht).1) hj).1
  · obtain ⟨t, ht, rfl⟩ := List.mem_map.mp hr
    exact (wRow_ok H K (List.mem_range.mp (List.mem_filter.mp ht).1) hj).2
theorem work_rows_len (h : House) (P : Pr) (j : Nat) : (workRows h P j).length ≤ h.hs.length + 1 := by
  unfold workRows
  rw [List.length_append, List.length_map]
  have := List.length_filter_le (inW (h.ws.getD j wk0)) (List.range h.hs.length)
  rw [List.length_range] at this
  show _ + 1 ≤ _
  omega
theorem prog_rows_ok {h : House} {P : Pr} (H : HouseOk h) (K : PrcOk h.hs.length h.ws.length P) : RowsB (progRows h P) := (catR_ok _ fun t ht => hour_rows_ok H K ht).app (catR_ok _ fun j hj => work_rows_ok H K hj)
theorem prog_rows_len {h : House} (P : Pr) (H : HouseOk h) : (progRows h P).length ≤ 40 := by
  have h1 := catR_len (f := hourRows h P) (k := 6) h.hs.length fun t _ => hour_rows_len h P t
  have h2 := catR_len (f := workRows h P) (k := 5) h.ws.length fun j _ => by have := work_rows_len h P j; have := H.hl; omega
  have := H.hl
  have := H.wl
  unfold progRows
  rw [List.length_append]
  omega
theorem cut_mid {α : Type} {l : List α} {a b : Nat} (hab : a ≤ b) (h : b ≤ l.length) : cutD l (some (a : Int)) (some (b : Int)) = (l.drop a).take (b - a) := by
  unfold cutD
  have e : ∀ c d : Nat, HT.sIx l.length d (some (c : Int)) = min c l.length := fun c d => by
    show (if (c : Int) < 0 then ((c : Int) + (l.length : Int)).toNat else min (c : Int).toNat l.length) = _
    rw [if_neg (by omega), Int.toNat_natCast]
  rw [e, e]
  rw [Nat.min_eq_left h, Nat.min_eq_left (show a ≤ l.length by omega)]
theorem filt_range {n a b : Nat} (hb : b < n) (hab : a ≤ b) (p : Nat → Bool) (hp : ∀ t, p t = decide (a ≤ t ∧ t ≤ b)) : (List.range n).filter p = List.range' a (b + 1 - a) := by
  have e : List.range n = List.range' 0 a ++ (List.range' a (b + 1 - a) ++ List.range' (b + 1) (n - (b + 1))) := by
    rw [List.range_eq_range']
    have e1 : List.range' a (b + 1 - a) ++ List.range' (b + 1) (n - (b + 1)) = List.range' a (n - a) := by
      have := List.range'_append_1 (s := a) (m := b + 1 - a) (n := n - (b + 1))
      rw [show a + (b + 1 - a) = b + 1 by omega, show b + 1 - a + (n - (b + 1)) = n - a by omega] at this
      exact this
    rw [e1]
    have := List.range'_append_1 (s := 0) (m := a) (n := n - a)
    rw [Nat.zero_add, show a + (n - a) = n by omega] at this
    exact this.symm
  rw [e, List.filter_append, List.filter_append]
  have f1 : (List.range' 0 a).filter p = [] := by
    rw [List.filter_eq_nil_iff]
    intro t ht
    have := List.mem_range'_1.mp ht
    rw [hp]
    simp
    omega
  have f2 : (List.range' a (b + 1 - a)).filter p = List.range' a (b + 1 - a) := by
    rw [List.filter_eq_self]
    intro t ht
    have := List.mem_range'_1.mp ht
    rw [hp]
    simp
    omega
  have f3 : (List.range' (b + 1) (n - (b + 1))).filter p = [] := by
    rw [List.filter_eq_nil_iff]
    intro t ht
    have := List.mem_range'_1.mp ht
    rw [hp]
    simp
    omega
  rw [f1, f2, f3]
  simp
theorem drop_take_map {α β : Type} {l : List α} {a m : Nat} (d : α) (f : α → β) (h : a + m ≤ l.length) : ((l.drop a).take m).map f = (List.range' a m).map fun t => f (l.getD t d) := by
  apply List.ext_getElem
  · simp; omega
  · intro i h1 h2
    simp only [List.length_map, List.length_range'] at h2
    simp only [List.getElem_map, List.getElem_take, List.getElem_drop, List.getElem_range', Nat.one_mul]
    rw [List.getD_eq_getElem?_getD, List.getElem?_eq_getElem (by omega)]
    rfl
theorem work_rests_eq {h : House} {P : Pr} (H : HouseOk h) (K : PrcOk h.hs.length h.ws.length P) {j : Nat} (hj : j < h.ws.length) : F_work_rests [workD (h.ws.getD j wk0), trT P.here, trD (P.done.getD j tr0)] = some (.own ((workRows h P j).map rrD)) := by
  have W := wk_at H hj
  have v := K.df.at (i := j) (by rw [K.dl]; exact hj)
  have hl := K.hl
  have hl4 := H.hl
  have Wf := W.first
  have Wl := W.fl
  have WL := W.last
  have en : (((List.range h.hs.length).filter (inW (h.ws.getD j wk0))).map fun t => wRow h P t j) = (List.range' (h.ws.getD j wk0).first.toNat ((h.ws.getD j wk0).last.toNat + 1 - (h.ws.getD j wk0).first.toNat)).map fun t => wRow h P t j := by
    rw [filt_range (a := (h.ws.getD j wk0).first.toNat) (b := (h.ws.getD j wk0).last.toNat) (by omega) (by omega)]
    intro t
    unfold inW
    rw [decide_eq_decide]
    omega
  unfold F_work_rests
  walk_at "r"
  rw [ix_work2, ix_work3]
  walk_at "r"
  have c1 : (h.ws.getD j wk0).first = (((h.ws.getD j wk0).first.toNat : Nat) : Int) := by omega
  have c2 : (h.ws.getD j wk0).last + 1 = ((((h.ws.getD j wk0).last.toNat + 1 : Nat)) : Int) := by omega
  have ct : cutD (P.here.map trD) (some (h.ws.getD j wk0).first) (some ((h.ws.getD j wk0).last + 1)) = ((P.here.drop (h.ws.getD j wk0).first.toNat).take ((h.ws.getD j wk0).last.toNat + 1 - (h.ws.getD j wk0).first.toNat)).map trD := by
    have := cut_mid (l := P.here.map trD) (a := (h.ws.getD j wk0).first.toNat) (b := (h.ws.getD j wk0).last.toNat + 1) (by omega) (by rw [List.length_map]; omega)
    rw [← c1, ← c2] at this
    rw [this, List.map_take, List.map_drop]
  rw [ct, comp_map (f := fun p => rrD (moreF p (P.done.getD j tr0) m1, (h.ws.getD j wk0).most)) (fun p hp => ⟨.dat (rrD (moreF p (P.done.getD j tr0) m1, (h.ws.getD j wk0).most)), by
    have fp : TrOk 10 p := K.hf p (List.mem_of_mem_drop (List.mem_of_mem_take hp))
    unfold E_work_rests_0
    walk_at "r"
    rw [less_eq fp v (by decide)]
    walk_at "r"
    rw [ix_work4]
    walk_at "r"
    rfl, rfl⟩)]
  walk_at "r"
  rw [if_pos (by rw [List.length_map, List.length_take, List.length_drop]; omega)]
  walk_at "r"
  rw [show c_UNDONE = trD undT from rfl, less_eq und_ok v (by decide)]
  walk_at "r"
  rw [ix_work1]
  walk_at "r"
  rw [addD_list (by simp only [List.length_map, List.length_take, List.length_drop, List.length_cons, List.length_nil]; omega)]
  unfold workRows
  rw [en, List.map_append, drop_take_map tr0 (fun p => rrD (moreF p (P.done.getD j tr0) m1, (h.ws.getD j wk0).most)) (by omega), List.map_map]
  rfl
end Law

set_option Elab.async false
set_option linter.all false
set_option maxRecDepth 100000
set_option maxHeartbeats 400000
namespace Law
open PySem L2
theorem ext_eq {i : Nat} {F : Ds → Option PV} {ds : Ds} {l m : List PyData} (h1 : F ds = some (.own m)) (h2 : ds[i]? = some (some (.own l))) (h3 : l.length + m.length ≤ 1000000) : gExt i F ds = some (.next (ds.set i (some (.own (l ++ m))))) := by
  unfold gExt
  rw [h1, Option.bind_some, h2]
  show (if l.length + m.length ≤ 1000000 then _ else none) = _
  rw [if_pos h3]
theorem stored_eq {h : House} {P : Pr} (sl : P.stored.length ≤ 24) : F_stored_of [houseD h, pricesD P] = some (.dat (trT (P.stored ++ [coinT h.rest]))) := by
  unfold F_stored_of
  walk_at "r"
  rw [ix_pr1, ix_house1]
  walk_at "r"
  rw [ix_store6]
  walk_at "r"
  rw [coins_eq]
  walk_at "r"
  rw [addD_tup (by simp; omega)]
  rw [trT, List.map_append]
  rfl
theorem tup_at {α : Type} {f : α → PyData} {l : List α} (a : α) {i : Nat} (h : i < l.length) : ixD (.tuple (l.map f)) (.int (i : Int)) = some (.dat (f (l.getD i a))) := by
  rw [ixD_tup, at_getD a h]
  rfl
theorem snoc_at {l : List Tr} {c : Tr} {i : Nat} (h : i < l.length) : (l ++ [c]).getD i tr0 = l.getD i tr0 := by
  rw [List.getD_eq_getElem?_getD, List.getElem?_append_left h, List.getD_eq_getElem?_getD]
theorem snoc_nx {h : House} {P : Pr} {t : Nat} (sl : P.stored.length = h.hs.length) (ht : t < h.hs.length) : (P.stored ++ [coinT h.rest]).getD (t + 1) tr0 = nxT h P t := by
  unfold nxT
  by_cases c : t + 1 < h.hs.length
  · rw [if_pos c]; exact snoc_at (by omega)
  · rw [if_neg c, List.getD_eq_getElem?_getD, List.getElem?_append_right (by omega)]
    have : t + 1 - P.stored.length = 0 := by omega
    rw [this]
    rfl
theorem enum_at {α : Type} {f : α → PyData} {l : List α} {i : Nat} {d : PyData} (a : α) (h : (enumFrom 0 (l.map f))[i]? = some d) : i < l.length ∧ d = .tuple [.int (i : Int), f (l.getD i a)] := by
  rw [enum_get, List.getElem?_map] at h
  by_cases c : i < l.length
  · rw [List.getElem?_eq_getElem c] at h
    refine ⟨c, ?_⟩
    cases h
    rw [List.getD_eq_getElem?_getD, List.getElem?_eq_getElem c]
    simp
  · rw [List.getElem?_eq_none (by omega)] at h
    cases h
theorem zip_tup (l m : List PyData) : zipD [.tuple l, .tuple m] = some (zipL l m) := rfl
theorem rests_of_eq {h : House} {P : Pr} (H : HouseOk h) (K : PrcOk h.hs.length h.ws.length P) : F_rests_of [houseD h, pricesD P] = some (.own ((progRows h P).map rrD)) := by
  have hl4 := H.hl
  have wl2 := H.wl
  have sl := K.sl
  have hl := K.hl
  have dl := K.dl
  unfold F_rests_of
  walk_at "r"
  rw [stored_eq (by omega)]
  walk_at "r"
  rw [ix_house0]
  walk_at "r"
  obtain ⟨ds', h1, y4, y5, rfl⟩ := forD_all (gt := sTup 2 (sCons 4 (sCons 5 sNil))) (G := B_rests_of_0) (items := enumFrom 0 (h.hs.map hourD)) (ds := [some (.dat (houseD h)), some (.dat (pricesD P)), some (.dat (trT (P.stored ++ [coinT h.rest]))), some (.own []), none, none, none, none])
    (fun i ds => ∃ y4 y5, ds = [some (.dat (houseD h)), some (.dat (pricesD P)), some (.dat (trT (P.stored ++ [coinT h.rest]))), some (.own ((catR (hourRows h P) i).map rrD)), y4, y5, none, none]) ⟨none, none, rfl⟩ (by
      rintro i d ds hi ⟨y4, y5, rfl⟩
      obtain ⟨i1, rfl⟩ := enum_at hr0 hi
      have ln : (catR (hourRows h P) i).length ≤ 6 * i := catR_len i fun t _ => hour_rows_len h P t
      have ln2 := hour_rows_len h P i
      have E := ext_eq (i := 3) (F := fCall F_hour_rests (aCons (fVar 5) (aCons (fOp ixD (fVar 0) (fC (.int 1))) (aCons (fOp ixD (fOp ixD (fVar 1) (fC (.int 0))) (fVar 4)) (aCons (fOp ixD (fVar 2) (fVar 4)) (aCons (fOp ixD (fVar 2) (fOp addD (fVar 4) (fC (.int 1)))) aNil)))))) (ds := [some (.dat (houseD h)), some (.dat (pricesD P)), some (.dat (trT (P.stored ++ [coinT h.rest]))), some (.own ((catR (hourRows h P) i).map rrD)), iD (i : Int), some (.dat (hourD (h.hs.getD i hr0))), none, none]) (l := (catR (hourRows h P) i).map rrD) (m := (hourRows h P i).map rrD) (by
        walk_at "r"
        rw [ix_house1, ix_pr0]
        walk_at "r"
        rw [at_getD (f := trD) tr0 (show i < P.here.length by omega), at_getD (f := trD) tr0 (show i < (P.stored ++ [coinT h.rest]).length by simp; omega), show (i : Int) + 1 = ((i + 1 : Nat) : Int) by omega, at_getD (f := trD) tr0 (show i + 1 < (P.stored ++ [coinT h.rest]).length by simp; omega), snoc_at (by omega), snoc_nx sl i1]
        walk_at "r"
        exact hour_rests_eq H (hr_at H i1) (K.hf.at (by omega)) (K.sf.at (by omega)) (nx_ok H K i)) rfl (by simp only [List.length_map]; omega)
      refine ⟨_, _, rfl, .inl E, some (.dat (.int (i : Int))), some (.dat (hourD (h.hs.getD i hr0))), ?_⟩
      rw [← List.map_append]
      rfl)
  rw [h1, enum_len, List.length_map]
  walk_at "r"
  rw [ix_house2, ix_pr2]
  walk_at "r"
  rw [zip_tup]
  walk_at "r"
  obtain ⟨ds', h2, y6, y7, rfl⟩ := forD_all (gt := sTup 2 (sCons 6 (sCons 7 sNil))) (G := B_rests_of_1) (items := zipL (h.ws.map workD) (P.done.map trD)) (ds := [some (.dat (houseD h)), some (.dat (pricesD P)), some (.dat (trT (P.stored ++ [coinT h.rest]))), some (.own ((catR (hourRows h P) h.hs.length).map rrD)), y4, y5, none, none])
    (fun i ds => ∃ y6 y7, ds = [some (.dat (houseD h)), some (.dat (pricesD P)), some (.dat (trT (P.stored ++ [coinT h.rest]))), some (.own ((catR (hourRows h P) h.hs.length ++ catR (workRows h P) i).map rrD)), y4, y5, y6, y7]) ⟨none, none, by simp [catR]⟩ (by
      rintro i d ds hi ⟨y6, y7, rfl⟩
      obtain ⟨i1, i2, rfl⟩ := zip_get wk0 tr0 hi
      have ln : (catR (hourRows h P) h.hs.length).length ≤ 6 * h.hs.length := catR_len _ fun t _ => hour_rows_len h P t
      have ln2 : (catR (workRows h P) i).length ≤ 5 * i := catR_len i fun j _ => by have := work_rows_len h P j; omega
      have ln3 := work_rows_len h P i
      have E := ext_eq (i := 3) (F := fCall F_work_rests (aCons (fVar 6) (aCons (fOp ixD (fVar 1) (fC (.int 0))) (aCons (fVar 7) aNil)))) (ds := [some (.dat (houseD h)), some (.dat (pricesD P)), some (.dat (trT (P.stored ++ [coinT h.rest]))), some (.own ((catR (hourRows h P) h.hs.length ++ catR (workRows h P) i).map rrD)), y4, y5, some (.dat (workD (h.ws.getD i wk0))), some (.dat (trD (P.done.getD i tr0)))]) (l := (catR (hourRows h P) h.hs.length ++ catR (workRows h P) i).map rrD) (m := (workRows h P i).map rrD) (by
        walk_at "r"
        rw [ix_pr0]
        walk_at "r"
        exact work_rests_eq H K i1) rfl (by simp only [List.length_map, List.length_append]; omega)
      refine ⟨_, _, rfl, .inl E, some (.dat (workD (h.ws.getD i wk0))), some (.dat (trD (P.done.getD i tr0))), ?_⟩
      rw [← List.map_append, List.append_assoc]
      rfl)
  rw [h2, zip_len, List.length_map, List.length_map, dl, Nat.min_self]
  walk_at "r"
  rfl
noncomputable def wt1 (h : House) (P : Pr) : Nat → Tr
  | 0 => mulT (P.stored.getD 0 tr0) (-h.start, 1)
  | t + 1 => moreF (wt1 h P t) (P.here.getD t tr0) ((h.hs.getD t hr0).need - (h.hs.getD t hr0).sun, 1)
noncomputable def wt2 (h : House) (P : Pr) : Nat → Tr
  | 0 => wt1 h P h.hs.length
  | j + 1 => moreF (wt2 h P j) (P.done.getD j tr0) ((h.ws.getD j wk0).amount, 1)
theorem start_ok {h : House} (H : HouseOk h) : Frac 21 (-h.start, 1) := by
  have := H.start
  exact pn_ok ⟨by omega, by omega⟩
theorem need_ok {h : House} (H : HouseOk h) {t : Nat} (ht : t < h.hs.length) : Frac 21 ((h.hs.getD t hr0).need - (h.hs.getD t hr0).sun, 1) := by
  have a := (hr_at H ht).need
  have b := (hr_at H ht).sun
  exact pn_ok ⟨by omega, by omega⟩
theorem wt1_ok {h : House} {P : Pr} (H : HouseOk h) (K : PrcOk h.hs.length h.ws.length P) : ∀ t, t ≤ h.hs.length → TrOk (31 + 32 * t) (wt1 h P t)
  | 0, _ => (mulT_ok (K.sf.at (i := 0) (by rw [K.sl]; have := H.h1; omega)) (start_ok H)).mono (by omega)
  | t + 1, ht => (more_ok (wt1_ok H K t (by omega)) (K.hf.at (i := t) (by rw [K.hl]; omega)) (need_ok H (by omega))).mono (by omega)
theorem wt2_ok {h : House} {P : Pr} (H : HouseOk h) (K : PrcOk h.hs.length h.ws.length P) : ∀ j, j ≤ h.ws.length → TrOk (160 + 32 * j) (wt2 h P j)
  | 0, _ => (wt1_ok H K _ (Nat.le_refl _)).mono (by have := H.hl; omega)
  | j + 1, hj => (more_ok (wt2_ok H K j (by omega)) (K.df.at (i := j) (by rw [K.dl]; omega)) (num_ok (wk_at H (j := j) (by omega)).amount)).mono (by omega)
theorem worth_eq {h : House} {P : Pr} (H : HouseOk h) (K : PrcOk h.hs.length h.ws.length P) : F_worth_of [houseD h, pricesD P] = some (.dat (trD (wt2 h P h.ws.length))) := by
  have hl4 := H.hl
  have hl1 := H.h1
  have wl2 := H.wl
  have sl := K.sl
  have hl := K.hl
  have dl := K.dl
  unfold F_worth_of
  walk_at "r"
  rw [stored_eq (by omega)]
  walk_at "r"
  rw [show (0 : Int) = ((0 : Nat) : Int) from rfl, at_getD (f := trD) tr0 (show 0 < (P.stored ++ [coinT h.rest]).length by simp), snoc_at (by omega), ix_house1]
  walk_at "r"
  rw [ix_store1]
  walk_at "r"
  rw [show PyData.tuple [.int (-h.start), .int 1] = fr (-h.start, 1) from rfl, multG (K.sf.at (i := 0) (by omega)) (start_ok H) (by decide)]
  walk_at "r"
  rw [ix_house0, ix_pr0]
  walk_at "r"
  rw [zip_tup]
  walk_at "r"
  obtain ⟨ds', h1, y3, y4, rfl⟩ := forD_all (gt := sTup 2 (sCons 3 (sCons 4 sNil))) (G := B_worth_of_0) (items := zipL (h.hs.map hourD) (P.here.map trD)) (ds := [some (.dat (houseD h)), some (.dat (pricesD P)), some (.dat (trD (wt1 h P 0))), none, none, none, none])
    (fun i ds => ∃ y3 y4, ds = [some (.dat (houseD h)), some (.dat (pricesD P)), some (.dat (trD (wt1 h P i))), y3, y4, none, none]) ⟨none, none, rfl⟩ (by
      rintro i d ds hi ⟨y3, y4, rfl⟩
      obtain ⟨i1, i2, rfl⟩ := zip_get hr0 tr0 hi
      refine ⟨_, _, rfl, .inl ?_, some (.dat (hourD (h.hs.getD i hr0))), some (.dat (trD (P.here.getD i tr0))), rfl⟩
      unfold B_worth_of_0
      walk_at "r"
      rw [ix_hour0, ix_hour1]
      walk_at "r"
      have f := K.hf.at i2
      have g := need_ok H i1
      rw [show PyData.tuple [.int ((h.hs.getD i hr0).need - (h.hs.getD i hr0).sun), .int 1] = fr ((h.hs.getD i hr0).need - (h.hs.getD i hr0).sun, 1) from rfl, multG f g (by decide)]
      walk_at "r"
      rw [addG (wt1_ok H K i (by omega)) (mulT_ok f g) (by omega)]
      rfl)
  rw [show mulT (P.stored.getD 0 tr0) (-h.start, 1) = wt1 h P 0 from rfl, h1, zip_len, List.length_map, List.length_map, hl, Nat.min_self]
  walk_at "r"
  rw [ix_house2, ix_pr2]
  walk_at "r"
  rw [zip_tup]
  walk_at "r"
  obtain ⟨ds', h2, y5, y6, rfl⟩ := forD_all (gt := sTup 2 (sCons 5 (sCons 6 sNil))) (G := B_worth_of_1) (items := zipL (h.ws.map workD) (P.done.map trD)) (ds := [some (.dat (houseD h)), some (.dat (pricesD P)), some (.dat (trD (wt2 h P 0))), y3, y4, none, none])
    (fun i ds => ∃ y5 y6, ds = [some (.dat (houseD h)), some (.dat (pricesD P)), some (.dat (trD (wt2 h P i))), y3, y4, y5, y6]) ⟨none, none, rfl⟩ (by
      rintro i d ds hi ⟨y5, y6, rfl⟩
      obtain ⟨i1, i2, rfl⟩ := zip_get wk0 tr0 hi
      refine ⟨_, _, rfl, .inl ?_, some (.dat (workD (h.ws.getD i wk0))), some (.dat (trD (P.done.getD i tr0))), rfl⟩
      unfold B_worth_of_1
      walk_at "r"
      rw [ix_work1]
      walk_at "r"
      have f := K.df.at i2
      have g := num_ok (wk_at H i1).amount
      rw [show PyData.tuple [.int (h.ws.getD i wk0).amount, .int 1] = fr ((h.ws.getD i wk0).amount, 1) from rfl, multG f g (by decide)]
      walk_at "r"
      rw [addG (wt2_ok H K i (by omega)) (mulT_ok f g) (by omega)]
      rfl)
  rw [show wt1 h P h.hs.length = wt2 h P 0 from rfl, h2, zip_len, List.length_map, List.length_map, dl, Nat.min_self]
  walk_at "r"
theorem floor_of_eq {h : House} {P : Pr} (H : HouseOk h) (K : PrcOk h.hs.length h.ws.length P) : F_floor_of [houseD h, pricesD P] = some (.dat (trD (accR (wt2 h P h.ws.length) (progRows h P)))) := by
  have wl2 := H.wl
  have len := prog_rows_len P H
  unfold F_floor_of
  walk_at "r"
  rw [ix_pr0]
  walk_at "r"
  obtain ⟨ds', h1, y2, y3, rfl⟩ := forD_all (gt := sTup 2 (sCons 2 (sCons 3 sNil))) (G := B_floor_of_0) (items := enumFrom 0 (P.here.map trD)) (ds := [some (.dat (houseD h)), some (.dat (pricesD P)), none, none, none, none, none])
    (fun i ds => ∃ y2 y3, ds = [some (.dat (houseD h)), some (.dat (pricesD P)), y2, y3, none, none, none]) ⟨none, none, rfl⟩ (by
      rintro i d ds hi ⟨y2, y3, rfl⟩
      obtain ⟨i1, rfl⟩ := enum_at tr0 hi
      refine ⟨_, _, rfl, .inl ?_, some (.dat (.int (i : Int))), some (.dat (trD (P.here.getD i tr0))), rfl⟩
      have nn : cheapF (P.here.getD i tr0) tr0 = false := by
        rw [List.getD_eq_getElem?_getD, List.getElem?_eq_getElem i1]
        exact K.nn _ (List.getElem_mem ..)
      unfold B_floor_of_0
      walk_at "r"
      rw [show c_FREE = trD tr0 from rfl, aheadG (K.hf.at i1) (tr0_ok (m := 1) (by decide)) (by decide), nn]
      walk_at "r")
  rw [h1]
  walk_at "r"
  rw [worth_eq H K]
  walk_at "r"
  rw [rests_of_eq H K]
  walk_at "r"
  obtain ⟨y5, y6, e⟩ := floor_loop (progRows h P) (some (.dat (houseD h))) (some (.dat (pricesD P))) y2 y3 none none (wt2_ok H K _ (Nat.le_refl _)) (prog_rows_ok H K) (by omega)
  rw [e]
  walk_at "r"
end Law

set_option Elab.async false
set_option linter.all false
set_option maxRecDepth 100000
set_option maxHeartbeats 400000
namespace Law
open PySem L2
structure FOk (f : Int) : Prop where
  pos : 0 < f
  bt : Bt 20 f
noncomputable abbrev Z (f : Int) (n e : Nat) (x : Rat) : Prop := Sz (f ^ n) (2 ^ e) x
theorem two_le {e d : Nat} (h : e ≤ d) : (2 : Int) ^ e ≤ 2 ^ d := by
  have := Nat.pow_le_pow_right (show 0 < 2 by decide) h
  exact_mod_cast this
theorem pw_dvd (f : Int) {n m : Nat} (h : n ≤ m) : f ^ n ∣ f ^ m := ⟨f ^ (m - n), by rw [← Int.pow_add]; congr 1; omega⟩
theorem Z.mono {f : Int} {n e m d : Nat} {x : Rat} (h : Z f n e x) (hn : n ≤ m) (he : e ≤ d) : Z f m d x := Sz.mono h (pw_dvd f hn) (two_le he)
theorem two_dbl (e : Nat) : (2 : Int) ^ e + 2 ^ e = 2 ^ (e + 1) := by rw [Int.pow_succ]; omega
theorem Z.add {f : Int} {n e : Nat} {x y : Rat} (hx : Z f n e x) (hy : Z f n e y) : Z f n (e + 1) (x + y) := by
  have := Sz.add hx hy
  rwa [two_dbl] at this
theorem Z.neg {f : Int} {n e : Nat} {x : Rat} (hx : Z f n e x) : Z f n e (-x) := Sz.neg hx
theorem Z.sub {f : Int} {n e : Nat} {x y : Rat} (hx : Z f n e x) (hy : Z f n e y) : Z f n (e + 1) (x - y) := by
  have := Sz.sub hx hy
  rwa [two_dbl] at this
theorem Z.mul {f : Int} {n e m d : Nat} {x y : Rat} (hx : Z f n e x) (hy : Z f m d y) : Z f (n + m) (e + d) (x * y) := by
  have := Sz.mul hx hy
  rwa [← Int.pow_add, ← Int.pow_add] at this
theorem Z.int {f : Int} {n : Nat} {i : Int} (h : -1000000 ≤ i ∧ i ≤ 1000000) : Z f n 20 (i : Rat) := Sz.int (by
  have : (2 : Int) ^ 20 = 1048576 := by decide
  omega)
theorem Z.zero {f : Int} {n e : Nat} : Z f n e 0 := Sz.zero (by have := two_le (Nat.zero_le e); have : (2 : Int) ^ 0 = 1 := rfl; omega)
theorem pow_dok {f : Int} (h : FOk f) {n : Nat} (hn : n ≤ 50) : DOk (f ^ n) := by
  refine ⟨Int.pow_pos h.pos, ⟨?_⟩⟩
  rw [Int.natAbs_pow]
  have h1 : f.natAbs ^ n ≤ (2 ^ 20 - 1) ^ n := Nat.pow_le_pow_left (by have := h.bt.lt; omega) n
  have h2 : (2 ^ 20 - 1) ^ n ≤ (2 ^ 20 - 1) ^ 50 := Nat.pow_le_pow_right (by decide) hn
  have h3 : (2 ^ 20 - 1) ^ 50 < 2 ^ 1000 := by decide +kernel
  omega
theorem Z.ok {f : Int} {n e : Nat} {x : Rat} (h : Z f n e x) (hf : FOk f) (hn : n ≤ 50) (he : e ≤ 200) : Ok x := Sz.ok h (pow_dok hf hn) (two_le he)
theorem l_sum {x y : Rat} (hx : Ok x) (hy : Ok y) : F_l_sum [qd x, qd y] = some (.dat (qd (x + y))) := by
  show F_l_sum [fr (q2 x), fr (q2 y)] = _
  rw [sumG hx.f hy.f (by decide), q2_plus]
  unfold qd; rfl
theorem l_times {x y : Rat} (hx : Ok x) (hy : Ok y) : F_l_times [qd x, qd y] = some (.dat (qd (x * y))) := by
  show F_l_times [fr (q2 x), fr (q2 y)] = _
  rw [ltimesG hx.f hy.f (by decide), q2_times]; rfl
theorem l_below {x y : Rat} (hx : Ok x) (hy : Ok y) : F_l_below [qd x, qd y] = some (.dat (.bool (decide (x < y)))) := by
  show F_l_below [fr (q2 x), fr (q2 y)] = _
  rw [belowG hx.f hy.f (by decide), under_rat]
theorem l_neg (x : Rat) : F_l_negative [qd x] = some (.dat (qd (-x))) := by
  show F_l_negative [fr (q2 x)] = _
  rw [neg_eq]
  show some (PV.dat (fr (0 - (q2 x).1, (q2 x).2))) = _
  rw [Int.zero_sub, q2_neg]; rfl
theorem fr_qd {m : Nat} {q : Q2} (h : Frac m q) : fr q = qd (val q) := by
  show fr q = fr (q2 (val q))
  rw [← q2_val h.pos h.low]
theorem fr_z {f : Int} {m e : Nat} {q : Q2} (h : Frac m q) (hd : q.2 ∣ f) (hm : (q.1.natAbs : Int) ≤ 2 ^ e * q.2) : Z f 1 e (val q) := by
  refine ⟨?_⟩
  rw [← q2_val h.pos h.low, Int.pow_one]
  exact ⟨h.pos, h.low, hd, hm⟩
theorem part_eq {ns : List Int} {k f : Int} (hl : ns.length ≤ 63) (hk0 : 0 ≤ k) (hk1 : k ≤ 1000000) (hf : (30 : Int) ∣ f) : ∃ p : Rat, F_l_part [scr ns, .int k] = some (.dat (qd p)) ∧ 0 ≤ p ∧ p ≤ 1 ∧ Z f 1 0 p := by
  obtain ⟨r, er, r0, r1⟩ := draw_eq (ns := ns) (k := k) (m := 6) hl hk0 hk1 (by decide)
  have key : ∀ q : Q2, Frac 4 q → q.2 ∣ 30 → 0 ≤ q.1 → q.1 ≤ q.2 → ∃ p : Rat, fr q = qd p ∧ 0 ≤ p ∧ p ≤ 1 ∧ Z f 1 0 p := fun q hq hd h0 h1 => by
    refine ⟨val q, fr_qd hq, (nn_iff hq.pos).mp h0, ?_, fr_z hq (Int.dvd_trans hd hf) (by rw [Int.pow_zero]; omega)⟩
    have := under_val (p := (1, 1)) (q := q) (by decide) hq.pos
    have e1 : val (1, 1) = 1 := val_one 1
    rw [e1] at this
    have : ¬ (1 : Rat) < val q := fun z => by
      rw [decide_eq_true z] at this
      unfold underF at this
      have := of_decide_eq_true this
      simp only at this
      omega
    exact Rat.not_lt.mp this
  have : ∃ q : Q2, Frac 4 q ∧ q.2 ∣ 30 ∧ 0 ≤ q.1 ∧ q.1 ≤ q.2 ∧ F_l_part [scr ns, .int k] = some (.dat (fr q)) := by
    unfold F_l_part
    walk_at "r"
    rw [er]
    walk_at "r"
    rcases (by omega : r = 0 ∨ r = 1 ∨ r = 2 ∨ r = 3 ∨ r = 4 ∨ r = 5) with rfl | rfl | rfl | rfl | rfl | rfl
    · exact ⟨(0, 1), ⟨by decide, by decide, ⟨by decide⟩, ⟨by decide⟩⟩, by decide, by decide, by decide, rfl⟩
    · exact ⟨(1, 1), ⟨by decide, by decide, ⟨by decide⟩, ⟨by decide⟩⟩, by decide, by decide, by decide, rfl⟩
    · exact ⟨(1, 2), ⟨by decide, by decide, ⟨by decide⟩, ⟨by decide⟩⟩, by decide, by decide, by decide, rfl⟩
    · exact ⟨(1, 3), ⟨by decide, by decide, ⟨by decide⟩, ⟨by decide⟩⟩, by decide, by decide, by decide, rfl⟩
    · exact ⟨(2, 5), ⟨by decide, by decide, ⟨by decide⟩, ⟨by decide⟩⟩, by decide, by decide, by decide, rfl⟩
    · exact ⟨(1, 1), ⟨by decide, by decide, ⟨by decide⟩, ⟨by decide⟩⟩, by decide, by decide, by decide, rfl⟩
  obtain ⟨q, h1, h2, h3, h4, h5⟩ := this
  obtain ⟨p, e1, e2, e3, e4⟩ := key q h1 h2 h3 h4
  exact ⟨p, by rw [h5, e1], e2, e3, e4⟩
theorem B_least {x y : Rat} (hx : Ok x) (hy : Ok y) (a : Option PV) : B_l_least_0 [a, some (.dat (qd x)), some (.dat (qd y))] = some (.next [a, some (.dat (qd (mn y x))), some (.dat (qd y))]) := by
  unfold B_l_least_0 mn
  walk_at "r"
  rw [l_below hy hx]
  walk_at "r"
  split <;> rfl
theorem mn_le1 (x y : Rat) : mn x y ≤ x := by unfold mn; split <;> grind
theorem mn_le2 (x y : Rat) : mn x y ≤ y := by unfold mn; split <;> grind
theorem mn_or (x y : Rat) : mn x y = x ∨ mn x y = y := by unfold mn; split <;> simp
theorem ok_mn {x y : Rat} (hx : Ok x) (hy : Ok y) : Ok (mn x y) := by rcases mn_or x y with e | e <;> rw [e] <;> assumption
theorem least2 {a b : Rat} (ha : Ok a) (hb : Ok b) : ∃ m, F_l_least [.list [qd a, qd b]] = some (.dat (qd m)) ∧ m ≤ a ∧ m ≤ b ∧ (m = a ∨ m = b) := by
  refine ⟨mn b (mn a a), ?_, ?_, mn_le1 _ _, ?_⟩
  · unfold F_l_least
    walk_at "r"
    rw [forD_next rfl (B_least ha ha _), forD_next rfl (B_least (ok_mn ha ha) hb _), forD_nil]
    rfl
  · have := mn_le2 b (mn a a); have := mn_le1 a a; grind
  · rcases mn_or b (mn a a) with e | e
    · exact .inr e
    · rw [e]; rcases mn_or a a with e | e <;> exact .inl e
theorem least3 {a b c : Rat} (ha : Ok a) (hb : Ok b) (hc : Ok c) : ∃ m, F_l_least [.list [qd a, qd b, qd c]] = some (.dat (qd m)) ∧ m ≤ a ∧ m ≤ b ∧ m ≤ c ∧ (m = a ∨ m = b ∨ m = c) := by
  refine ⟨mn c (mn b (mn a a)), ?_, ?_, ?_, mn_le1 _ _, ?_⟩
  · unfold F_l_least
    walk_at "r"
    rw [forD_next rfl (B_least ha ha _), forD_next rfl (B_least (ok_mn ha ha) hb _), forD_next rfl (B_least (ok_mn hb (ok_mn ha ha)) hc _), forD_nil]
    rfl
  · have := mn_le2 c (mn b (mn a a)); have := mn_le2 b (mn a a); have := mn_le1 a a; grind
  · have := mn_le2 c (mn b (mn a a)); have := mn_le1 b (mn a a); grind
  · rcases mn_or c (mn b (mn a a)) with e | e
    · exact .inr (.inr e)
    · rw [e]
      rcases mn_or b (mn a a) with e | e
      · exact .inr (.inl e)
      · rw [e]; rcases mn_or a a with e | e <;> exact .inl e
end Law

set_option Elab.async false
set_option linter.all false
set_option maxRecDepth 100000
set_option maxHeartbeats 400000
namespace Law
open PySem L2
noncomputable def rl (n : Nat) (g : Nat → Rat) : List PyData := (List.range n).map fun i => qd (g i)
theorem rl_len (n : Nat) (g : Nat → Rat) : (rl n g).length = n := by simp [rl]
theorem rl_at {n : Nat} {g : Nat → Rat} {i : Nat} (h : i < n) : ixD (.list (rl n g)) (.int (i : Int)) = some (.dat (qd (g i))) := by
  rw [ixD_list, atI_ok (by omega) (by rw [rl_len]; omega)]
  simp [rl]
theorem rl_set {n i : Nat} (g : Nat → Rat) (x : Rat) : (rl n g).set i (qd x) = rl n (fun j => if j = i then x else g j) := by
  unfold rl
  refine List.ext_getElem? fun m => ?_
  rw [List.getElem?_set, List.getElem?_map, List.getElem?_map]
  by_cases c : i = m
  · subst c
    by_cases d : i < n
    · simp [d]
    · simp [d]
  · rw [if_neg c]
    by_cases d : m < n
    · have c' : ¬ m = i := fun z => c z.symm
      simp [d, c']
    · simp [d]
theorem rl_succ (n : Nat) (g : Nat → Rat) : rl (n + 1) g = rl n g ++ [qd (g n)] := by simp [rl, List.range_succ]
theorem rl_congr {n : Nat} {g g' : Nat → Rat} (h : ∀ i, i < n → g i = g' i) : rl n g = rl n g' := by
  unfold rl
  refine List.map_congr_left fun i hi => ?_
  rw [h i (List.mem_range.mp hi)]
theorem sq_next {G1 G2 : Ds → Option Out} {ds ds' : Ds} (h : G1 ds = some (.next ds')) : gSeq G1 G2 ds = G2 ds' := by unfold gSeq; rw [h]; rfl
theorem io_next {G1 : Ds → Option Out} {G2 : IOF} {ds ds' : Ds} (h : G1 ds = some (.next ds')) : ioSeq G1 G2 ds = G2 ds' := by unfold ioSeq; rw [h]; rfl
theorem setD_eq {j : Nat} {F : Ds → Option PV} {ds : Ds} {pv : PV} (h : F ds = some pv) : gSetD j F ds = some (.next (ds.set j (some (.dat pv.d)))) := by unfold gSetD; rw [h]; rfl
theorem setI_eq {i k : Nat} {Fk Fv : Ds → Option PV} {ds : Ds} {l : List PyData} {pv : PV} (h1 : Fv ds = some pv) (h2 : Fk ds = some (.dat (.int (k : Int)))) (h3 : ds[i]? = some (some (.own l))) (hk : k < l.length) :
    gSetI i Fk Fv ds = some (.next (ds.set i (some (.own (l.set k pv.d))))) := by
  have e : ixN l.length (k : Int) = some k := by
    unfold ixN
    rw [if_pos (by omega), if_pos (by omega), Int.toNat_natCast]
  unfold gSetI
  rw [h1, Option.bind_some, h2, Option.bind_some, h3]
  show (ixN l.length (k : Int)).bind _ = _
  rw [e]
  rfl
/-- one work in one hour -/
theorem worked_turn {ns : List Int} {h : House} {f : Int} {t j n e : Nat} {k : Int} {r : Rat} {L W : Nat → Rat} (hl : ns.length ≤ 63) (H : HouseOk h) (hf : FOk f) (h30 : (30 : Int) ∣ f) (hj : j < h.ws.length) (k0 : 0 ≤ k) (k1 : k ≤ 100000) (e20 : 20 ≤ e) (en : n ≤ 40) (ee : e ≤ 150)
    (hL : 0 ≤ L j) (hr : 0 ≤ r) (zL : Z f n e (L j)) (zr : Z f n e r) (x8 x9 : Option PV) :
    ∃ (o : Rat) (y8 y9 : Option PV), 0 ≤ o ∧ o ≤ L j ∧ o ≤ r ∧ o ≤ ((h.ws.getD j wk0).most : Rat) ∧ (inW (h.ws.getD j wk0) t = false → o = 0) ∧ Z f (n + 1) e o ∧
      B_l_worked_0 [some (.dat (scr ns)), some (.dat (houseD h)), some (.own (rl h.ws.length L)), some (.dat (qd r)), iD (t : Int), iD k, some (.own (rl j W)), iD (j : Int), x8, x9] =
        some (.next [some (.dat (scr ns)), some (.dat (houseD h)), some (.own (rl h.ws.length (fun i => if i = j then L j - o else L i))), some (.dat (qd (r - o))), iD (t : Int), iD k, some (.own (rl j W ++ [qd o])), iD (j : Int), y8, y9]) := by
  have wl := H.wl
  have wk := wk_at H hj
  obtain ⟨p, ep, p0, p1, zp⟩ := part_eq (ns := ns) (k := k + (j : Int)) (f := f) hl (by omega) (by omega) h30
  have okL := zL.ok hf (by omega) (by omega)
  have okr := zr.ok hf (by omega) (by omega)
  have zm : Z f n 20 ((h.ws.getD j wk0).most : Rat) := Z.int ⟨by have := wk.most; omega, by have := wk.most; omega⟩
  have okm := zm.ok hf (by omega) (by omega)
  have m0 : (0 : Rat) ≤ ((h.ws.getD j wk0).most : Rat) := by
    have := wk.most.1
    exact_mod_cast this
  obtain ⟨m, em, m1, m2, m3, mo⟩ := least3 okm okL okr
  have zm' : Z f n e m := by
    rcases mo with z | z | z
    · rw [z]; exact zm.mono (Nat.le_refl _) e20
    · rw [z]; exact zL
    · rw [z]; exact zr
  have mn0 : 0 ≤ m := by
    rcases mo with z | z | z
    · rw [z]; exact m0
    · rw [z]; exact hL
    · rw [z]; exact hr
  have mp0 : 0 ≤ m * p := Rat.mul_nonneg mn0 p0
  have mp1 : m * p ≤ m := by
    have := Rat.mul_nonneg mn0 (show 0 ≤ 1 - p by grind)
    grind
  have zo : Z f (n + 1) e (m * p) := (zm'.mul zp).mono (by omega) (by omega)
  have iw1 : inW (h.ws.getD j wk0) t = true ↔ (h.ws.getD j wk0).first ≤ (t : Int) ∧ (t : Int) ≤ (h.ws.getD j wk0).last := by
    unfold inW
    exact decide_eq_true_iff
  -- the rest of the turn, by what is worked
  have fin : ∀ o : Rat, Ok o → gSeq (gSetI 2 (fVar 7) (fCall F_l_sum (aCons (fIxO 2 (fVar 7)) (aCons (fCall F_l_negative (aCons (fVar 9) aNil)) aNil)))) (gSeq (gSetD 3 (fCall F_l_sum (aCons (fVar 3) (aCons (fCall F_l_negative (aCons (fVar 9) aNil)) aNil)))) (gApp 6 (fVar 9)))
      [some (.dat (scr ns)), some (.dat (houseD h)), some (.own (rl h.ws.length L)), some (.dat (qd r)), iD (t : Int), iD k, some (.own (rl j W)), iD (j : Int), some (.dat (workD (h.ws.getD j wk0))), some (.dat (qd o))] =
      some (.next [some (.dat (scr ns)), some (.dat (houseD h)), some (.own (rl h.ws.length (fun i => if i = j then L j - o else L i))), some (.dat (qd (r - o))), iD (t : Int), iD k, some (.own (rl j W ++ [qd o])), iD (j : Int), some (.dat (workD (h.ws.getD j wk0))), some (.dat (qd o))]) := fun o oko => by
    have s1 := setI_eq (i := 2) (k := j) (Fk := fVar 7) (Fv := fCall F_l_sum (aCons (fIxO 2 (fVar 7)) (aCons (fCall F_l_negative (aCons (fVar 9) aNil)) aNil))) (ds := [some (.dat (scr ns)), some (.dat (houseD h)), some (.own (rl h.ws.length L)), some (.dat (qd r)), iD (t : Int), iD k, some (.own (rl j W)), iD (j : Int), some (.dat (workD (h.ws.getD j wk0))), some (.dat (qd o))]) (l := rl h.ws.length L) (pv := .dat (qd (L j - o))) (by
      simp only [fCall, aCons, aNil, fIxO, fVar, List.getElem?_cons_zero, List.getElem?_cons_succ, Option.bind_some, PV.d_own, PV.d_dat]
      rw [rl_at hj]
      simp only [Option.bind_some, PV.d_dat]
      rw [l_neg]
      simp only [Option.bind_some, PV.d_dat]
      rw [l_sum okL oko.neg, ← Rat.sub_eq_add_neg]) rfl rfl (by rw [rl_len]; exact hj)
    rw [PV.d_dat, rl_set] at s1
    rw [sq_next s1]
    simp only [List.set_cons_zero, List.set_cons_succ]
    have s2 : ∀ x2 : Option PV, gSetD 3 (fCall F_l_sum (aCons (fVar 3) (aCons (fCall F_l_negative (aCons (fVar 9) aNil)) aNil))) [some (.dat (scr ns)), some (.dat (houseD h)), x2, some (.dat (qd r)), iD (t : Int), iD k, some (.own (rl j W)), iD (j : Int), some (.dat (workD (h.ws.getD j wk0))), some (.dat (qd o))] = some (.next [some (.dat (scr ns)), some (.dat (houseD h)), x2, some (.dat (qd (r - o))), iD (t : Int), iD k, some (.own (rl j W)), iD (j : Int), some (.dat (workD (h.ws.getD j wk0))), some (.dat (qd o))]) := fun x2 => setD_eq (pv := .dat (qd (r - o))) (by
      simp only [fCall, aCons, aNil, fVar, List.getElem?_cons_zero, List.getElem?_cons_succ, Option.bind_some, PV.d_dat]
      rw [l_neg]
      simp only [Option.bind_some, PV.d_dat]
      rw [l_sum okr oko.neg, ← Rat.sub_eq_add_neg])
    rw [sq_next (s2 _)]
    rw [gApp_eq]
    exact appK_some (i := 6) (l := rl j W) (.dat (qd o)) rfl (by rw [rl_len]; omega)
  unfold B_l_worked_0
  rw [sq_next (setD_eq (pv := .dat (workD (h.ws.getD j wk0))) (by walk_at "r"; rw [ix_house2]; walk_at "r"; rw [at_getD (f := workD) wk0 hj]; rfl))]
  simp only [List.set_cons_zero, List.set_cons_succ, PV.d_dat]
  rw [sq_next (setD_eq (pv := .dat (qd 0)) (by walk_at "r"; rfl))]
  simp only [List.set_cons_zero, List.set_cons_succ, PV.d_dat]
  by_cases c : (h.ws.getD j wk0).first ≤ (t : Int) ∧ (t : Int) ≤ (h.ws.getD j wk0).last
  · refine ⟨m * p, some (.dat (workD (h.ws.getD j wk0))), some (.dat (qd (m * p))), mp0, by grind, by grind, by grind, fun z => ?_, zo, ?_⟩
    · rw [iw1.mpr c] at z; cases z
    · rw [sq_next (ds' := [some (.dat (scr ns)), some (.dat (houseD h)), some (.own (rl h.ws.length L)), some (.dat (qd r)), iD (t : Int), iD k, some (.own (rl j W)), iD (j : Int), some (.dat (workD (h.ws.getD j wk0))), some (.dat (qd (m * p)))]) (by
        walk_at "r"
        rw [ix_work2, ix_work3]
        walk_at "r"
        simp only [c.1, c.2]
        walk_at "r"
        rw [ix_work4]
        walk_at "r"
        rw [show atI (rl h.ws.length L) (j : Int) = some (qd (L j)) from by
          have := rl_at (g := L) hj
          rw [ixD_list] at this
          cases z : atI (rl h.ws.length L) (j : Int) with
          | none => rw [z] at this; cases this
          | some d => rw [z] at this; simp only [Option.bind_some, Option.some.injEq, PV.dat.injEq] at this; rw [this]]
        walk_at "r"
        rw [qd_int, em]
        walk_at "r"
        rw [ep]
        walk_at "r"
        rw [l_times (zm'.ok hf (by omega) (by omega)) (zp.ok hf (by omega) (by omega))]
        rfl)]
      exact fin _ (zo.ok hf (by omega) (by omega))
  · refine ⟨0, some (.dat (workD (h.ws.getD j wk0))), some (.dat (qd 0)), Rat.le_refl, hL, hr, m0, fun _ => rfl, Z.zero, ?_⟩
    rw [sq_next (ds' := [some (.dat (scr ns)), some (.dat (houseD h)), some (.own (rl h.ws.length L)), some (.dat (qd r)), iD (t : Int), iD k, some (.own (rl j W)), iD (j : Int), some (.dat (workD (h.ws.getD j wk0))), some (.dat (qd 0))]) (by
        walk_at "r"
        rw [ix_work2, ix_work3]
        walk_at "r"
        by_cases c1 : (h.ws.getD j wk0).first ≤ (t : Int)
        · have c2 : ¬ (t : Int) ≤ (h.ws.getD j wk0).last := fun z => c ⟨c1, z⟩
          simp only [c1, c2]
          walk_at "r"
        · simp only [c1]
          walk_at "r")]
    exact fin _ ok_zero
end Law

set_option Elab.async false
set_option linter.all false
set_option maxRecDepth 100000
set_option maxHeartbeats 400000
namespace Law
open PySem L2
theorem sumR_succ (g : Nat → Rat) (n : Nat) : sumR g (n + 1) = sumR g n + g n := rfl
structure WkdOk (h : House) (f : Int) (t n e : Nat) (L W : Nat → Rat) (j : Nat) : Prop where
  nn : ∀ i, i < j → 0 ≤ W i
  le : ∀ i, i < j → W i ≤ L i
  most : ∀ i, i < j → W i ≤ ((h.ws.getD i wk0).most : Rat)
  out : ∀ i, i < j → inW (h.ws.getD i wk0) t = false → W i = 0
  z : ∀ i, i < j → Z f n e (W i)
theorem worked_eq {ns : List Int} {h : House} {f : Int} {t n e : Nat} {k : Int} {r : Rat} {L : Nat → Rat} (hl : ns.length ≤ 63) (H : HouseOk h) (hf : FOk f) (h30 : (30 : Int) ∣ f) (k0 : 0 ≤ k) (k1 : k ≤ 100000) (e20 : 20 ≤ e) (en : n ≤ 38) (ee : e ≤ 140)
    (hL : ∀ i, i < h.ws.length → 0 ≤ L i) (hr : 0 ≤ r) (zL : ∀ i, i < h.ws.length → Z f n e (L i)) (zr : Z f n e r) :
    ∃ W : Nat → Rat, F_l_worked [scr ns, houseD h, .list (rl h.ws.length L), qd r, .int (t : Int), .int k] = some (.tuple [.tuple (rl h.ws.length W), qd (r - sumR W h.ws.length)], rl h.ws.length fun i => L i - W i) ∧
      0 ≤ r - sumR W h.ws.length ∧ Z f (n + 2) (e + 2) (r - sumR W h.ws.length) ∧ WkdOk h f t (n + 2) (e + 2) L W h.ws.length := by
  have wl := H.wl
  obtain ⟨ds', h1, W, y7, y8, y9, rfl, i1, i2, i3⟩ := forD_rng (gt := sName 7) (G := B_l_worked_0) (lo := 0) (n := h.ws.length) (ds := [some (.dat (scr ns)), some (.dat (houseD h)), some (.own (rl h.ws.length L)), some (.dat (qd r)), iD (t : Int), iD k, some (.own []), none, none, none])
    (fun j ds => ∃ (W : Nat → Rat) (y7 y8 y9 : Option PV), ds = [some (.dat (scr ns)), some (.dat (houseD h)), some (.own (rl h.ws.length (fun i => if i < j then L i - W i else L i))), some (.dat (qd (r - sumR W j))), iD (t : Int), iD k, some (.own (rl j W)), y7, y8, y9] ∧ 0 ≤ r - sumR W j ∧ Z f (n + j) (e + j) (r - sumR W j) ∧ WkdOk h f t (n + j) (e + j) L W j)
    ⟨fun _ => 0, none, none, none, by
      have e1 : r - sumR (fun _ => 0) 0 = r := by show r - 0 = r; grind
      rw [e1]
      rw [rl_congr (g := fun i => if i < 0 then L i - 0 else L i) (g' := L) (fun i _ => by rw [if_neg (by omega)])]
      rfl, by show 0 ≤ r - 0; grind, by
      have e1 : r - sumR (fun _ => 0) 0 = r := by show r - 0 = r; grind
      rw [e1]; exact zr, ⟨fun i z => by omega, fun i z => by omega, fun i z => by omega, fun i z => by omega, fun i z => by omega⟩⟩ (by
      rintro j ds hj ⟨W, y7, y8, y9, rfl, i1, i2, i3⟩
      have ej : (if j < j then L j - W j else L j) = L j := by rw [if_neg (by omega)]
      obtain ⟨o, z8, z9, o0, o1, o2, o3, o4, o5, B⟩ := worked_turn (t := t) (k := k) (n := n + j) (e := e + j) (L := fun i => if i < j then L i - W i else L i) (W := W) hl H hf h30 hj k0 k1 (by omega) (by omega) (by omega) (by show 0 ≤ if j < j then L j - W j else L j; rw [ej]; exact hL j hj) i1 (by show Z f (n + j) (e + j) (if j < j then L j - W j else L j); rw [ej]; exact (zL j hj).mono (by omega) (by omega)) i2 y8 y9
      simp only [ej] at B o1
      refine ⟨_, _, rfl, .inl (by rw [Int.zero_add]; exact B), fun i => if i = j then o else W i, iD (j : Int), z8, z9, ?_, ?_, ?_, ?_⟩
      · have e1 : sumR (fun i => if i = j then o else W i) (j + 1) = sumR W j + o := by
          rw [sumR_succ, sumR_congr (g := W) j (fun i hi => by rw [if_neg (by omega)])]
          simp
        have e2 : rl h.ws.length (fun i => if i < j + 1 then L i - (if i = j then o else W i) else L i) = rl h.ws.length (fun i => if i = j then L j - o else if i < j then L i - W i else L i) := rl_congr fun i hi => by
          by_cases c1 : i = j
          · subst c1; simp
          · by_cases c2 : i < j
            · rw [if_pos (by omega), if_neg c1, if_neg c1, if_pos c2]
            · rw [if_neg (by omega), if_neg c1, if_neg c2]
        have e3 : rl (j + 1) (fun i => if i = j then o else W i) = rl j W ++ [qd o] := by
          rw [rl_succ, rl_congr (g' := W) (fun i hi => by rw [if_neg (by omega)])]
          simp
        rw [e1, e2, e3, show r - (sumR W j + o) = r - sumR W j - o by grind]
      · have e1 : sumR (fun i => if i = j then o else W i) (j + 1) = sumR W j + o := by
          rw [sumR_succ, sumR_congr (g := W) j (fun i hi => by rw [if_neg (by omega)])]
          simp
        rw [e1]; grind
      · have e1 : sumR (fun i => if i = j then o else W i) (j + 1) = sumR W j + o := by
          rw [sumR_succ, sumR_congr (g := W) j (fun i hi => by rw [if_neg (by omega)])]
          simp
        rw [e1, show r - (sumR W j + o) = r - sumR W j - o by grind]
        exact (Z.sub (i2.mono (Nat.le_succ _) (Nat.le_refl _)) o5).mono (by omega) (by omega)
      · refine ⟨fun i hi => ?_, fun i hi => ?_, fun i hi => ?_, fun i hi => ?_, fun i hi => ?_⟩
        all_goals
          by_cases c : i = j
        · subst c; rw [if_pos rfl]; exact o0
        · rw [if_neg c]; exact i3.nn i (by omega)
        · subst c; rw [if_pos rfl]; exact o1
        · rw [if_neg c]; exact i3.le i (by omega)
        · subst c; rw [if_pos rfl]; exact o3
        · rw [if_neg c]; exact i3.most i (by omega)
        · subst c; rw [if_pos rfl]; exact o4
        · rw [if_neg c]; exact i3.out i (by omega)
        · subst c; rw [if_pos rfl]; exact o5.mono (by omega) (by omega)
        · rw [if_neg c]; exact (i3.z i (by omega)).mono (by omega) (by omega))
  refine ⟨W, ?_, i1, i2.mono (by omega) (by omega), ⟨i3.nn, i3.le, i3.most, i3.out, fun i hi => (i3.z i hi).mono (by omega) (by omega)⟩⟩
  have el : rl h.ws.length (fun i => if i < h.ws.length then L i - W i else L i) = rl h.ws.length fun i => L i - W i := rl_congr fun i hi => by rw [if_pos hi]
  rw [el] at h1
  unfold F_l_worked fnIO
  simp only [List.length_cons, List.length_nil, Nat.reduceAdd, reduceIte, List.getElem?_cons_succ, List.getElem?_cons_zero, List.set_cons_zero, List.set_cons_succ, dats_cons, dats_nil, Nat.reduceSub, List.replicate, List.cons_append, List.nil_append]
  rw [io_next (ds' := [some (.dat (scr ns)), some (.dat (houseD h)), some (.own (rl h.ws.length L)), some (.dat (qd r)), iD (t : Int), iD k, some (.own []), none, none, none]) rfl]
  rw [io_next (ds' := [some (.dat (scr ns)), some (.dat (houseD h)), some (.own (rl h.ws.length (fun i => L i - W i))), some (.dat (qd (r - sumR W h.ws.length))), iD (t : Int), iD k, some (.own (rl h.ws.length W)), y7, y8, y9]) (by
    walk_at "r"
    rw [ix_house2]
    walk_at "r"
    rw [List.length_map, rng1_int (by omega)]
    walk_at "r"
    rw [Int.toNat_natCast]
    exact h1)]
  unfold ioFrz ioRet
  walk_at "r"
end Law

set_option Elab.async false
set_option linter.all false
set_option maxRecDepth 100000
set_option maxHeartbeats 400000
namespace Law
open PySem L2
noncomputable def lineL : Option (Int × Int × Int × Int) → Int × Int × Int × Int
  | none => (0, 0, 0, 0)
  | some l => l
noncomputable def quadD (l : Int × Int × Int × Int) : PyData := .tuple [.int l.1, .int l.2.1, .int l.2.2.1, .int l.2.2.2]
theorem lline_eq (x : Hr) : F_l_line [hourD x] = some (.dat (quadD (lineL x.line))) := by
  obtain ⟨s, n, l⟩ := x
  unfold F_l_line
  cases l with
  | none =>
    walk_at "r"
    rw [ix_hour2]
    simp only [lineD]
    walk_at "r"
    rfl
  | some l =>
    obtain ⟨a, b, c, d⟩ := l
    walk_at "r"
    rw [ix_hour2]
    simp only [lineD]
    walk_at "r"
    rw [ix_hour2]
    rfl
noncomputable def lawLine (p : Tr) (l : Int × Int × Int × Int) : List RR := [(moreF (coinT l.1) p m1, l.2.1), (moreF p (coinT l.2.2.1) m1, l.2.2.2)]
theorem lineL_ok {x : Hr} (hx : HrOk x) : PrB (lineL x.line).1 ∧ InB (lineL x.line).2.1 ∧ PrB (lineL x.line).2.2.1 ∧ InB (lineL x.line).2.2.2 := by
  cases e : x.line with
  | none => exact ⟨by decide, by decide, by decide, by decide⟩
  | some l => obtain ⟨a, b, c, d⟩ := l; exact hx.line a b c d e
noncomputable def lawHour (h : House) (P : Pr) (t : Nat) : List RR := (lawLine (P.here.getD t tr0) (lineL (h.hs.getD t hr0).line) ++ fourRows h (h.hs.getD t hr0) (P.here.getD t tr0) (P.stored.getD t tr0) (nxT h P t)) ++ catR (fun j => if inW (h.ws.getD j wk0) t = true then [wRow h P t j] else []) h.ws.length
noncomputable def lawRows (h : House) (P : Pr) : List RR := catR (lawHour h P) h.hs.length ++ catR (fun j => [uRow h P j]) h.ws.length
structure Hour where
  b : Rat
  g : Rat
  fi : Rat
  ta : Rat
  la : Rat
  wk : Nat → Rat
noncomputable def doneD (w : Nat) (x : Hour) : PyData := .tuple [qd x.b, qd x.g, qd x.fi, qd x.ta, qd x.la, .tuple (rl w x.wk)]
noncomputable def fh (h : House) : Int := 30 * (h.kept.1 * (h.kept.2 * h.left.2))
theorem fh_ok {h : House} (H : HouseOk h) : FOk (fh h) := by
  have k1 := H.kept.bb.lt
  have k2 := H.left.bb.lt
  have kp := H.kp
  have lf := H.lf
  have a1 : h.kept.2 ≤ 31 := by omega
  have a2 : h.left.2 ≤ 31 := by omega
  have b1 : h.kept.2 * h.left.2 ≤ 31 * 31 := Int.mul_le_mul a1 a2 (by omega) (by decide)
  have b0 : 0 < h.kept.2 * h.left.2 := Int.mul_pos (by omega) (by omega)
  have c1 : h.kept.1 * (h.kept.2 * h.left.2) ≤ 31 * (31 * 31) := Int.mul_le_mul (by omega) b1 (by omega) (by decide)
  have c0 : 0 < h.kept.1 * (h.kept.2 * h.left.2) := Int.mul_pos (by omega) b0
  unfold fh
  refine ⟨by omega, ⟨?_⟩⟩
  have : (2 : Nat) ^ 20 = 1048576 := by decide
  omega
theorem fh_30 (h : House) : (30 : Int) ∣ fh h := ⟨_, rfl⟩
theorem fh_k1 (h : House) : h.kept.1 ∣ fh h := ⟨30 * (h.kept.2 * h.left.2), by unfold fh; rw [← Int.mul_assoc, Int.mul_comm 30, Int.mul_assoc]⟩
theorem fh_k2 (h : House) : h.kept.2 ∣ fh h := ⟨30 * (h.kept.1 * h.left.2), by
  unfold fh
  have : ∀ a b c : Int, 30 * (a * (b * c)) = b * (30 * (a * c)) := fun a b c => by grind
  exact this _ _ _⟩
theorem fh_l2 (h : House) : h.left.2 ∣ fh h := ⟨30 * (h.kept.1 * h.kept.2), by
  unfold fh
  have : ∀ a b c : Int, 30 * (a * (b * c)) = c * (30 * (a * b)) := fun a b c => by grind
  exact this _ _ _⟩
/-- a share: above nought, at most one -/
structure ShOk (f : Int) (x : Rat) : Prop where
  pos : 0 < x
  le : x ≤ 1
  z : Z f 1 0 x
theorem share_ok {f : Int} {q : Q2} (hq : Frac 5 q) (h : 0 < q.1 ∧ q.1 ≤ q.2) (hd : q.2 ∣ f) : ShOk f (val q) := by
  refine ⟨?_, ?_, fr_z hq hd (by rw [Int.pow_zero]; omega)⟩
  · have := under_val (p := (0, 1)) (q := q) (by decide) hq.pos
    rw [val_q0] at this
    have z : underF (0, 1) q = true := by
      unfold underF
      simp only [decide_eq_true_eq]
      omega
    rw [z] at this
    exact of_decide_eq_true this.symm
  · have := under_val (p := (1, 1)) (q := q) (by decide) hq.pos
    have e1 : val (1, 1) = 1 := val_one 1
    rw [e1] at this
    have : ¬ (1 : Rat) < val q := fun z => by
      rw [decide_eq_true z] at this
      unfold underF at this
      have := of_decide_eq_true this
      simp only at this
      omega
    exact Rat.not_lt.mp this
theorem share_inv {f : Int} {q : Q2} (hq : Frac 5 q) (h : 0 < q.1 ∧ q.1 ≤ q.2) (hd : q.1 ∣ f) : PyData.tuple [.int q.2, .int q.1] = qd (val q)⁻¹ ∧ Z f 1 5 (val q)⁻¹ := by
  have hp : 0 < val q := by
    have := under_val (p := (0, 1)) (q := q) (by decide) hq.pos
    rw [val_q0] at this
    have z : underF (0, 1) q = true := by
      unfold underF
      simp only [decide_eq_true_eq]
      omega
    rw [z] at this
    exact of_decide_eq_true this.symm
  have e : q2 (val q)⁻¹ = (q.2, q.1) := by rw [inv_q2 hp, ← q2_val hq.pos hq.low]
  refine ⟨?_, ⟨?_⟩⟩
  · show fr (q.2, q.1) = fr (q2 (val q)⁻¹)
    rw [e]
  · rw [e, Int.pow_one]
    have hb := hq.bb.lt
    refine ⟨h.1, by show Int.gcd q.2 q.1 = 1; rw [Int.gcd_comm]; exact hq.low, hd, ?_⟩
    have : (2 : Int) ^ 5 = 32 := by decide
    rw [this]
    show (q.2.natAbs : Int) ≤ 32 * q.1
    omega
structure HrdOk (h : House) (f : Int) (t n e : Nat) (l : Rat) (L : Nat → Rat) (x : Hour) (l' : Rat) : Prop where
  b0 : 0 ≤ x.b
  b1 : x.b ≤ ((lineL (h.hs.getD t hr0).line).2.1 : Rat)
  g0 : 0 ≤ x.g
  g1 : x.g ≤ ((lineL (h.hs.getD t hr0).line).2.2.2 : Rat)
  f0 : 0 ≤ x.fi
  f1 : x.fi ≤ (h.fill : Rat)
  t0 : 0 ≤ x.ta
  t1 : x.ta ≤ (h.take : Rat)
  l0 : 0 ≤ x.la
  l1 : x.la ≤ ((h.hs.getD t hr0).need : Rat)
  w : WkdOk h f t n e L x.wk h.ws.length
  lv : l' = (l - x.ta) + val h.kept * x.fi
  v0 : 0 ≤ l'
  v1 : l' ≤ (h.size : Rat)
  sp : 0 ≤ ((h.hs.getD t hr0).sun : Rat) - ((h.hs.getD t hr0).need : Rat) + x.b + val h.left * x.ta + x.la - sumR x.wk h.ws.length - x.fi - x.g
  zb : Z f n e x.b
  zg : Z f n e x.g
  zf : Z f n e x.fi
  zt : Z f n e x.ta
  zl : Z f n e x.la
  zv : Z f n e l'
theorem ix_quad1 (l : Int × Int × Int × Int) : ixD (quadD l) (.int 1) = some (.dat (.int l.2.1)) := rfl
theorem ix_quad3 (l : Int × Int × Int × Int) : ixD (quadD l) (.int 3) = some (.dat (.int l.2.2.2)) := rfl
theorem ix_quad0 (l : Int × Int × Int × Int) : ixD (quadD l) (.int 0) = some (.dat (.int l.1)) := rfl
theorem ix_quad2 (l : Int × Int × Int × Int) : ixD (quadD l) (.int 2) = some (.dat (.int l.2.2.1)) := rfl
theorem part_le {m p : Rat} (m0 : 0 ≤ m) (p0 : 0 ≤ p) (p1 : p ≤ 1) : 0 ≤ m * p ∧ m * p ≤ m := by
  refine ⟨Rat.mul_nonneg m0 p0, ?_⟩
  have := Rat.mul_nonneg m0 (show 0 ≤ 1 - p by grind)
  grind
theorem callIO_eq {f : List PyData → Option (PyData × List PyData)} {j p : Nat} {Fl : Ds → Option (List PyData)} {ds : Ds} {l0 l : List PyData} {r : PyData × List PyData} (h0 : ds[p]? = some (some (.own l0))) (h1 : Fl ds = some l) (h2 : f l = some r) : gCallIO f j p Fl ds = some (.next ((ds.set p (some (.own r.2))).set j (some (.dat r.1)))) := by
  unfold gCallIO
  rw [h0]
  simp only []
  rw [h1, Option.bind_some, h2, Option.bind_some]
theorem num_neg {x : Rat} : x.num < 0 ↔ x < 0 := by
  have := neg_iff (p := q2 x) (q2_pos x)
  rw [val_q2] at this
  exact this
local macro_rules | `(tactic| walk_at "s") => `(tactic| simp only [List.set_cons_zero, List.set_cons_succ, PV.d_dat])
theorem hour_done_eq {ns : List Int} {h : House} {t n e : Nat} {k : Int} {l : Rat} {L : Nat → Rat} (hl : ns.length ≤ 63) (H : HouseOk h) (ht : t < h.hs.length) (k0 : 0 ≤ k) (k1 : k ≤ 90000) (e20 : 20 ≤ e) (en : n ≤ 28) (ee : e ≤ 100)
    (hl0 : 0 ≤ l) (hl1 : l ≤ (h.size : Rat)) (zl : Z (fh h) n e l) (hL : ∀ i, i < h.ws.length → 0 ≤ L i) (zL : ∀ i, i < h.ws.length → Z (fh h) n e (L i)) :
    ∃ (x : Hour) (l' : Rat), F_l_hour_done [scr ns, houseD h, .int (t : Int), qd l, .list (rl h.ws.length L), .int k] = some (.tuple [doneD h.ws.length x, qd l'], rl h.ws.length fun i => L i - x.wk i) ∧ HrdOk h (fh h) t (n + 7) (e + 8) l L x l' := by
  have hf := fh_ok H
  have h30 := fh_30 h
  have hx := hr_at H ht
  obtain ⟨ln1, ln2, ln3, ln4⟩ := lineL_ok hx
  have hl4 := H.hl
  have hsz := H.size
  have hfi := H.fill
  have hta := H.take
  have hsu := hx.sun
  have hne := hx.need
  have KO := share_ok H.kept H.kp (fh_k2 h)
  have LO := share_ok H.left H.lf (fh_l2 h)
  obtain ⟨eI, zI⟩ := share_inv H.kept H.kp (fh_k1 h)
  have eK := fr_qd H.kept
  have eL := fr_qd H.left
  obtain ⟨pb, epb, pb0, pb1, zpb⟩ := part_eq (ns := ns) (k := k) (f := fh h) hl k0 (by omega) h30
  obtain ⟨pt, ept, pt0, pt1, zpt⟩ := part_eq (ns := ns) (k := k + 1) (f := fh h) hl (by omega) (by omega) h30
  obtain ⟨dr, edr, dr0, dr1⟩ := draw_eq (ns := ns) (k := k + 2) (m := 4) hl (by omega) (by omega) (by decide)
  obtain ⟨pl, epl, pl0, pl1, zpl⟩ := part_eq (ns := ns) (k := k + 3) (f := fh h) hl (by omega) (by omega) h30
  obtain ⟨pf, epf, pf0, pf1, zpf⟩ := part_eq (ns := ns) (k := k + 4) (f := fh h) hl (by omega) (by omega) h30
  obtain ⟨pg, epg, pg0, pg1, zpg⟩ := part_eq (ns := ns) (k := k + 5) (f := fh h) hl (by omega) (by omega) h30
  have ehr : ixD (.tuple (h.hs.map hourD)) (.int (t : Int)) = some (.dat (hourD (h.hs.getD t hr0))) := tup_at hr0 ht
  have ell := lline_eq (h.hs.getD t hr0)
  generalize hln : lineL (h.hs.getD t hr0).line = ln at *
  generalize hxx : h.hs.getD t hr0 = x at *
  -- bought
  have zb1 : Z (fh h) 0 20 (ln.2.1 : Rat) := Z.int (by omega)
  have b1n : (0 : Rat) ≤ (ln.2.1 : Rat) := by exact_mod_cast ln2.1
  have zb : Z (fh h) 1 20 ((ln.2.1 : Rat) * pb) := (zb1.mul zpb).mono (by omega) (by omega)
  obtain ⟨bb0, bb1⟩ := part_le b1n pb0 pb1
  -- taken
  have ztk : Z (fh h) n 20 (h.take : Rat) := Z.int (by omega)
  have tkn : (0 : Rat) ≤ (h.take : Rat) := by exact_mod_cast hta.1
  obtain ⟨mt, emt, mt1, mt2, mto⟩ := least2 (ztk.ok hf (by omega) (by omega)) (zl.ok hf (by omega) (by omega))
  have zmt : Z (fh h) n e mt := by
    rcases mto with z | z
    · rw [z]; exact ztk.mono (Nat.le_refl _) e20
    · rw [z]; exact zl
  have mt0 : 0 ≤ mt := by
    rcases mto with z | z
    · rw [z]; exact tkn
    · rw [z]; exact hl0
  have zta : Z (fh h) (n + 1) e (mt * pt) := (zmt.mul zpt).mono (by omega) (by omega)
  obtain ⟨ta0, ta1⟩ := part_le mt0 pt0 pt1
  -- the rest
  have zlt : Z (fh h) (n + 2) e (val h.left * (mt * pt)) := (LO.z.mul zta).mono (by omega) (by omega)
  have lt0 : 0 ≤ val h.left * (mt * pt) := Rat.mul_nonneg (Rat.le_of_lt LO.pos) ta0
  have zs1 : Z (fh h) (n + 2) (e + 1) ((ln.2.1 : Rat) * pb + val h.left * (mt * pt)) := (zb.mono (by omega) e20).add zlt
  have zsn : Z (fh h) (n + 2) 20 ((x.sun - x.need : Int) : Rat) := Z.int (by omega)
  have zr1 : Z (fh h) (n + 2) (e + 2) (((x.sun - x.need : Int) : Rat) + ((ln.2.1 : Rat) * pb + val h.left * (mt * pt))) := (zsn.mono (Nat.le_refl _) (by omega)).add zs1
  have nd0 : (0 : Rat) ≤ (x.need : Rat) := by exact_mod_cast hne.1
  have sn0 : (0 : Rat) ≤ (x.sun : Rat) := by exact_mod_cast hsu.1
  have esn : ((x.sun - x.need : Int) : Rat) = (x.sun : Rat) - (x.need : Rat) := Rat.intCast_sub _ _
  generalize er1 : ((x.sun - x.need : Int) : Rat) + ((ln.2.1 : Rat) * pb + val h.left * (mt * pt)) = r1 at *
  -- lacked
  obtain ⟨c0, hc0⟩ : ∃ c0 : Rat, c0 = if r1 < 0 then -r1 else 0 := ⟨_, rfl⟩
  have c00 : 0 ≤ c0 ∧ 0 ≤ r1 + c0 ∧ c0 ≤ (x.need : Rat) ∧ Z (fh h) (n + 2) (e + 2) c0 := by
    by_cases c : r1 < 0
    · rw [if_pos c] at hc0
      subst hc0
      exact ⟨by grind, by grind, by grind, zr1.neg⟩
    · rw [if_neg c] at hc0
      subst hc0
      exact ⟨Rat.le_refl, by grind, nd0, Z.zero⟩
  obtain ⟨c01, c02, c03, zc0⟩ := c00
  have znd : Z (fh h) (n + 2) 20 (x.need : Rat) := Z.int (by omega)
  have zmo : Z (fh h) (n + 2) (e + 3) ((x.need : Rat) - c0) := (znd.mono (Nat.le_refl _) (by omega)).sub zc0
  have zmp : Z (fh h) (n + 3) (e + 3) (((x.need : Rat) - c0) * pl) := (zmo.mul zpl).mono (by omega) (by omega)
  obtain ⟨mp0, mp1⟩ := part_le (show 0 ≤ (x.need : Rat) - c0 by grind) pl0 pl1
  obtain ⟨c, hc⟩ : ∃ c : Rat, c = if dr = 0 then c0 + ((x.need : Rat) - c0) * pl else c0 := ⟨_, rfl⟩
  have cc : 0 ≤ c ∧ 0 ≤ r1 + c ∧ c ≤ (x.need : Rat) ∧ Z (fh h) (n + 3) (e + 4) c := by
    by_cases d : dr = 0
    · rw [if_pos d] at hc
      subst hc
      exact ⟨by grind, by grind, by grind, (zc0.mono (by omega) (by omega)).add zmp⟩
    · rw [if_neg d] at hc
      subst hc
      exact ⟨c01, c02, c03, zc0.mono (by omega) (by omega)⟩
  obtain ⟨cc0, cc1, cc2, zc⟩ := cc
  have zr2 : Z (fh h) (n + 3) (e + 5) (r1 + c) := (zr1.mono (by omega) (by omega)).add zc
  obtain ⟨W, eW, r30, zr3, WO⟩ := worked_eq (t := t) (k := k + 10) hl H hf h30 (by omega) (by omega) (by omega) (by omega) (by omega) hL cc1 (fun i hi => (zL i hi).mono (by omega) (by omega)) zr2
  generalize er3 : r1 + c - sumR W h.ws.length = r3 at *
  -- room
  have zkl : Z (fh h) (n + 1) (e + 1) (mt * pt - l) := zta.sub (zl.mono (by omega) (Nat.le_refl _))
  have zsz : Z (fh h) (n + 1) 20 (h.size : Rat) := Z.int (by omega)
  have zro : Z (fh h) (n + 1) (e + 2) ((h.size : Rat) + (mt * pt - l)) := (zsz.mono (Nat.le_refl _) (by omega)).add zkl
  have ro0 : 0 ≤ (h.size : Rat) + (mt * pt - l) := by grind
  have iv0 : 0 < (val h.kept)⁻¹ := Rat.inv_pos.mpr KO.pos
  have zrm : Z (fh h) (n + 2) (e + 7) (((h.size : Rat) + (mt * pt - l)) * (val h.kept)⁻¹) := (zro.mul zI).mono (by omega) (by omega)
  have rm0 : 0 ≤ ((h.size : Rat) + (mt * pt - l)) * (val h.kept)⁻¹ := Rat.mul_nonneg ro0 (Rat.le_of_lt iv0)
  have rmk : val h.kept * (((h.size : Rat) + (mt * pt - l)) * (val h.kept)⁻¹) = (h.size : Rat) + (mt * pt - l) := by
    have := Rat.mul_inv_cancel (val h.kept) (by have := KO.pos; grind)
    grind
  generalize erm : ((h.size : Rat) + (mt * pt - l)) * (val h.kept)⁻¹ = rm at *
  -- filled
  have zfl : Z (fh h) n 20 (h.fill : Rat) := Z.int (by omega)
  have fl0 : (0 : Rat) ≤ (h.fill : Rat) := by exact_mod_cast hfi.1
  obtain ⟨mf, emf, mf1, mf2, mf3, mfo⟩ := least3 (zfl.ok hf (by omega) (by omega)) (zrm.ok hf (by omega) (by omega)) (zr3.ok hf (by omega) (by omega))
  have zmf : Z (fh h) (n + 5) (e + 7) mf := by
    rcases mfo with z | z | z
    · rw [z]; exact zfl.mono (by omega) (by omega)
    · rw [z]; exact zrm.mono (by omega) (by omega)
    · rw [z]; exact zr3.mono (by omega) (by omega)
  have mf0 : 0 ≤ mf := by
    rcases mfo with z | z | z
    · rw [z]; exact fl0
    · rw [z]; exact rm0
    · rw [z]; exact r30
  obtain ⟨fi0, fi1⟩ := part_le mf0 pf0 pf1
  have zfi : Z (fh h) (n + 6) (e + 7) (mf * pf) := (zmf.mul zpf).mono (by omega) (by omega)
  have zr4 : Z (fh h) (n + 6) (e + 8) (r3 - mf * pf) := (zr3.mono (by omega) (by omega)).sub zfi
  have r40 : 0 ≤ r3 - mf * pf := by grind
  -- given
  have zgv : Z (fh h) n 20 (ln.2.2.2 : Rat) := Z.int (by omega)
  have gv0 : (0 : Rat) ≤ (ln.2.2.2 : Rat) := by exact_mod_cast ln4.1
  obtain ⟨mg, emg, mg1, mg2, mgo⟩ := least2 (zgv.ok hf (by omega) (by omega)) (zr4.ok hf (by omega) (by omega))
  have zmg : Z (fh h) (n + 6) (e + 8) mg := by
    rcases mgo with z | z
    · rw [z]; exact zgv.mono (by omega) (by omega)
    · rw [z]; exact zr4
  have mg0 : 0 ≤ mg := by
    rcases mgo with z | z
    · rw [z]; exact gv0
    · rw [z]; exact r40
  obtain ⟨gg0, gg1⟩ := part_le mg0 pg0 pg1
  have zg : Z (fh h) (n + 7) (e + 8) (mg * pg) := (zmg.mul zpg).mono (by omega) (by omega)
  -- the level
  have zlk : Z (fh h) (n + 1) (e + 1) (l - mt * pt) := (zl.mono (by omega) (Nat.le_refl _)).sub zta
  have zkf : Z (fh h) (n + 7) (e + 7) (val h.kept * (mf * pf)) := (KO.z.mul zfi).mono (by omega) (by omega)
  have zlv : Z (fh h) (n + 7) (e + 8) (l - mt * pt + val h.kept * (mf * pf)) := (zlk.mono (by omega) (by omega)).add zkf
  have kf0 : 0 ≤ val h.kept * (mf * pf) := Rat.mul_nonneg (Rat.le_of_lt KO.pos) fi0
  have kf1 : val h.kept * (mf * pf) ≤ val h.kept * rm := by
    have := Rat.mul_nonneg (Rat.le_of_lt KO.pos) (show 0 ≤ rm - mf * pf by grind)
    grind
  refine ⟨⟨(ln.2.1 : Rat) * pb, mg * pg, mf * pf, mt * pt, c, W⟩, l - mt * pt + val h.kept * (mf * pf), ?_, ?_⟩
  · unfold F_l_hour_done fnIO
    simp only [List.length_cons, List.length_nil, Nat.reduceAdd, reduceIte, List.getElem?_cons_succ, List.getElem?_cons_zero, List.set_cons_zero, List.set_cons_succ, dats_cons, dats_nil, Nat.reduceSub, List.replicate, List.cons_append, List.nil_append]
    rw [io_next (setD_eq (pv := .dat (hourD x)) (by simp only [fOp, fVar, fC, List.getElem?_cons_zero, List.getElem?_cons_succ, Option.bind_some, PV.d_dat]; rw [ix_house0]; simp only [Option.bind_some, PV.d_dat]; exact ehr))]
    walk_at "s"
    rw [io_next (setD_eq (pv := .dat (storeD h)) (by walk_at "r"; rw [ix_house1]))]
    walk_at "s"
    rw [io_next (setD_eq (pv := .dat (quadD ln)) (by walk_at "r"; exact ell))]
    walk_at "s"
    rw [io_next (setD_eq (pv := .dat (qd ((ln.2.1 : Rat) * pb))) (by
      walk_at "r"
      rw [ix_quad1]
      walk_at "r"
      rw [epb]
      walk_at "r"
      rw [qd_int]
      exact l_times (zb1.ok hf (by omega) (by omega)) (zpb.ok hf (by omega) (by omega))))]
    walk_at "s"
    rw [io_next (setD_eq (pv := .dat (qd (mt * pt))) (by
      walk_at "r"
      rw [ix_store3]
      walk_at "r"
      rw [qd_int, emt]
      walk_at "r"
      rw [ept]
      walk_at "r"
      exact l_times (zmt.ok hf (by omega) (by omega)) (zpt.ok hf (by omega) (by omega))))]
    walk_at "s"
    rw [io_next (setD_eq (pv := .dat (qd r1)) (by
      walk_at "r"
      rw [ix_hour0, ix_hour1]
      walk_at "r"
      rw [ix_store5]
      walk_at "r"
      rw [eL, l_times (LO.z.ok hf (by omega) (by omega)) (zta.ok hf (by omega) (by omega))]
      walk_at "r"
      rw [l_sum (zb.ok hf (by omega) (by omega)) (zlt.ok hf (by omega) (by omega))]
      walk_at "r"
      rw [qd_int, l_sum (zsn.ok hf (by omega) (by omega)) (zs1.ok hf (by omega) (by omega)), er1]))]
    walk_at "s"
    rw [io_next (setD_eq (pv := .dat (qd 0)) (by walk_at "r"; rfl))]
    walk_at "s"
    rw [io_next (ds' := [some (.dat (scr ns)), some (.dat (houseD h)), some (.dat (.int (t : Int))), some (.dat (qd l)), some (.own (rl h.ws.length L)), some (.dat (.int k)), some (.dat (hourD x)), some (.dat (storeD h)), some (.dat (quadD ln)), some (.dat (qd ((ln.2.1 : Rat) * pb))), some (.dat (qd (mt * pt))), some (.dat (qd r1)), some (.dat (qd c0)), none, none, none, none, none]) (by
      walk_at "r"
      rw [ix_qd0]
      walk_at "r"
      by_cases d : r1 < 0
      · rw [if_pos (num_neg.mpr d), l_neg]
        walk_at "r"
        rw [hc0, if_pos d]
      · rw [if_neg (fun z => d (num_neg.mp z)), hc0, if_neg d])]
    rw [io_next (setD_eq (pv := .dat (qd ((x.need : Rat) - c0))) (by
      walk_at "r"
      rw [ix_hour1]
      walk_at "r"
      rw [l_neg]
      walk_at "r"
      rw [qd_int, l_sum (znd.ok hf (by omega) (by omega)) (zc0.ok hf (by omega) (by omega)).neg, ← Rat.sub_eq_add_neg]))]
    walk_at "s"
    rw [io_next (ds' := [some (.dat (scr ns)), some (.dat (houseD h)), some (.dat (.int (t : Int))), some (.dat (qd l)), some (.own (rl h.ws.length L)), some (.dat (.int k)), some (.dat (hourD x)), some (.dat (storeD h)), some (.dat (quadD ln)), some (.dat (qd ((ln.2.1 : Rat) * pb))), some (.dat (qd (mt * pt))), some (.dat (qd r1)), some (.dat (qd c)), some (.dat (qd ((x.need : Rat) - c0))), none, none, none, none]) (by
      walk_at "r"
      rw [edr]
      walk_at "r"
      by_cases d : dr = 0
      · rw [if_pos d, epl]
        walk_at "r"
        rw [l_times (zmo.ok hf (by omega) (by omega)) (zpl.ok hf (by omega) (by omega))]
        walk_at "r"
        rw [l_sum (zc0.ok hf (by omega) (by omega)) (zmp.ok hf (by omega) (by omega))]
        walk_at "r"
        rw [hc, if_pos d]
      · rw [if_neg d, hc, if_neg d])]
    rw [io_next (setD_eq (pv := .dat (qd (r1 + c))) (by
      walk_at "r"
      exact l_sum (zr1.ok hf (by omega) (by omega)) (zc.ok hf (by omega) (by omega))))]
    walk_at "s"
    rw [io_next (callIO_eq (l0 := rl h.ws.length L) (l := [scr ns, houseD h, .list (rl h.ws.length L), qd (r1 + c), .int (t : Int), .int (k + 10)]) rfl (by
      simp only [aCons, aNil, fVar, fVarB, fOp, fC, List.getElem?_cons_zero, List.getElem?_cons_succ, Option.bind_some, PV.d_dat, PV.d_own, addD_int]) eW)]
    walk_at "s"
    rw [io_next (setD_eq (pv := .dat (qd r3)) (by walk_at "r"))]
    walk_at "s"
    rw [io_next (setD_eq (pv := .dat (qd ((h.size : Rat) + (mt * pt - l)))) (by
      walk_at "r"
      rw [ix_store0]
      walk_at "r"
      rw [l_neg]
      walk_at "r"
      rw [l_sum (zta.ok hf (by omega) (by omega)) (zl.ok hf (by omega) (by omega)).neg, ← Rat.sub_eq_add_neg]
      walk_at "r"
      rw [qd_int]
      exact l_sum (zsz.ok hf (by omega) (by omega)) (zkl.ok hf (by omega) (by omega))))]
    walk_at "s"
    rw [io_next (setD_eq (pv := .dat (qd rm)) (by
      walk_at "r"
      rw [ix_store4]
      simp only [Option.bind_some, PV.d_dat]
      rw [show ixD (fr h.kept) (.int 1) = some (.dat (.int h.kept.2)) from rfl, show ixD (fr h.kept) (.int 0) = some (.dat (.int h.kept.1)) from rfl]
      walk_at "r"
      rw [eI, l_times (zro.ok hf (by omega) (by omega)) (zI.ok hf (by omega) (by omega)), erm]))]
    walk_at "s"
    rw [io_next (setD_eq (pv := .dat (qd (mf * pf))) (by
      walk_at "r"
      rw [ix_store2]
      walk_at "r"
      rw [qd_int, emf]
      walk_at "r"
      rw [epf]
      walk_at "r"
      exact l_times (zmf.ok hf (by omega) (by omega)) (zpf.ok hf (by omega) (by omega))))]
    walk_at "s"
    rw [io_next (setD_eq (pv := .dat (qd (r3 - mf * pf))) (by
      walk_at "r"
      rw [l_neg]
      walk_at "r"
      rw [l_sum (zr3.ok hf (by omega) (by omega)) (zfi.ok hf (by omega) (by omega)).neg, ← Rat.sub_eq_add_neg]))]
    walk_at "s"
    rw [io_next (setD_eq (pv := .dat (qd (mg * pg))) (by
      walk_at "r"
      rw [ix_quad3]
      walk_at "r"
      rw [qd_int, emg]
      walk_at "r"
      rw [epg]
      walk_at "r"
      exact l_times (zmg.ok hf (by omega) (by omega)) (zpg.ok hf (by omega) (by omega))))]
    walk_at "s"
    rw [io_next (setD_eq (pv := .dat (qd (l - mt * pt + val h.kept * (mf * pf)))) (by
      walk_at "r"
      rw [l_neg]
      walk_at "r"
      rw [l_sum (zl.ok hf (by omega) (by omega)) (zta.ok hf (by omega) (by omega)).neg, ← Rat.sub_eq_add_neg]
      walk_at "r"
      rw [ix_store4]
      walk_at "r"
      rw [eK, l_times (KO.z.ok hf (by omega) (by omega)) (zfi.ok hf (by omega) (by omega))]
      walk_at "r"
      exact l_sum (zlk.ok hf (by omega) (by omega)) (zkf.ok hf (by omega) (by omega))))]
    walk_at "s"
    unfold ioRet
    walk_at "r"
    rfl
  · have v0 : 0 ≤ l - mt * pt + val h.kept * (mf * pf) := by
      have : 0 ≤ l - mt * pt := by grind
      grind
    have v1 : l - mt * pt + val h.kept * (mf * pf) ≤ (h.size : Rat) := by grind
    have s0 : 0 ≤ (x.sun : Rat) - (x.need : Rat) + (ln.2.1 : Rat) * pb + val h.left * (mt * pt) + c - sumR W h.ws.length - mf * pf - mg * pg := by grind
    refine ⟨bb0, by rw [hxx, hln]; exact bb1, gg0, by rw [hxx, hln]; exact Rat.le_trans gg1 mg1, fi0, Rat.le_trans fi1 mf1, ta0, Rat.le_trans ta1 mt1, cc0, by rw [hxx]; exact cc2, ⟨WO.nn, WO.le, WO.most, WO.out, fun i hi => (WO.z i hi).mono (by omega) (by omega)⟩, rfl, v0, v1, ?_, zb.mono (by omega) (by omega), zg, zfi.mono (by omega) (by omega), zta.mono (by omega) (by omega), zc.mono (by omega) (by omega), zlv⟩
    rw [hxx]
    exact s0
end Law

set_option Elab.async false
set_option linter.all false
set_option maxRecDepth 100000
set_option maxHeartbeats 400000
namespace Law
open PySem L2
noncomputable abbrev amt (h : House) (j : Nat) : Rat := ((h.ws.getD j wk0).amount : Rat)
noncomputable abbrev lf (h : House) (X : Nat → Hour) (t j : Nat) : Rat := amt h j - sumR (fun i => (X i).wk j) t
structure PlanOk (h : House) (X : Nat → Hour) (lv : Nat → Rat) (n : Nat) : Prop where
  st : lv 0 = (h.start : Rat)
  hr : ∀ t, t < n → HrdOk h (fh h) t (7 * t + 7) (20 + 9 * t + 8) (lv t) (lf h X t) (X t) (lv (t + 1))
theorem map_range {α : Type} (l : List α) (a : α) (g : α → PyData) : l.map g = (List.range l.length).map fun j => g (l.getD j a) := by
  refine List.ext_getElem? fun m => ?_
  rw [List.getElem?_map, List.getElem?_map]
  by_cases c : m < l.length
  · simp [c, List.getD]
  · simp [c]
theorem HrdOk.to {h : House} {f : Int} {t n e : Nat} {l : Rat} {L L' : Nat → Rat} {x : Hour} {l' : Rat} (k : HrdOk h f t n e l L x l') (hL : ∀ j, j < h.ws.length → L' j = L j) : HrdOk h f t n e l L' x l' :=
  { k with w := ⟨k.w.nn, fun i hi => by rw [hL i hi]; exact k.w.le i hi, k.w.most, k.w.out, k.w.z⟩ }
theorem plan_eq {ns : List Int} {h : House} {k : Int} (hl : ns.length ≤ 63) (H : HouseOk h) (k0 : 0 ≤ k) (k1 : k ≤ 80000) :
    ∃ (X : Nat → Hour) (lv : Nat → Rat), F_l_plan [scr ns, houseD h, .int k] = some (.dat (.tuple ((List.range h.hs.length).map fun t => doneD h.ws.length (X t)))) ∧ PlanOk h X lv h.hs.length := by
  have hl4 := H.hl
  have wl := H.wl
  have st := H.start
  have fu := H.full
  obtain ⟨ds', h1, X, lv, y6, y7, rfl, po, _, _, _, _⟩ := forD_rng (gt := sName 6) (G := B_l_plan_0) (lo := 0) (n := h.hs.length) (ds := [some (.dat (scr ns)), some (.dat (houseD h)), iD k, some (.dat (qd (h.start : Rat))), some (.own (rl h.ws.length (amt h))), some (.own []), none, none])
    (fun t ds => ∃ (X : Nat → Hour) (lv : Nat → Rat) (y6 y7 : Option PV), ds = [some (.dat (scr ns)), some (.dat (houseD h)), iD k, some (.dat (qd (lv t))), some (.own (rl h.ws.length (lf h X t))), some (.own ((List.range t).map fun i => doneD h.ws.length (X i))), y6, y7] ∧ PlanOk h X lv t ∧ 0 ≤ lv t ∧ lv t ≤ (h.size : Rat) ∧ Z (fh h) (7 * t) (20 + 9 * t) (lv t) ∧ ∀ j, j < h.ws.length → 0 ≤ lf h X t j ∧ Z (fh h) (7 * t) (20 + 9 * t) (lf h X t j))
    ⟨fun _ => ⟨0, 0, 0, 0, 0, fun _ => 0⟩, fun _ => (h.start : Rat), none, none, by
      rw [rl_congr (g := lf h (fun _ => ⟨0, 0, 0, 0, 0, fun _ => 0⟩) 0) (g' := amt h) (fun j _ => by show amt h j - 0 = amt h j; grind)]
      rfl, ⟨rfl, fun t z => by omega⟩, by show (0 : Rat) ≤ (h.start : Rat); exact_mod_cast st.1, by show (h.start : Rat) ≤ (h.size : Rat); exact_mod_cast fu, Z.int (by omega), fun j hj => by
        have e : lf h (fun _ => ⟨0, 0, 0, 0, 0, fun _ => 0⟩) 0 j = amt h j := by show amt h j - 0 = amt h j; grind
        rw [e]
        have wa := (wk_at H hj).amount
        exact ⟨by show (0 : Rat) ≤ (((h.ws.getD j wk0).amount : Int) : Rat); exact_mod_cast wa.1, Z.int (by omega)⟩⟩ (by
      rintro t ds ht ⟨X, lv, y6, y7, rfl, po, v0, v1, zv, hL⟩
      obtain ⟨x, l', eq, ho⟩ := hour_done_eq (ns := ns) (h := h) (t := t) (n := 7 * t) (e := 20 + 9 * t) (k := k + 30 * (t : Int)) (l := lv t) (L := lf h X t) hl H ht (by omega) (by omega) (by omega) (by omega) (by omega) v0 v1 zv (fun j hj => (hL j hj).1) (fun j hj => (hL j hj).2)
      have ex : ∀ i, i < t → (if i = t then x else X i) = X i := fun i hi => by rw [if_neg (by omega)]
      have es : ∀ (m j : Nat), m ≤ t → sumR (fun i => (if i = t then x else X i).wk j) m = sumR (fun i => (X i).wk j) m := fun m j hm => sumR_congr m fun i hi => by rw [ex i (by omega)]
      have e1 : ∀ j, lf h (fun i => if i = t then x else X i) (t + 1) j = lf h X t j - x.wk j := fun j => by
        show amt h j - (sumR (fun i => (if i = t then x else X i).wk j) t + (if t = t then x else X t).wk j) = amt h j - sumR (fun i => (X i).wk j) t - x.wk j
        rw [es t j (Nat.le_refl _), if_pos rfl]
        grind
      refine ⟨_, _, rfl, .inl ?_, fun i => if i = t then x else X i, fun i => if i = t + 1 then l' else lv i, iD (t : Int), some (.dat (.tuple [doneD h.ws.length x, qd l'])), rfl, ⟨?_, ?_⟩, ?_, ?_, ?_, ?_⟩
      · have er : (List.range (t + 1)).map (fun i => doneD h.ws.length (if i = t then x else X i)) = (List.range t).map (fun i => doneD h.ws.length (X i)) ++ [doneD h.ws.length x] := by
          rw [List.range_succ, List.map_append, List.map_cons, List.map_nil, if_pos rfl]
          congr 1
          exact List.map_congr_left fun i hi => by rw [ex i (List.mem_range.mp hi)]
        have e2 : (fun i => if i = t + 1 then l' else lv i) (t + 1) = l' := if_pos rfl
        rw [er, e2, rl_congr (fun j _ => e1 j), Int.zero_add]
        simp only [List.set_cons_zero, List.set_cons_succ]
        unfold B_l_plan_0
        rw [sq_next (callIO_eq (l0 := rl h.ws.length (lf h X t)) (l := [scr ns, houseD h, .int (t : Int), qd (lv t), .list (rl h.ws.length (lf h X t)), .int (k + 30 * (t : Int))]) rfl (by
          simp only [aCons, aNil, fVar, fVarB, fOp, fC, List.getElem?_cons_zero, List.getElem?_cons_succ, List.set_cons_zero, List.set_cons_succ, Option.bind_some, PV.d_dat, PV.d_own]
          rw [mulD_int Bt.lit (Bt.s62 (by omega) (by omega))]
          simp only [Option.bind_some, PV.d_dat, addD_int]) eq)]
        simp only [List.set_cons_zero, List.set_cons_succ]
        rw [sq_next (ds' := [some (.dat (scr ns)), some (.dat (houseD h)), iD k, some (.dat (qd (lv t))), some (.own (rl h.ws.length (fun i => lf h X t i - x.wk i))), some (.own ((List.range t).map (fun i => doneD h.ws.length (X i)) ++ [doneD h.ws.length x])), iD (t : Int), some (.dat (.tuple [doneD h.ws.length x, qd l']))]) (by
          rw [gApp_eq]
          exact appK_some (i := 5) (l := (List.range t).map (fun i => doneD h.ws.length (X i))) (.dat (doneD h.ws.length x)) rfl (by rw [List.length_map, List.length_range]; omega))]
        exact setD_eq (pv := .dat (qd l')) rfl
      · show (if 0 = t + 1 then l' else lv 0) = _
        rw [if_neg (by omega)]; exact po.st
      · intro i hi
        have sl : ∀ j, j < h.ws.length → lf h (fun i => if i = t then x else X i) i j = lf h X i j := fun j _ => by
          show amt h j - sumR (fun i => (if i = t then x else X i).wk j) i = _
          rw [es i j (by omega)]
        by_cases c : i = t
        · subst c
          simp only [if_true]
          rw [if_neg (by omega)]
          exact ho.to sl
        · have := (po.hr i (by omega)).to sl
          simp only [if_neg c, if_neg (show ¬ i = t + 1 by omega), if_neg (show ¬ i + 1 = t + 1 by omega)]
          exact this
      · show 0 ≤ if t + 1 = t + 1 then l' else lv (t + 1)
        rw [if_pos rfl]; exact ho.v0
      · show (if t + 1 = t + 1 then l' else lv (t + 1)) ≤ _
        rw [if_pos rfl]; exact ho.v1
      · show Z (fh h) (7 * (t + 1)) (20 + 9 * (t + 1)) (if t + 1 = t + 1 then l' else lv (t + 1))
        rw [if_pos rfl]; exact ho.zv.mono (by omega) (by omega)
      · intro j hj
        rw [e1 j]
        have w1 := ho.w.le j hj
        refine ⟨by grind, ?_⟩
        exact (Z.sub ((hL j hj).2.mono (show 7 * t ≤ 7 * t + 7 by omega) (show 20 + 9 * t ≤ 20 + 9 * t + 8 by omega)) (ho.w.z j hj)).mono (by omega) (by omega))
  refine ⟨X, lv, ?_, po⟩
  unfold F_l_plan
  walk_at "r"
  rw [ix_house1]
  walk_at "r"
  rw [ix_store1]
  walk_at "r"
  rw [ix_house2]
  walk_at "r"
  rw [comp_map (g := workD) (f := fun w => qd (w.amount : Rat)) (fun w _ => ⟨.dat (qd (w.amount : Rat)), by
    unfold E_l_plan_0
    walk_at "r"
    rw [ix_work1]
    walk_at "r"
    rfl, rfl⟩)]
  walk_at "r"
  rw [if_pos (by rw [List.length_map]; omega)]
  walk_at "r"
  rw [map_range h.ws wk0 (fun w => qd (w.amount : Rat)), ix_house0]
  walk_at "r"
  rw [List.length_map, rng1_int (by omega)]
  walk_at "r"
  rw [Int.toNat_natCast, qd_int]
  rw [show (List.range h.ws.length).map (fun j => qd ((h.ws.getD j wk0).amount : Rat)) = rl h.ws.length (amt h) from rfl, h1]
  walk_at "r"
end Law

set_option Elab.async false
set_option linter.all false
set_option maxRecDepth 100000
set_option maxHeartbeats 400000
namespace Law
open PySem L2
noncomputable abbrev lnAt (h : House) (t : Nat) : Int × Int × Int × Int := lineL (h.hs.getD t hr0).line
noncomputable abbrev lackS (X : Nat → Hour) (t : Nat) : Rat := sumR (fun i => (X i).la) t
noncomputable abbrev undS (h : House) (X : Nat → Hour) (t : Nat) : Rat := sumR (amt h) h.ws.length - sumR (fun i => sumR (X i).wk h.ws.length) t
noncomputable abbrev paidS (h : House) (X : Nat → Hour) (t : Nat) : Rat := sumR (fun i => ((lnAt h i).1 : Rat) * (X i).b - ((lnAt h i).2.2.1 : Rat) * (X i).g) t
structure HZ (h : House) (x : Hour) : Prop where
  b : Z (fh h) 28 55 x.b
  g : Z (fh h) 28 55 x.g
  fi : Z (fh h) 28 55 x.fi
  ta : Z (fh h) 28 55 x.ta
  la : Z (fh h) 28 55 x.la
  wk : ∀ j, j < h.ws.length → Z (fh h) 28 55 (x.wk j)
theorem PlanOk.hz {h : House} {X : Nat → Hour} {lv : Nat → Rat} {n t : Nat} (P : PlanOk h X lv n) (hn : n ≤ 4) (ht : t < n) : HZ h (X t) ∧ Z (fh h) 28 55 (lv (t + 1)) := by
  have k := P.hr t ht
  exact ⟨⟨k.zb.mono (by omega) (by omega), k.zg.mono (by omega) (by omega), k.zf.mono (by omega) (by omega), k.zt.mono (by omega) (by omega), k.zl.mono (by omega) (by omega), fun j hj => (k.w.z j hj).mono (by omega) (by omega)⟩, k.zv.mono (by omega) (by omega)⟩
theorem PlanOk.lvz {h : House} {X : Nat → Hour} {lv : Nat → Rat} {n : Nat} (H : HouseOk h) (P : PlanOk h X lv n) (hn : n ≤ 4) : ∀ t, t ≤ n → Z (fh h) 28 55 (lv t)
  | 0, _ => by
    have st := H.start
    rw [P.st]
    exact (Z.int (n := 28) (by omega)).mono (Nat.le_refl _) (by omega)
  | t + 1, ht => (P.hz hn (by omega)).2
theorem sum_z {f : Int} {n e : Nat} {g : Nat → Rat} : ∀ m, (∀ i, i < m → Z f n e (g i)) → Z f n (e + m) (sumR g m)
  | 0, _ => Z.zero
  | m + 1, h => by
    have := Z.add (sum_z m fun i hi => h i (by omega)) ((h m (by omega)).mono (Nat.le_refl n) (Nat.le_add_right e m))
    exact this
theorem und_loop {f : Int} {g : Nat → Rat} {w e : Nat} {u : Rat} (hf : FOk f) (hu : Z f 28 e u) (he : 55 ≤ e) (he2 : e + w ≤ 150) (hg : ∀ j, j < w → Z f 28 55 (g j)) (x0 x1 x2 x4 x5 x6 x7 x8 x9 x10 : Option PV) :
    ∃ y10, forD (sName 10) B_l_costs_1 (rl w g) [x0, x1, x2, some (.dat (qd u)), x4, x5, x6, x7, x8, x9, x10] = some (.next [x0, x1, x2, some (.dat (qd (u - sumR g w))), x4, x5, x6, x7, x8, x9, y10]) := by
  obtain ⟨ds', h1, y10, rfl, _⟩ := forD_all (gt := sName 10) (G := B_l_costs_1) (items := rl w g) (ds := [x0, x1, x2, some (.dat (qd u)), x4, x5, x6, x7, x8, x9, x10])
    (fun i ds => ∃ y10, ds = [x0, x1, x2, some (.dat (qd (u - sumR g i))), x4, x5, x6, x7, x8, x9, y10] ∧ Z f 28 (e + i) (u - sumR g i)) ⟨x10, by
      have e1 : u - sumR g 0 = u := by show u - 0 = u; grind
      rw [e1]
      exact ⟨rfl, hu⟩⟩ (by
      rintro i d ds hd ⟨y10, rfl, hz⟩
      have hi : i < w := by
        have := (List.getElem?_eq_some_iff.mp hd).1
        rwa [rl_len] at this
      have ed : d = qd (g i) := by
        unfold rl at hd
        rw [List.getElem?_map, List.getElem?_range hi] at hd
        exact (Option.some.inj hd).symm
      subst ed
      have e2 : u - sumR g (i + 1) = u - sumR g i - g i := by rw [sumR_succ]; grind
      refine ⟨_, [x0, x1, x2, some (.dat (qd (u - sumR g (i + 1)))), x4, x5, x6, x7, x8, x9, some (.dat (qd (g i)))], rfl, .inl ?_, _, rfl, ?_⟩
      · unfold B_l_costs_1
        simp only [List.set_cons_zero, List.set_cons_succ]
        rw [e2]
        refine setD_eq (pv := .dat (qd (u - sumR g i - g i))) ?_
        walk_at "r"
        rw [l_neg]
        walk_at "r"
        rw [l_sum (hz.ok hf (by omega) (by omega)) ((hg i hi).ok hf (by omega) (by omega)).neg, ← Rat.sub_eq_add_neg]
      · rw [e2]
        exact Z.sub hz ((hg i hi).mono (Nat.le_refl _) (Nat.le_trans he (Nat.le_add_right _ _))))
  rw [rl_len] at h1
  exact ⟨y10, h1⟩
theorem ix_done0 (w : Nat) (x : Hour) : ixD (doneD w x) (.int 0) = some (.dat (qd x.b)) := rfl
theorem ix_done1 (w : Nat) (x : Hour) : ixD (doneD w x) (.int 1) = some (.dat (qd x.g)) := rfl
theorem ix_done2 (w : Nat) (x : Hour) : ixD (doneD w x) (.int 2) = some (.dat (qd x.fi)) := rfl
theorem ix_done3 (w : Nat) (x : Hour) : ixD (doneD w x) (.int 3) = some (.dat (qd x.ta)) := rfl
theorem ix_done4 (w : Nat) (x : Hour) : ixD (doneD w x) (.int 4) = some (.dat (qd x.la)) := rfl
theorem ix_done5 (w : Nat) (x : Hour) : ixD (doneD w x) (.int 5) = some (.dat (.tuple (rl w x.wk))) := rfl
theorem plan_at {w n t : Nat} {X : Nat → Hour} (h : t < n) : ixD (.tuple ((List.range n).map fun i => doneD w (X i))) (.int (t : Int)) = some (.dat (doneD w (X t))) := by
  rw [ixD_tup, atI_ok (by omega) (by rw [List.length_map, List.length_range]; omega)]
  simp
theorem costs_turn {h : House} {X : Nat → Hour} {lv : Nat → Rat} {n t : Nat} (H : HouseOk h) (P : PlanOk h X lv h.hs.length) (ht : t < h.hs.length) {p : PyData} (hp : ixD p (.int (t : Int)) = some (.dat (doneD h.ws.length (X t)))) (x6 x8 x9 x10 : Option PV)
    (z2 : Z (fh h) 28 (55 + t) (lackS X t)) (z3 : Z (fh h) 28 (60 + 2 * t) (undS h X t)) (z4 : Z (fh h) 28 (80 + 2 * t) (paidS h X t)) :
    ∃ y8 y9 y10, B_l_costs_2 [some (.dat (houseD h)), some (.dat p), some (.dat (qd (lackS X t))), some (.dat (qd (undS h X t))), some (.dat (qd (paidS h X t))), some (.dat (qd (lv t))), x6, iD (t : Int), x8, x9, x10] =
      some (.next [some (.dat (houseD h)), some (.dat p), some (.dat (qd (lackS X (t + 1)))), some (.dat (qd (undS h X (t + 1)))), some (.dat (qd (paidS h X (t + 1)))), some (.dat (qd (lv (t + 1)))), x6, iD (t : Int), y8, y9, y10]) ∧
      Z (fh h) 28 (55 + (t + 1)) (lackS X (t + 1)) ∧ Z (fh h) 28 (60 + 2 * (t + 1)) (undS h X (t + 1)) ∧ Z (fh h) 28 (80 + 2 * (t + 1)) (paidS h X (t + 1)) := by
  have hl4 := H.hl
  have wl := H.wl
  have hf := fh_ok H
  obtain ⟨hz, _⟩ := P.hz hl4 ht
  have zl := P.lvz H hl4 t (by omega)
  have hx := hr_at H ht
  obtain ⟨ln1, ln2, ln3, ln4⟩ : PrB (lnAt h t).1 ∧ InB (lnAt h t).2.1 ∧ PrB (lnAt h t).2.2.1 ∧ InB (lnAt h t).2.2.2 := lineL_ok hx
  have ehr : ixD (.tuple (h.hs.map hourD)) (.int (t : Int)) = some (.dat (hourD (h.hs.getD t hr0))) := tup_at hr0 ht
  have ell : F_l_line [hourD (h.hs.getD t hr0)] = some (.dat (quadD (lnAt h t))) := lline_eq (h.hs.getD t hr0)
  have KO := share_ok H.kept H.kp (fh_k2 h)
  have eK := fr_qd H.kept
  have elv := (P.hr t ht).lv
  have e2 : lackS X (t + 1) = lackS X t + (X t).la := rfl
  have e3 : undS h X (t + 1) = undS h X t - sumR (X t).wk h.ws.length := by
    show sumR (amt h) h.ws.length - (sumR (fun i => sumR (X i).wk h.ws.length) t + sumR (X t).wk h.ws.length) = _
    grind
  have e4 : paidS h X (t + 1) = (paidS h X t + ((lnAt h t).1 : Rat) * (X t).b) + ((0 - (lnAt h t).2.2.1 : Int) : Rat) * (X t).g := by
    have : ((0 - (lnAt h t).2.2.1 : Int) : Rat) = - ((lnAt h t).2.2.1 : Rat) := by rw [Int.zero_sub, Rat.intCast_neg]
    rw [this]
    show paidS h X t + (((lnAt h t).1 : Rat) * (X t).b - ((lnAt h t).2.2.1 : Rat) * (X t).g) = _
    grind
  have e5 : lv (t + 1) = lv t + (val h.kept * (X t).fi - (X t).ta) := by rw [elv]; grind
  have zb1 : Z (fh h) 0 20 ((lnAt h t).1 : Rat) := Z.int (by omega)
  have zg1 : Z (fh h) 0 20 ((0 - (lnAt h t).2.2.1 : Int) : Rat) := Z.int (by omega)
  have zbb : Z (fh h) 28 75 (((lnAt h t).1 : Rat) * (X t).b) := (zb1.mul hz.b).mono (by omega) (by omega)
  have zgg : Z (fh h) 28 75 (((0 - (lnAt h t).2.2.1 : Int) : Rat) * (X t).g) := (zg1.mul hz.g).mono (by omega) (by omega)
  have zp1 : Z (fh h) 28 (80 + 2 * t + 1) (paidS h X t + ((lnAt h t).1 : Rat) * (X t).b) := z4.add (zbb.mono (Nat.le_refl _) (by omega))
  have zp2 : Z (fh h) 28 (80 + 2 * t + 2) (paidS h X (t + 1)) := by
    rw [e4]
    exact zp1.add (zgg.mono (Nat.le_refl _) (by omega))
  have zkf : Z (fh h) 29 55 (val h.kept * (X t).fi) := (KO.z.mul hz.fi).mono (by omega) (by omega)
  have zkt : Z (fh h) 29 56 (val h.kept * (X t).fi - (X t).ta) := zkf.sub (hz.ta.mono (by omega) (Nat.le_refl _))
  have z2' : Z (fh h) 28 (55 + (t + 1)) (lackS X (t + 1)) := by
    rw [e2]
    exact z2.add (hz.la.mono (Nat.le_refl _) (by omega))
  have zw := sum_z h.ws.length hz.wk
  have z3' : Z (fh h) 28 (60 + 2 * (t + 1)) (undS h X (t + 1)) := by
    rw [e3]
    exact (Z.sub z3 (zw.mono (Nat.le_refl _) (by omega))).mono (Nat.le_refl _) (by omega)
  obtain ⟨y10, IL⟩ := und_loop (g := (X t).wk) (w := h.ws.length) (e := 60 + 2 * t) hf z3 (by omega) (by omega) hz.wk (some (.dat (houseD h))) (some (.dat p)) (some (.dat (qd (lackS X (t + 1))))) (some (.dat (qd (paidS h X (t + 1))))) (some (.dat (qd (lv (t + 1))))) x6 (iD (t : Int)) (some (.dat (doneD h.ws.length (X t)))) (some (.dat (quadD (lnAt h t)))) x10
  rw [← e3] at IL
  refine ⟨some (.dat (doneD h.ws.length (X t))), some (.dat (quadD (lnAt h t))), y10, ?_, z2', z3', zp2⟩
  generalize undS h X (t + 1) = U' at *
  generalize undS h X t = U at *
  generalize eP' : paidS h X (t + 1) = P' at *
  generalize paidS h X t = P0 at *
  generalize lackS X (t + 1) = K' at *
  generalize lackS X t = K0 at *
  generalize lnAt h t = ln at *
  generalize X t = x at *
  unfold B_l_costs_2
  rw [sq_next (setD_eq (pv := .dat (doneD h.ws.length x)) (by simp only [fOp, fVar, List.getElem?_cons_zero, List.getElem?_cons_succ, Option.bind_some, PV.d_dat]; exact hp))]
  simp only [List.set_cons_zero, List.set_cons_succ, PV.d_dat]
  rw [sq_next (setD_eq (pv := .dat (quadD ln)) (by
    simp only [fCall, aCons, aNil, fOp, fVar, fC, List.getElem?_cons_zero, List.getElem?_cons_succ, Option.bind_some, PV.d_dat]
    rw [ix_house0]
    simp only [Option.bind_some, PV.d_dat]
    rw [ehr]
    simp only [Option.bind_some, PV.d_dat]
    exact ell))]
  simp only [List.set_cons_zero, List.set_cons_succ, PV.d_dat]
  rw [sq_next (setD_eq (pv := .dat (qd K')) (by
    walk_at "r"
    rw [ix_done4]
    walk_at "r"
    rw [l_sum (z2.ok hf (by omega) (by omega)) (hz.la.ok hf (by omega) (by omega)), e2]))]
  simp only [List.set_cons_zero, List.set_cons_succ, PV.d_dat]
  rw [sq_next (setD_eq (pv := .dat (qd (P0 + (ln.1 : Rat) * x.b))) (by
    walk_at "r"
    rw [ix_quad0]
    walk_at "r"
    rw [ix_done0]
    walk_at "r"
    rw [qd_int, l_times (zb1.ok hf (by omega) (by omega)) (hz.b.ok hf (by omega) (by omega))]
    walk_at "r"
    exact l_sum (z4.ok hf (by omega) (by omega)) (zbb.ok hf (by omega) (by omega))))]
  simp only [List.set_cons_zero, List.set_cons_succ, PV.d_dat]
  rw [sq_next (setD_eq (pv := .dat (qd P')) (by
    walk_at "r"
    rw [ix_quad2]
    walk_at "r"
    rw [ix_done1]
    walk_at "r"
    rw [qd_int, l_times (zg1.ok hf (by omega) (by omega)) (hz.g.ok hf (by omega) (by omega))]
    walk_at "r"
    rw [l_sum (zp1.ok hf (by omega) (by omega)) (zgg.ok hf (by omega) (by omega)), e4]))]
  simp only [List.set_cons_zero, List.set_cons_succ, PV.d_dat]
  rw [sq_next (setD_eq (pv := .dat (qd (lv (t + 1)))) (by
    walk_at "r"
    rw [ix_house1]
    walk_at "r"
    rw [ix_store4]
    walk_at "r"
    rw [ix_done2, ix_done3]
    walk_at "r"
    rw [eK, l_times (KO.z.ok hf (by omega) (by omega)) (hz.fi.ok hf (by omega) (by omega)), l_neg]
    walk_at "r"
    rw [l_sum (zkf.ok hf (by omega) (by omega)) (hz.ta.ok hf (by omega) (by omega)).neg, ← Rat.sub_eq_add_neg]
    walk_at "r"
    rw [l_sum (zl.ok hf (by omega) (by omega)) (zkt.ok hf (by omega) (by omega)), e5]))]
  simp only [List.set_cons_zero, List.set_cons_succ, PV.d_dat]
  simp only [gFor, iSq, fOp, fVar, fC, List.getElem?_cons_zero, List.getElem?_cons_succ, Option.bind_some, PV.d_dat]
  rw [ix_done5]
  simp only [Option.bind_some, PV.d_dat, seqOf_tup]
  exact IL
end Law

set_option Elab.async false
set_option linter.all false
set_option maxRecDepth 100000
set_option maxHeartbeats 400000
namespace Law
open PySem L2
theorem costs_eq {h : House} {X : Nat → Hour} {lv : Nat → Rat} (H : HouseOk h) (P : PlanOk h X lv h.hs.length) :
    F_l_costs [houseD h, .tuple ((List.range h.hs.length).map fun t => doneD h.ws.length (X t))] = some (.dat (.tuple [qd (lackS X h.hs.length), qd (undS h X h.hs.length), qd (paidS h X h.hs.length - (h.rest : Rat) * lv h.hs.length)])) ∧
      Ok (lackS X h.hs.length) ∧ Ok (undS h X h.hs.length) ∧ Ok (paidS h X h.hs.length - (h.rest : Rat) * lv h.hs.length) := by
  have hl4 := H.hl
  have wl := H.wl
  have hf := fh_ok H
  have hre := H.rest
  have am : ∀ j, j < h.ws.length → Z (fh h) 28 20 (amt h j) := fun j hj => Z.int (by have := (wk_at H hj).amount; omega)
  generalize hp : PyData.tuple ((List.range h.hs.length).map fun t => doneD h.ws.length (X t)) = p
  have hpt : ∀ t, t < h.hs.length → ixD p (.int (t : Int)) = some (.dat (doneD h.ws.length (X t))) := fun t ht => by
    rw [← hp]; exact plan_at ht
  obtain ⟨ds1, h1, y6, rfl, z1⟩ := forD_all (gt := sName 6) (G := B_l_costs_0) (items := h.ws.map workD) (ds := [some (.dat (houseD h)), some (.dat p), some (.dat (qd 0)), some (.dat (qd 0)), some (.dat (qd 0)), some (.dat (qd (h.start : Rat))), none, none, none, none, none])
    (fun j ds => ∃ y6, ds = [some (.dat (houseD h)), some (.dat p), some (.dat (qd 0)), some (.dat (qd (sumR (amt h) j))), some (.dat (qd 0)), some (.dat (qd (h.start : Rat))), y6, none, none, none, none] ∧ Z (fh h) 28 (20 + j) (sumR (amt h) j)) ⟨none, rfl, Z.zero⟩ (by
      rintro j d ds hd ⟨y6, rfl, hz⟩
      have hj : j < h.ws.length := by
        have := (List.getElem?_eq_some_iff.mp hd).1
        rwa [List.length_map] at this
      have ed : d = workD (h.ws.getD j wk0) := by
        rw [List.getElem?_map, List.getElem?_eq_getElem hj] at hd
        rw [← Option.some.inj hd]
        simp [List.getD, hj]
      subst ed
      refine ⟨_, [some (.dat (houseD h)), some (.dat p), some (.dat (qd 0)), some (.dat (qd (sumR (amt h) (j + 1)))), some (.dat (qd 0)), some (.dat (qd (h.start : Rat))), some (.dat (workD (h.ws.getD j wk0))), none, none, none, none], rfl, .inl ?_, _, rfl, Z.add hz ((am j hj).mono (Nat.le_refl _) (Nat.le_add_right _ _))⟩
      unfold B_l_costs_0
      refine setD_eq (pv := .dat (qd (sumR (amt h) (j + 1)))) ?_
      walk_at "r"
      rw [ix_work1]
      walk_at "r"
      rw [qd_int]
      exact l_sum (hz.ok hf (by omega) (by omega)) ((am j hj).ok hf (by omega) (by omega)))
  rw [List.length_map] at h1 z1
  obtain ⟨ds2, h2, z6, y7, y8, y9, y10, rfl, k2, k3, k4⟩ := forD_rng (gt := sName 7) (G := B_l_costs_2) (lo := 0) (n := h.hs.length) (ds := [some (.dat (houseD h)), some (.dat p), some (.dat (qd 0)), some (.dat (qd (sumR (amt h) h.ws.length))), some (.dat (qd 0)), some (.dat (qd (h.start : Rat))), y6, none, none, none, none])
    (fun t ds => ∃ y6 y7 y8 y9 y10, ds = [some (.dat (houseD h)), some (.dat p), some (.dat (qd (lackS X t))), some (.dat (qd (undS h X t))), some (.dat (qd (paidS h X t))), some (.dat (qd (lv t))), y6, y7, y8, y9, y10] ∧ Z (fh h) 28 (55 + t) (lackS X t) ∧ Z (fh h) 28 (60 + 2 * t) (undS h X t) ∧ Z (fh h) 28 (80 + 2 * t) (paidS h X t)) ⟨y6, none, none, none, none, by
      have e3 : undS h X 0 = sumR (amt h) h.ws.length := by show sumR (amt h) h.ws.length - 0 = _; grind
      rw [e3, P.st]
      exact ⟨rfl, Z.zero, z1.mono (Nat.le_refl _) (by omega), Z.zero⟩⟩ (by
      rintro t ds ht ⟨y6, y7, y8, y9, y10, rfl, k2, k3, k4⟩
      obtain ⟨w8, w9, w10, B, j2, j3, j4⟩ := costs_turn (n := 0) H P ht (hpt t ht) y6 y8 y9 y10 k2 k3 k4
      exact ⟨_, _, rfl, .inl (by rw [Int.zero_add]; exact B), _, _, _, _, _, rfl, j2, j3, j4⟩)
  have zlv := P.lvz H hl4 h.hs.length (Nat.le_refl _)
  have zre : Z (fh h) 0 20 ((0 - h.rest : Int) : Rat) := Z.int (by omega)
  have zrl : Z (fh h) 28 75 (((0 - h.rest : Int) : Rat) * lv h.hs.length) := (zre.mul zlv).mono (by omega) (by omega)
  have er : paidS h X h.hs.length + ((0 - h.rest : Int) : Rat) * lv h.hs.length = paidS h X h.hs.length - (h.rest : Rat) * lv h.hs.length := by
    have : ((0 - h.rest : Int) : Rat) = - (h.rest : Rat) := by rw [Int.zero_sub, Rat.intCast_neg]
    rw [this]
    grind
  have zpp := k4.add (zrl.mono (Nat.le_refl _) (by omega))
  rw [er] at zpp
  refine ⟨?_, k2.ok hf (by omega) (by omega), k3.ok hf (by omega) (by omega), zpp.ok hf (by omega) (by omega)⟩
  unfold F_l_costs
  simp only [fnF, List.length_cons, List.length_nil, Nat.reduceAdd, reduceIte, dats_cons, dats_nil, Nat.reduceSub, List.replicate, List.cons_append, List.nil_append]
  rw [sq_next (setD_eq (pv := .dat (qd 0)) rfl)]
  simp only [List.set_cons_zero, List.set_cons_succ, PV.d_dat]
  rw [sq_next (setD_eq (pv := .dat (qd 0)) rfl)]
  simp only [List.set_cons_zero, List.set_cons_succ, PV.d_dat]
  rw [sq_next (setD_eq (pv := .dat (qd 0)) rfl)]
  simp only [List.set_cons_zero, List.set_cons_succ, PV.d_dat]
  rw [sq_next (setD_eq (pv := .dat (qd (h.start : Rat))) (by
    walk_at "r"
    rw [ix_house1]
    walk_at "r"
    rw [ix_store1]
    walk_at "r"
    rfl))]
  simp only [List.set_cons_zero, List.set_cons_succ, PV.d_dat]
  rw [sq_next (ds' := [some (.dat (houseD h)), some (.dat p), some (.dat (qd 0)), some (.dat (qd (sumR (amt h) h.ws.length))), some (.dat (qd 0)), some (.dat (qd (h.start : Rat))), y6, none, none, none, none]) (by
    walk_at "r"
    rw [ix_house2]
    walk_at "r"
    exact h1)]
  rw [sq_next (ds' := [some (.dat (houseD h)), some (.dat p), some (.dat (qd (lackS X h.hs.length))), some (.dat (qd (undS h X h.hs.length))), some (.dat (qd (paidS h X h.hs.length))), some (.dat (qd (lv h.hs.length))), z6, y7, y8, y9, y10]) (by
    walk_at "r"
    rw [show lenD [p] = some (.dat (.int (h.hs.length : Int))) from by rw [← hp, lenD_tup, List.length_map, List.length_range]]
    walk_at "r"
    rw [rng1_int (by omega)]
    walk_at "r"
    rw [Int.toNat_natCast]
    exact h2)]
  walk_at "r"
  rw [ix_house1]
  walk_at "r"
  rw [ix_store6]
  walk_at "r"
  rw [qd_int, l_times (zre.ok hf (by omega) (by omega)) (zlv.ok hf (by omega) (by omega))]
  walk_at "r"
  rw [l_sum (k4.ok hf (by omega) (by omega)) (zrl.ok hf (by omega) (by omega)), er]
  walk_at "r"
end Law

set_option Elab.async false
set_option linter.all false
set_option maxRecDepth 100000
set_option maxHeartbeats 400000
namespace Law
open PySem L2
theorem wS_one (π : Tr → Q2) (r : RR) : wS π [r] = if cheapF r.1 tr0 = true then val (π r.1) * (r.2 : Rat) else 0 := by
  show _ + (0 : Rat) = _
  grind
theorem wS_filt (π : Tr → Q2) (p : Nat → Bool) (f : Nat → RR) : ∀ n, wS π (((List.range n).filter p).map f) = sumR (fun t => if p t = true then wS π [f t] else 0) n
  | 0 => rfl
  | n + 1 => by
    rw [List.range_succ, List.filter_append, List.map_append, wS_app, wS_filt π p f n]
    show _ = sumR _ n + _
    congr 1
    show wS π (List.map f (List.filter p [n])) = if p n = true then wS π [f n] else 0
    by_cases c : p n = true
    · rw [if_pos c, List.filter_cons_of_pos c]
      rfl
    · rw [if_neg c, List.filter_cons_of_neg c]
      rfl
theorem wS_line (π : Tr → Q2) (p : Tr) (l : Option (Int × Int × Int × Int)) : wS π (lawLine p (lineL l)) = wS π (lineRows p l) := by
  cases l with
  | none =>
    show (if _ then _ * ((0 : Int) : Rat) else 0) + ((if _ then _ * ((0 : Int) : Rat) else 0) + 0) = (0 : Rat)
    have z : ∀ x : Rat, x * ((0 : Int) : Rat) = 0 := fun x => by
      have : ((0 : Int) : Rat) = 0 := rfl
      rw [this]; grind
    rw [z, z]
    split <;> split <;> grind
  | some l =>
    obtain ⟨a, b, c, d⟩ := l
    rfl
theorem wS_same (h : House) (P : Pr) (π : Tr → Q2) : wS π (progRows h P) = wS π (lawRows h P) := by
  unfold progRows lawRows
  rw [wS_app, wS_app, wS_cat, wS_cat, wS_cat, wS_cat]
  have e1 : sumR (fun t => wS π (lawHour h P t)) h.hs.length = sumR (fun t => wS π (hourRows h P t)) h.hs.length + sumR (fun t => sumR (fun j => if inW (h.ws.getD j wk0) t = true then wS π [wRow h P t j] else 0) h.ws.length) h.hs.length := by
    rw [← sumR_add]
    apply sumR_congr
    intro t ht
    unfold lawHour hourRows
    rw [wS_app, wS_app, wS_app, wS_line, wS_cat]
    congr 1
    apply sumR_congr
    intro j hj
    split <;> rfl
  have e2 : sumR (fun j => wS π (workRows h P j)) h.ws.length = sumR (fun j => sumR (fun t => if inW (h.ws.getD j wk0) t = true then wS π [wRow h P t j] else 0) h.hs.length) h.ws.length + sumR (fun j => wS π [uRow h P j]) h.ws.length := by
    rw [← sumR_add]
    apply sumR_congr
    intro j hj
    unfold workRows
    rw [wS_app, wS_filt]
  rw [e1, e2, sumR_comm (fun t j => if inW (h.ws.getD j wk0) t = true then wS π [wRow h P t j] else 0) h.hs.length h.ws.length]
  grind
noncomputable def ru (π : Tr → Q2) (r : RR) (x : Rat) : Rat := val (π r.1) * x - wS π [r]
theorem row_nn {k : Nat} {r : RR} {x : Rat} (hR : TrOk k r.1) (x0 : 0 ≤ x) (x1 : x ≤ (r.2 : Rat)) : NN (ru Tr.a r x) (ru Tr.b r x) (ru Tr.c r x) := by
  unfold ru
  rw [wS_one, wS_one, wS_one]
  by_cases c : cheapF r.1 tr0 = true
  · rw [if_pos c, if_pos c, if_pos c]
    have := (cheap_neg hR c).mul (show 0 ≤ (r.2 : Rat) - x by grind)
    have e : ∀ a : Rat, -a * ((r.2 : Rat) - x) = a * x - a * (r.2 : Rat) := fun a => by grind
    rw [e, e, e] at this
    exact this
  · rw [if_neg c, if_neg c, if_neg c]
    have := (cheap_nn hR (by simpa using c)).mul x0
    have e : ∀ a : Rat, a * x = a * x - 0 := fun a => by grind
    rw [e, e (val r.1.b), e (val r.1.c)] at this
    exact this
noncomputable def spl (h : House) (X : Nat → Hour) (t : Nat) : Rat := ((h.hs.getD t hr0).sun : Rat) - ((h.hs.getD t hr0).need : Rat) + (X t).b + val h.left * (X t).ta + (X t).la - sumR (X t).wk h.ws.length - (X t).fi - (X t).g
noncomputable def rB (h : House) (P : Pr) (t : Nat) : RR := (moreF (coinT (lnAt h t).1) (P.here.getD t tr0) m1, (lnAt h t).2.1)
noncomputable def rG (h : House) (P : Pr) (t : Nat) : RR := (moreF (P.here.getD t tr0) (coinT (lnAt h t).2.2.1) m1, (lnAt h t).2.2.2)
noncomputable def rF (h : House) (P : Pr) (t : Nat) : RR := (moreF (P.here.getD t tr0) (P.stored.getD t tr0) (negF h.kept), h.fill)
noncomputable def rT (h : House) (P : Pr) (t : Nat) : RR := (moreF (P.stored.getD t tr0) (P.here.getD t tr0) (negF h.left), h.take)
noncomputable def rL (h : House) (P : Pr) (t : Nat) : RR := (moreF lackT (P.here.getD t tr0) m1, (h.hs.getD t hr0).need)
noncomputable def rS (h : House) (P : Pr) (t : Nat) : RR := (moreF (P.stored.getD t tr0) (nxT h P t) m1, h.size)
noncomputable def dH (π : Tr → Q2) (h : House) (P : Pr) (X : Nat → Hour) (lv : Nat → Rat) (t : Nat) : Rat :=
  ru π (rB h P t) (X t).b + (ru π (rG h P t) (X t).g + (ru π (rF h P t) (X t).fi + (ru π (rT h P t) (X t).ta + (ru π (rL h P t) (X t).la + (ru π (rS h P t) (lv (t + 1)) + (sumR (fun j => if inW (h.ws.getD j wk0) t = true then ru π (wRow h P t j) ((X t).wk j) else 0) h.ws.length + val (π (P.here.getD t tr0)) * spl h X t))))))
noncomputable def dU (π : Tr → Q2) (h : House) (P : Pr) (X : Nat → Hour) (j : Nat) : Rat := ru π (uRow h P j) (lf h X h.hs.length j)
section
variable {h : House} {P : Pr} {X : Nat → Hour} {lv : Nat → Rat}
theorem dH_nn (H : HouseOk h) (K : PrcOk h.hs.length h.ws.length P) (O : PlanOk h X lv h.hs.length) {t : Nat} (ht : t < h.hs.length) : NN (dH Tr.a h P X lv t) (dH Tr.b h P X lv t) (dH Tr.c h P X lv t) := by
  have k := O.hr t ht
  have hx := hr_at H ht
  obtain ⟨ln1, ln2, ln3, ln4⟩ : PrB (lnAt h t).1 ∧ InB (lnAt h t).2.1 ∧ PrB (lnAt h t).2.2.1 ∧ InB (lnAt h t).2.2.2 := lineL_ok hx
  have fp := K.hf.at (i := t) (by rw [K.hl]; exact ht)
  have fq := K.sf.at (i := t) (by rw [K.sl]; exact ht)
  have fn := nx_ok H K t
  have fm := frac_m1 (k := 1) (by decide)
  have n1 := row_nn (r := rB h P t) (more_ok (coin_ok ln1) fp fm) k.b0 k.b1
  have n2 := row_nn (r := rG h P t) (more_ok fp (coin_ok ln3) fm) k.g0 k.g1
  have n3 := row_nn (r := rF h P t) (more_ok fp fq (neg_frac H.kept)) k.f0 k.f1
  have n4 := row_nn (r := rT h P t) (more_ok fq fp (neg_frac H.left)) k.t0 k.t1
  have n5 := row_nn (r := rL h P t) (more_ok lack_ok fp fm) k.l0 k.l1
  have n6 := row_nn (r := rS h P t) (more_ok fq fn fm) k.v0 k.v1
  have n8 := (cheap_nn fp (K.nn _ (by
    have hh : t < P.here.length := by rw [K.hl]; exact ht
    rw [show P.here.getD t tr0 = P.here[t] by simp [List.getD, hh]]
    exact List.getElem_mem hh))).mul k.sp
  have n7 : NN (sumR (fun j => if inW (h.ws.getD j wk0) t = true then ru Tr.a (wRow h P t j) ((X t).wk j) else 0) h.ws.length) (sumR (fun j => if inW (h.ws.getD j wk0) t = true then ru Tr.b (wRow h P t j) ((X t).wk j) else 0) h.ws.length) (sumR (fun j => if inW (h.ws.getD j wk0) t = true then ru Tr.c (wRow h P t j) ((X t).wk j) else 0) h.ws.length) := NN.sum _ fun j hj => by
    by_cases c : inW (h.ws.getD j wk0) t = true
    · rw [if_pos c, if_pos c, if_pos c]
      exact row_nn (wRow_ok H K ht hj).1 (k.w.nn j hj) (k.w.most j hj)
    · rw [if_neg c, if_neg c, if_neg c]
      exact NN.zero
  exact n1.add (n2.add (n3.add (n4.add (n5.add (n6.add (n7.add n8))))))
theorem dU_nn (H : HouseOk h) (K : PrcOk h.hs.length h.ws.length P) (O : PlanOk h X lv h.hs.length) {j : Nat} (hj : j < h.ws.length) : NN (dU Tr.a h P X j) (dU Tr.b h P X j) (dU Tr.c h P X j) := by
  have fd := K.df.at (i := j) (by rw [K.dl]; exact hj)
  have h1 := H.h1
  have wn : ∀ m, m ≤ h.hs.length → 0 ≤ sumR (fun i => (X i).wk j) m := fun m => by
    induction m with
    | zero => intro _; exact Rat.le_refl
    | succ m ih =>
      intro hm
      have := ih (by omega)
      have := (O.hr m (by omega)).w.nn j hj
      rw [sumR_succ]
      grind
  refine row_nn (r := uRow h P j) (more_ok und_ok fd (frac_m1 (k := 1) (by decide))) ?_ ?_
  · obtain ⟨m, hm⟩ : ∃ m, h.hs.length = m + 1 := ⟨h.hs.length - 1, by omega⟩
    have := (O.hr m (by omega)).w.le j hj
    rw [hm]
    show 0 ≤ amt h j - (sumR (fun i => (X i).wk j) m + (X m).wk j)
    have e : lf h X m j = amt h j - sumR (fun i => (X i).wk j) m := rfl
    grind
  · have := wn h.hs.length (Nat.le_refl _)
    show amt h j - sumR (fun i => (X i).wk j) h.hs.length ≤ amt h j
    grind
theorem wS_hour (π : Tr → Q2) (h : House) (P : Pr) (t : Nat) : wS π (lawHour h P t) = wS π [rB h P t] + (wS π [rG h P t] + (wS π [rF h P t] + (wS π [rT h P t] + (wS π [rL h P t] + (wS π [rS h P t] + sumR (fun j => if inW (h.ws.getD j wk0) t = true then wS π [wRow h P t j] else 0) h.ws.length))))) := by
  unfold lawHour
  rw [wS_app, wS_app, wS_cat]
  have e1 : wS π (lawLine (P.here.getD t tr0) (lineL (h.hs.getD t hr0).line)) = wS π [rB h P t] + wS π [rG h P t] := by
    rw [← wS_app]; rfl
  have e2 : wS π (fourRows h (h.hs.getD t hr0) (P.here.getD t tr0) (P.stored.getD t tr0) (nxT h P t)) = wS π [rF h P t] + (wS π [rT h P t] + (wS π [rL h P t] + wS π [rS h P t])) := by
    rw [← wS_app, ← wS_app, ← wS_app]; rfl
  have e3 : sumR (fun j => wS π (if inW (h.ws.getD j wk0) t = true then [wRow h P t j] else [])) h.ws.length = sumR (fun j => if inW (h.ws.getD j wk0) t = true then wS π [wRow h P t j] else 0) h.ws.length := sumR_congr _ fun j hj => by split <;> rfl
  rw [e1, e2, e3]
  grind
noncomputable def qv (π : Tr → Q2) (h : House) (P : Pr) (t : Nat) : Rat := if t < h.hs.length then val (π (P.stored.getD t tr0)) else val (π (coinT h.rest))
theorem val_m1 : val m1 = -1 := by
  have := val_one (-1)
  rw [show m1 = ((-1 : Int), (1 : Int)) from rfl, this]
  rfl
theorem dH_eq {π : Tr → Q2} (PP : Part π) (H : HouseOk h) (K : PrcOk h.hs.length h.ws.length P) (O : PlanOk h X lv h.hs.length) {t : Nat} (ht : t < h.hs.length) :
    dH π h P X lv t + wS π (lawHour h P t) = val (π (coinT (lnAt h t).1)) * (X t).b - val (π (coinT (lnAt h t).2.2.1)) * (X t).g + val (π lackT) * (X t).la + (qv π h P t * lv t - qv π h P (t + 1) * lv (t + 1)) - sumR (fun j => val (π (P.done.getD j tr0)) * (X t).wk j) h.ws.length - val (π (P.here.getD t tr0)) * (((h.hs.getD t hr0).need - (h.hs.getD t hr0).sun : Int) : Rat) := by
  have k := O.hr t ht
  have hx := hr_at H ht
  obtain ⟨ln1, ln2, ln3, ln4⟩ : PrB (lnAt h t).1 ∧ InB (lnAt h t).2.1 ∧ PrB (lnAt h t).2.2.1 ∧ InB (lnAt h t).2.2.2 := lineL_ok hx
  have fp := K.hf.at (i := t) (by rw [K.hl]; exact ht)
  have fq := K.sf.at (i := t) (by rw [K.sl]; exact ht)
  have fn := nx_ok H K t
  have fm := frac_m1 (k := 1) (by decide)
  have v1 := PP.val_more (coin_ok ln1) fp fm
  have v2 := PP.val_more fp (coin_ok ln3) fm
  have v3 := PP.val_more fp fq (neg_frac H.kept)
  have v4 := PP.val_more fq fp (neg_frac H.left)
  have v5 := PP.val_more lack_ok fp fm
  have v6 := PP.val_more fq fn fm
  rw [val_m1] at v1 v2 v5 v6
  rw [neg_val] at v3 v4
  have q1 : qv π h P t = val (π (P.stored.getD t tr0)) := if_pos ht
  have q2' : qv π h P (t + 1) = val (π (nxT h P t)) := by
    unfold qv nxT
    split <;> rfl
  have ew : sumR (fun j => if inW (h.ws.getD j wk0) t = true then ru π (wRow h P t j) ((X t).wk j) else 0) h.ws.length + sumR (fun j => if inW (h.ws.getD j wk0) t = true then wS π [wRow h P t j] else 0) h.ws.length = val (π (P.here.getD t tr0)) * sumR (X t).wk h.ws.length - sumR (fun j => val (π (P.done.getD j tr0)) * (X t).wk j) h.ws.length := by
    rw [← sumR_add, show val (π (P.here.getD t tr0)) * sumR (X t).wk h.ws.length = sumR (X t).wk h.ws.length * val (π (P.here.getD t tr0)) by grind, sumR_mul, ← sumR_sub]
    refine sumR_congr _ fun j hj => ?_
    have fd := K.df.at (i := j) (by rw [K.dl]; exact hj)
    have v7 := PP.val_more fp fd fm
    rw [val_m1] at v7
    by_cases c : inW (h.ws.getD j wk0) t = true
    · rw [if_pos c, if_pos c]
      unfold ru
      show val (π (moreF (P.here.getD t tr0) (P.done.getD j tr0) m1)) * _ - _ + _ = _
      rw [v7]
      grind
    · rw [if_neg c, if_neg c, k.w.out j hj (by simpa using c)]
      grind
  have elv := k.lv
  rw [wS_hour, q1, q2', Rat.intCast_sub]
  unfold dH ru spl
  unfold ru at ew
  have g1 : val (π (rB h P t).1) = val (π (coinT (lnAt h t).1)) + val (π (P.here.getD t tr0)) * -1 := v1
  have g2 : val (π (rG h P t).1) = val (π (P.here.getD t tr0)) + val (π (coinT (lnAt h t).2.2.1)) * -1 := v2
  have g3 : val (π (rF h P t).1) = val (π (P.here.getD t tr0)) + val (π (P.stored.getD t tr0)) * -val h.kept := v3
  have g4 : val (π (rT h P t).1) = val (π (P.stored.getD t tr0)) + val (π (P.here.getD t tr0)) * -val h.left := v4
  have g5 : val (π (rL h P t).1) = val (π lackT) + val (π (P.here.getD t tr0)) * -1 := v5
  have g6 : val (π (rS h P t).1) = val (π (P.stored.getD t tr0)) + val (π (nxT h P t)) * -1 := v6
  rw [g1, g2, g3, g4, g5, g6]
  clear v1 v2 v3 v4 v5 v6 g1 g2 g3 g4 g5 g6 q1 q2' fm fn fq fp k hx
  generalize sumR (fun j => if inW (h.ws.getD j wk0) t = true then val (π (wRow h P t j).1) * (X t).wk j - wS π [wRow h P t j] else 0) h.ws.length = S1 at *
  generalize sumR (fun j => if inW (h.ws.getD j wk0) t = true then wS π [wRow h P t j] else 0) h.ws.length = S2 at *
  generalize sumR (fun j => val (π (P.done.getD j tr0)) * (X t).wk j) h.ws.length = S3 at *
  generalize sumR (X t).wk h.ws.length = S4 at *
  generalize wS π [rB h P t] = a1
  generalize wS π [rG h P t] = a2
  generalize wS π [rF h P t] = a3
  generalize wS π [rT h P t] = a4
  generalize wS π [rL h P t] = a5
  generalize wS π [rS h P t] = a6
  generalize val (π (coinT (lnAt h t).1)) = cb
  generalize val (π (coinT (lnAt h t).2.2.1)) = cg
  generalize val (π lackT) = ck
  generalize val (π (P.here.getD t tr0)) = p at *
  generalize val (π (P.stored.getD t tr0)) = q at *
  generalize val (π (nxT h P t)) = nx at *
  generalize val h.kept = kp at *
  generalize val h.left = lfx at *
  generalize ((h.hs.getD t hr0).need : Rat) = nd
  generalize ((h.hs.getD t hr0).sun : Rat) = sn
  generalize (X t).b = xb
  generalize (X t).g = xg
  generalize (X t).fi = xf at *
  generalize (X t).ta = xt at *
  generalize (X t).la = xl
  generalize lv (t + 1) = l1 at *
  generalize lv t = l0 at *
  subst elv
  have e1 : S1 = p * S4 - S3 - S2 := by grind
  subst e1
  grind
end
end Law

set_option Elab.async false
set_option linter.all false
set_option maxRecDepth 100000
set_option maxHeartbeats 400000
namespace Law
open PySem L2
section
variable {h : House} {P : Pr} {X : Nat → Hour} {lv : Nat → Rat}
theorem val_wt1 {π : Tr → Q2} (PP : Part π) (H : HouseOk h) (K : PrcOk h.hs.length h.ws.length P) {t : Nat} (ht : t < h.hs.length) : val (π (wt1 h P (t + 1))) = val (π (wt1 h P t)) + val (π (P.here.getD t tr0)) * (((h.hs.getD t hr0).need - (h.hs.getD t hr0).sun : Int) : Rat) := by
  have := PP.val_more (wt1_ok H K t (by omega)) (K.hf.at (i := t) (by rw [K.hl]; omega)) (need_ok H ht)
  rw [val_one] at this
  exact this
theorem hours_sum {π : Tr → Q2} (PP : Part π) (H : HouseOk h) (K : PrcOk h.hs.length h.ws.length P) (O : PlanOk h X lv h.hs.length) : ∀ t, t ≤ h.hs.length →
    sumR (dH π h P X lv) t + sumR (fun i => wS π (lawHour h P i)) t = sumR (fun i => val (π (coinT (lnAt h i).1)) * (X i).b - val (π (coinT (lnAt h i).2.2.1)) * (X i).g) t + val (π lackT) * lackS X t + (qv π h P 0 * lv 0 - qv π h P t * lv t) - sumR (fun i => sumR (fun j => val (π (P.done.getD j tr0)) * (X i).wk j) h.ws.length) t - (val (π (wt1 h P t)) - val (π (wt1 h P 0)))
  | 0, _ => by
    show (0 : Rat) + 0 = 0 + val (π lackT) * 0 + (qv π h P 0 * lv 0 - qv π h P 0 * lv 0) - 0 - (val (π (wt1 h P 0)) - val (π (wt1 h P 0)))
    grind
  | t + 1, ht => by
    have ih := hours_sum PP H K O t (by omega)
    have e1 := dH_eq PP H K O (t := t) (by omega)
    have e2 := val_wt1 PP H K (t := t) (by omega)
    have e3 : lackS X (t + 1) = lackS X t + (X t).la := rfl
    rw [sumR_succ, sumR_succ, sumR_succ, sumR_succ, e2, e3]
    grind
theorem val_wt2 {π : Tr → Q2} (PP : Part π) (H : HouseOk h) (K : PrcOk h.hs.length h.ws.length P) : ∀ j, j ≤ h.ws.length → val (π (wt2 h P j)) = val (π (wt1 h P h.hs.length)) + sumR (fun i => val (π (P.done.getD i tr0)) * amt h i) j
  | 0, _ => by
    show val (π (wt1 h P h.hs.length)) = _ + 0
    grind
  | j + 1, hj => by
    have := PP.val_more (wt2_ok H K j (by omega)) (K.df.at (i := j) (by rw [K.dl]; omega)) (num_ok (wk_at H (j := j) (by omega)).amount)
    rw [val_one] at this
    have ih := val_wt2 PP H K j (by omega)
    rw [sumR_succ]
    show val (π (moreF (wt2 h P j) (P.done.getD j tr0) ((h.ws.getD j wk0).amount, 1))) = _
    rw [this, ih]
    grind
theorem works_sum {π : Tr → Q2} (PP : Part π) (K : PrcOk h.hs.length h.ws.length P) : ∀ m, m ≤ h.ws.length →
    sumR (dU π h P X) m + sumR (fun j => wS π [uRow h P j]) m = val (π undT) * sumR (lf h X h.hs.length) m - sumR (fun j => val (π (P.done.getD j tr0)) * amt h j) m + sumR (fun j => sumR (fun i => val (π (P.done.getD j tr0)) * (X i).wk j) h.hs.length) m
  | 0, _ => by
    show (0 : Rat) + 0 = val (π undT) * 0 - 0 + 0
    grind
  | m + 1, hm => by
    have ih := works_sum PP K m (by omega)
    have fd := K.df.at (i := m) (by rw [K.dl]; omega)
    have v := PP.val_more und_ok fd (frac_m1 (k := 1) (by decide))
    rw [val_m1] at v
    have e1 : dU π h P X m + wS π [uRow h P m] = val (π (moreF undT (P.done.getD m tr0) m1)) * lf h X h.hs.length m := by
      unfold dU ru
      show val (π (moreF undT (P.done.getD m tr0) m1)) * _ - _ + _ = _
      grind
    have e2 : sumR (fun i => val (π (P.done.getD m tr0)) * (X i).wk m) h.hs.length = val (π (P.done.getD m tr0)) * sumR (fun i => (X i).wk m) h.hs.length := by
      rw [show val (π (P.done.getD m tr0)) * sumR (fun i => (X i).wk m) h.hs.length = sumR (fun i => (X i).wk m) h.hs.length * val (π (P.done.getD m tr0)) by grind, sumR_mul]
      exact sumR_congr _ fun i _ => by grind
    have e3 : lf h X h.hs.length m = amt h m - sumR (fun i => (X i).wk m) h.hs.length := rfl
    rw [v] at e1
    rw [sumR_succ, sumR_succ, sumR_succ, sumR_succ, sumR_succ, e2]
    grind
noncomputable def cst (π : Tr → Q2) (h : House) (X : Nat → Hour) (lv : Nat → Rat) : Rat := val (π lackT) * lackS X h.hs.length + val (π undT) * undS h X h.hs.length + sumR (fun i => val (π (coinT (lnAt h i).1)) * (X i).b - val (π (coinT (lnAt h i).2.2.1)) * (X i).g) h.hs.length - val (π (coinT h.rest)) * lv h.hs.length
noncomputable abbrev flo (h : House) (P : Pr) : Tr := accR (wt2 h P h.ws.length) (progRows h P)
theorem total {π : Tr → Q2} (PP : Part π) (hm : ∀ x q, π (mulT x q) = timesF (π x) q) (H : HouseOk h) (K : PrcOk h.hs.length h.ws.length P) (O : PlanOk h X lv h.hs.length) : sumR (dH π h P X lv) h.hs.length + sumR (dU π h P X) h.ws.length = cst π h X lv - val (π (flo h P)) := by
  have h1 := H.h1
  have a1 := hours_sum PP H K O h.hs.length (Nat.le_refl _)
  have a2 := works_sum (X := X) PP K h.ws.length (Nat.le_refl _)
  have a3 := val_wt2 PP H K h.ws.length (Nat.le_refl _)
  have a4 := (acc_ok (progRows h P) (wt2_ok H K _ (Nat.le_refl _)) (prog_rows_ok H K)).2 π PP
  have a5 := wS_same h P π
  unfold lawRows at a5
  rw [wS_app, wS_cat, wS_cat] at a5
  have f0 := K.sf.at (i := 0) (by rw [K.sl]; omega)
  have a6 : val (π (wt1 h P 0)) = qv π h P 0 * -lv 0 := by
    show val (π (mulT (P.stored.getD 0 tr0) (-h.start, 1))) = _
    rw [hm, val_times (PP.ok _ _ f0).pos (show (0 : Int) < 1 by decide), val_one, O.st, Rat.intCast_neg]
    unfold qv
    rw [if_pos (by omega)]
  have a7 : qv π h P h.hs.length = val (π (coinT h.rest)) := by
    unfold qv
    rw [if_neg (by omega)]
  have a8 : sumR (lf h X h.hs.length) h.ws.length = undS h X h.hs.length := by
    show sumR (fun j => amt h j - sumR (fun i => (X i).wk j) h.hs.length) h.ws.length = _
    rw [sumR_sub, sumR_comm (fun i j => (X i).wk j) h.hs.length h.ws.length]
  have a9 : sumR (fun j => sumR (fun i => val (π (P.done.getD j tr0)) * (X i).wk j) h.hs.length) h.ws.length = sumR (fun i => sumR (fun j => val (π (P.done.getD j tr0)) * (X i).wk j) h.ws.length) h.hs.length := sumR_comm (fun i j => val (π (P.done.getD j tr0)) * (X i).wk j) h.hs.length h.ws.length
  unfold cst
  rw [a4, a3, a5]
  rw [a6, a7] at a1
  rw [a8, a9] at a2
  generalize sumR (fun i => sumR (fun j => val (π (P.done.getD j tr0)) * (X i).wk j) h.ws.length) h.hs.length = S1 at *
  generalize sumR (fun j => val (π (P.done.getD j tr0)) * amt h j) h.ws.length = S2 at *
  generalize sumR (fun i => val (π (coinT (lnAt h i).1)) * (X i).b - val (π (coinT (lnAt h i).2.2.1)) * (X i).g) h.hs.length = S3 at *
  generalize sumR (dH π h P X lv) h.hs.length = S4 at *
  generalize sumR (dU π h P X) h.ws.length = S5 at *
  generalize sumR (fun i => wS π (lawHour h P i)) h.hs.length = S6 at *
  generalize sumR (fun i => wS π [uRow h P i]) h.ws.length = S7 at *
  clear a3 a4 a5 a6 a7 a8 a9
  grind
theorem no_less (H : HouseOk h) (K : PrcOk h.hs.length h.ws.length P) (O : PlanOk h X lv h.hs.length) : NN (lackS X h.hs.length - val (flo h P).a) (undS h X h.hs.length - val (flo h P).b) (paidS h X h.hs.length - (h.rest : Rat) * lv h.hs.length - val (flo h P).c) := by
  have s1 := NN.sum (fa := dH Tr.a h P X lv) (fb := dH Tr.b h P X lv) (fc := dH Tr.c h P X lv) h.hs.length fun t ht => dH_nn H K O ht
  have s2 := NN.sum (fa := dU Tr.a h P X) (fb := dU Tr.b h P X) (fc := dU Tr.c h P X) h.ws.length fun j hj => dU_nn H K O hj
  have s := s1.add s2
  rw [total part_a (fun _ _ => rfl) H K O, total part_b (fun _ _ => rfl) H K O, total part_c (fun _ _ => rfl) H K O] at s
  have v0 : val q0 = 0 := val_q0
  have v1 : val (1, 1) = 1 := val_one 1
  have z : sumR (fun i => (0 : Rat) * (X i).b - 0 * (X i).g) h.hs.length = 0 := by
    rw [sumR_congr (g := fun _ => 0) _ (fun i _ => by grind)]
    exact sumR_zero _
  have ea : cst Tr.a h X lv = lackS X h.hs.length := by
    show val (1, 1) * _ + val q0 * _ + sumR (fun i => val q0 * (X i).b - val q0 * (X i).g) h.hs.length - val q0 * _ = _
    rw [v0, v1, z]
    grind
  have eb : cst Tr.b h X lv = undS h X h.hs.length := by
    show val q0 * _ + val (1, 1) * _ + sumR (fun i => val q0 * (X i).b - val q0 * (X i).g) h.hs.length - val q0 * _ = _
    rw [v0, v1, z]
    grind
  have ec : cst Tr.c h X lv = paidS h X h.hs.length - (h.rest : Rat) * lv h.hs.length := by
    show val q0 * _ + val q0 * _ + sumR (fun i => val ((lnAt h i).1, 1) * (X i).b - val ((lnAt h i).2.2.1, 1) * (X i).g) h.hs.length - val (h.rest, 1) * _ = _
    rw [v0, val_one, sumR_congr (g := fun i => ((lnAt h i).1 : Rat) * (X i).b - ((lnAt h i).2.2.1 : Rat) * (X i).g) _ (fun i _ => by rw [val_one, val_one])]
    show 0 * _ + 0 * _ + paidS h X h.hs.length - _ = _
    grind
  rw [ea, eb, ec] at s
  exact s
end
end Law

set_option Elab.async false
set_option linter.all false
set_option maxRecDepth 100000
set_option maxHeartbeats 400000
namespace Law
open PySem L2
theorem inner_turn {h : House} {P : Pr} {X : Nat → Hour} {lv : Nat → Rat} (H : HouseOk h) (K : PrcOk h.hs.length h.ws.length P) (O : PlanOk h X lv h.hs.length) (x0 x1 x2 x3 x5 : Option PV) :
    B_law_0 [x0, x1, x2, x3, some (.dat (.tuple [qd (lackS X h.hs.length), qd (undS h X h.hs.length), qd (paidS h X h.hs.length - (h.rest : Rat) * lv h.hs.length)])), some (.dat (trD (flo h P)))] = some (.next [x0, x1, x2, x3, some (.dat (.tuple [qd (lackS X h.hs.length), qd (undS h X h.hs.length), qd (paidS h X h.hs.length - (h.rest : Rat) * lv h.hs.length)])), some (.dat (trD (flo h P)))]) := by
  obtain ⟨_, o1, o2, o3⟩ := costs_eq H O
  have N := no_less H K O
  have wl2 := H.wl
  have len := prog_rows_len P H
  have ok := (acc_ok (progRows h P) (wt2_ok H K _ (Nat.le_refl _)) (prog_rows_ok H K)).1
  generalize lackS X h.hs.length = A at *
  generalize undS h X h.hs.length = B at *
  generalize paidS h X h.hs.length - (h.rest : Rat) * lv h.hs.length = C at *
  have T : TrOk 3000 ⟨q2 A, q2 B, q2 C⟩ := ⟨o1.f, o2.f, o3.f⟩
  have e : PyData.tuple [qd A, qd B, qd C] = trD ⟨q2 A, q2 B, q2 C⟩ := rfl
  have c : cheapF ⟨q2 A, q2 B, q2 C⟩ (flo h P) = false := (cheap_iff T ok).mpr (by
    show NN (val (q2 A) - _) (val (q2 B) - _) (val (q2 C) - _)
    rw [val_q2, val_q2, val_q2]
    exact N)
  rw [e]
  have F := cheaperG T ok (by omega)
  rw [c] at F
  generalize trD ⟨q2 A, q2 B, q2 C⟩ = sp at *
  generalize trD (flo h P) = fl at *
  unfold B_law_0
  walk_at "r"
  rw [F]
  walk_at "r"
theorem rng4 : rngI 0 4 = [.int 0, .int 1, .int 2, .int 3] := rfl
theorem law_true : ∀ ns : List Int, ns.length ≤ 63 → F_law [.list (ns.map .int)] = some (.dat (.bool true)) := by
  intro ns hl
  obtain ⟨h, eh, H⟩ := house_eq (ns := ns) hl
  have hl4 := H.hl
  have wl2 := H.wl
  obtain ⟨P0, e0, K0⟩ := prices_eq (ns := ns) (h := h) (k := 300) hl (by omega) (by omega) (by decide) (by decide)
  obtain ⟨P1, e1, K1⟩ := prices_eq (ns := ns) (h := h) (k := 450) hl (by omega) (by omega) (by decide) (by decide)
  obtain ⟨P2, e2, K2⟩ := prices_eq (ns := ns) (h := h) (k := 600) hl (by omega) (by omega) (by decide) (by decide)
  obtain ⟨P3, e3, K3⟩ := prices_eq (ns := ns) (h := h) (k := 750) hl (by omega) (by omega) (by decide) (by decide)
  have g0 : F_floor_of [houseD h, pricesD P0] = some (.dat (trD (flo h P0))) := floor_of_eq H K0
  have g1 : F_floor_of [houseD h, pricesD P1] = some (.dat (trD (flo h P1))) := floor_of_eq H K1
  have g2 : F_floor_of [houseD h, pricesD P2] = some (.dat (trD (flo h P2))) := floor_of_eq H K2
  have g3 : F_floor_of [houseD h, pricesD P3] = some (.dat (trD (flo h P3))) := floor_of_eq H K3
  unfold F_law
  walk_at "r"
  rw [eh]
  walk_at "r"
  rw [rng1_int (by decide)]
  walk_at "r"
  rw [rng4]
  simp only [compD, E_law_0]
  walk_at "r"
  rw [mulD_int Bt.lit Bt.lit, mulD_int Bt.lit Bt.lit, mulD_int Bt.lit Bt.lit, mulD_int Bt.lit Bt.lit]
  walk_at "r"
  simp only [Int.reduceMul, Int.reduceAdd]
  rw [e0, e1, e2, e3]
  walk_at "r"
  rw [g0, g1, g2, g3]
  walk_at "r"
  rw [rng1_int (by decide)]
  walk_at "r"
  obtain ⟨ds', h1, y3, y4, y5, rfl⟩ := forD_rng (gt := sName 3) (G := B_law_1) (lo := 0) (n := 3) (ds := [some (.dat (scr ns)), some (.dat (houseD h)), some (.dat (.list [trD (flo h P0), trD (flo h P1), trD (flo h P2), trD (flo h P3)])), none, none, none])
    (fun k ds => ∃ y3 y4 y5, ds = [some (.dat (scr ns)), some (.dat (houseD h)), some (.dat (.list [trD (flo h P0), trD (flo h P1), trD (flo h P2), trD (flo h P3)])), y3, y4, y5]) ⟨none, none, none, rfl⟩ (by
      rintro k ds hk ⟨y3, y4, y5, rfl⟩
      obtain ⟨X, lv, ep, O⟩ := plan_eq (ns := ns) (h := h) (k := 1000 + 150 * (k : Int)) hl H (by omega) (by omega)
      obtain ⟨ec, _, _, _⟩ := costs_eq H O
      have t0 := fun x5 => inner_turn H K0 O (some (.dat (scr ns))) (some (.dat (houseD h))) (some (.dat (.list [trD (flo h P0), trD (flo h P1), trD (flo h P2), trD (flo h P3)]))) (iD (k : Int)) x5
      have t1 := fun x5 => inner_turn H K1 O (some (.dat (scr ns))) (some (.dat (houseD h))) (some (.dat (.list [trD (flo h P0), trD (flo h P1), trD (flo h P2), trD (flo h P3)]))) (iD (k : Int)) x5
      have t2 := fun x5 => inner_turn H K2 O (some (.dat (scr ns))) (some (.dat (houseD h))) (some (.dat (.list [trD (flo h P0), trD (flo h P1), trD (flo h P2), trD (flo h P3)]))) (iD (k : Int)) x5
      have t3 := fun x5 => inner_turn H K3 O (some (.dat (scr ns))) (some (.dat (houseD h))) (some (.dat (.list [trD (flo h P0), trD (flo h P1), trD (flo h P2), trD (flo h P3)]))) (iD (k : Int)) x5
      generalize PyData.tuple ((List.range h.hs.length).map fun t => doneD h.ws.length (X t)) = pl at *
      generalize PyData.tuple [qd (lackS X h.hs.length), qd (undS h X h.hs.length), qd (paidS h X h.hs.length - (h.rest : Rat) * lv h.hs.length)] = sp at *
      generalize trD (flo h P0) = f0 at *
      generalize trD (flo h P1) = f1 at *
      generalize trD (flo h P2) = f2 at *
      generalize trD (flo h P3) = f3 at *
      refine ⟨_, [some (.dat (scr ns)), some (.dat (houseD h)), some (.dat (.list [f0, f1, f2, f3])), iD (k : Int), some (.dat sp), some (.dat f3)], rfl, .inl ?_, _, _, _, rfl⟩
      unfold B_law_1
      rw [Int.zero_add]
      simp only [List.set_cons_zero, List.set_cons_succ]
      rw [sq_next (setD_eq (pv := .dat sp) (by
        walk_at "r"
        rw [mulD_int Bt.lit (Bt.s62 (by omega) (by omega))]
        walk_at "r"
        rw [ep]
        walk_at "r"
        exact ec))]
      simp only [List.set_cons_zero, List.set_cons_succ, PV.d_dat]
      walk_at "r"
      rw [forD_next rfl (t0 none), forD_next rfl (t1 none), forD_next rfl (t2 none), forD_next rfl (t3 none), forD_nil])
  rw [h1]
  walk_at "r"
end Law

set_option Elab.async false
set_option linter.all false
set_option maxRecDepth 100000
set_option maxHeartbeats 4000000
local macro_rules | `(tactic| walk_at "s") => `(tactic| simp only [L2.tSeq, L2.tAsg, L2.tIfS, L2.tRet, L2.tNext, L2.tOp, L2.tTest, L2.tB, L2.tNot, L2.tAnd, L2.tOr, L2.tAndV, L2.tOrV, L2.tNotV, L2.tUn, L2.tCB, L2.tCons, L2.tNil, L2.tVar, L2.tC, L2.tIf, L2.tCall, L2.tTup, L2.tLst, L2.tPar, L2.tSl, L2.tNoPart, L2.tPart, L2.tIfs0, L2.gName, L2.gTup, L2.gCons, L2.gNil, L2.rI, L2.rI0, L2.rU, L2.rEq, L2.rNe, L2.rIxL, L2.rIxT, L2.scal_int, L2.scal_str, L2.scal_bl, L2.start, L2.blkSt, L2.CDiv, L2.CMul, L2.CPow,
  L2.V.int.injEq, L2.V.ref.injEq, L2.V.bl.injEq, L2.V.str.injEq, L2.V.ty.injEq, List.cons.injEq, Option.some.injEq, reduceCtorEq, and_true, true_and, and_false, false_and, exists_eq_left, exists_eq_left', exists_and_left, L2.ex2, exists_false, exists_const, exists_eq', exists_eq, or_false, false_or,
  List.map_cons, List.map_nil, List.length_cons, List.length_nil, List.length_map, List.replicate, List.cons_append, List.nil_append, List.append_nil, List.set_cons_zero, List.set_cons_succ, List.getElem?_cons_zero, List.getElem?_cons_succ, List.length_append, List.length_singleton,
  decide_eq_true_eq, decide_eq_false_iff_not, Bool.not_eq_true', Bool.false_eq_true, if_true, if_false, ne_eq, not_true_eq_false, not_false_eq_true, Bool.not_true, Bool.not_false, decide_true, decide_false, Nat.reduceAdd, Nat.reduceSub, L2.isI, L2.tyOf, String.reduceBEq, Bool.true_or, Bool.false_or, Bool.or_true, Bool.or_false, Bool.and_true, Bool.true_and, Bool.and_false, Bool.false_and])
local macro_rules | `(tactic| walk_at "g") => `(tactic| repeat ((first | refine ⟨_, (by assumption), _, rfl, ?_⟩ | refine ⟨⟨(by assumption), (by assumption)⟩, ?_⟩); (try walk_at "s")))
local macro_rules | `(tactic| walk_at "i") => `(tactic| repeat ((refine ⟨_, (by assumption), (by assumption), ?_⟩); (try walk_at "s")))
namespace Law
open PySem L2
noncomputable def top (i : Nat) : Stmt := PySem.Challenge.pw_sunstore_k42_whole_no_plan_under_a_floor.main.body.getD i (.Pass ⟨0, 0, 0, 0⟩)
noncomputable abbrev s_common_divisor : Stmt := top 4
theorem sc_common_divisor : FnScope ["one", "other", "rest"] ["one", "other"] (defScope s_common_divisor) := ⟨rfl, rfl, rfl, by decide +kernel, rfl, by decide +kernel, by decide +kernel⟩
noncomputable abbrev s_plus : Stmt := top 5
theorem sc_plus : FnScope ["one", "other", "shared", "top", "divisor"] ["one", "other"] (defScope s_plus) := ⟨rfl, rfl, rfl, by decide +kernel, rfl, by decide +kernel, by decide +kernel⟩
noncomputable abbrev s_times : Stmt := top 6
theorem sc_times : FnScope ["one", "other", "divisor", "other_divisor", "top"] ["one", "other"] (defScope s_times) := ⟨rfl, rfl, rfl, by decide +kernel, rfl, by decide +kernel, by decide +kernel⟩
noncomputable abbrev s_under : Stmt := top 7
theorem sc_under : FnScope ["one", "other"] ["one", "other"] (defScope s_under) := ⟨rfl, rfl, rfl, by decide +kernel, rfl, by decide +kernel, by decide +kernel⟩
noncomputable abbrev s_added : Stmt := top 9
theorem sc_added : FnScope ["one", "other"] ["one", "other"] (defScope s_added) := ⟨rfl, rfl, rfl, by decide +kernel, rfl, by decide +kernel, by decide +kernel⟩
noncomputable abbrev s_multiplied : Stmt := top 10
theorem sc_multiplied : FnScope ["one", "by"] ["one", "by"] (defScope s_multiplied) := ⟨rfl, rfl, rfl, by decide +kernel, rfl, by decide +kernel, by decide +kernel⟩
noncomputable abbrev s_ahead : Stmt := top 11
theorem sc_ahead : FnScope ["one", "other", "part", "other_part"] ["one", "other"] (defScope s_ahead) := ⟨rfl, rfl, rfl, by decide +kernel, rfl, by decide +kernel, by decide +kernel⟩
noncomputable abbrev s_coins : Stmt := top 16
theorem sc_coins : FnScope ["price"] ["price"] (defScope s_coins) := ⟨rfl, rfl, rfl, by decide +kernel, rfl, by decide +kernel, by decide +kernel⟩
noncomputable abbrev s_less : Stmt := top 17
theorem sc_less : FnScope ["one", "other"] ["one", "other"] (defScope s_less) := ⟨rfl, rfl, rfl, by decide +kernel, rfl, by decide +kernel, by decide +kernel⟩
noncomputable abbrev s_line_rests : Stmt := top 18
theorem sc_line_rests : FnScope ["line", "here"] ["line", "here"] (defScope s_line_rests) := ⟨rfl, rfl, rfl, by decide +kernel, rfl, by decide +kernel, by decide +kernel⟩
noncomputable abbrev s_hour_rests : Stmt := top 19
theorem sc_hour_rests : FnScope ["hour", "store", "here", "behind", "later"] ["hour", "store", "here", "behind", "later"] (defScope s_hour_rests) := ⟨rfl, rfl, rfl, by decide +kernel, rfl, by decide +kernel, by decide +kernel⟩
noncomputable abbrev s_work_rests : Stmt := top 20
theorem sc_work_rests : FnScope ["work", "here", "done", "worked"] ["work", "here", "done"] (defScope s_work_rests) := ⟨rfl, rfl, rfl, by decide +kernel, rfl, by decide +kernel, by decide +kernel⟩
noncomputable abbrev s_stored_of : Stmt := top 21
theorem sc_stored_of : FnScope ["house", "prices"] ["house", "prices"] (defScope s_stored_of) := ⟨rfl, rfl, rfl, by decide +kernel, rfl, by decide +kernel, by decide +kernel⟩
noncomputable abbrev s_rests_of : Stmt := top 22
theorem sc_rests_of : FnScope ["house", "prices", "stored", "found", "number", "hour", "work", "done"] ["house", "prices"] (defScope s_rests_of) := ⟨rfl, rfl, rfl, by decide +kernel, rfl, by decide +kernel, by decide +kernel⟩
noncomputable abbrev s_worth_of : Stmt := top 23
theorem sc_worth_of : FnScope ["house", "prices", "told", "hour", "here", "work", "done"] ["house", "prices"] (defScope s_worth_of) := ⟨rfl, rfl, rfl, by decide +kernel, rfl, by decide +kernel, by decide +kernel⟩
noncomputable abbrev s_floor_of : Stmt := top 24
theorem sc_floor_of : FnScope ["house", "prices", "number", "here", "told", "rest", "most"] ["house", "prices"] (defScope s_floor_of) := ⟨rfl, rfl, rfl, by decide +kernel, rfl, by decide +kernel, by decide +kernel⟩
noncomputable abbrev s_l_draw : Stmt := top 26
theorem sc_l_draw : FnScope ["_law_script", "_law_k", "_law_many", "_law_cell", "_law_mixed"] ["_law_script", "_law_k", "_law_many"] (defScope s_l_draw) := ⟨rfl, rfl, rfl, by decide +kernel, rfl, by decide +kernel, by decide +kernel⟩
noncomputable abbrev s_l_norm : Stmt := top 27
theorem sc_l_norm : FnScope ["_law_top", "_law_bottom", "_law_one", "_law_other", "_law_rest"] ["_law_top", "_law_bottom"] (defScope s_l_norm) := ⟨rfl, rfl, rfl, by decide +kernel, rfl, by decide +kernel, by decide +kernel⟩
noncomputable abbrev s_l_sum : Stmt := top 28
theorem sc_l_sum : FnScope ["_law_one", "_law_other"] ["_law_one", "_law_other"] (defScope s_l_sum) := ⟨rfl, rfl, rfl, by decide +kernel, rfl, by decide +kernel, by decide +kernel⟩
noncomputable abbrev s_l_times : Stmt := top 29
theorem sc_l_times : FnScope ["_law_one", "_law_other"] ["_law_one", "_law_other"] (defScope s_l_times) := ⟨rfl, rfl, rfl, by decide +kernel, rfl, by decide +kernel, by decide +kernel⟩
noncomputable abbrev s_l_more : Stmt := top 30
theorem sc_l_more : FnScope ["_law_one", "_law_other", "_law_by"] ["_law_one", "_law_other", "_law_by"] (defScope s_l_more) := ⟨rfl, rfl, rfl, by decide +kernel, rfl, by decide +kernel, by decide +kernel⟩
noncomputable abbrev s_l_below : Stmt := top 31
theorem sc_l_below : FnScope ["_law_one", "_law_other"] ["_law_one", "_law_other"] (defScope s_l_below) := ⟨rfl, rfl, rfl, by decide +kernel, rfl, by decide +kernel, by decide +kernel⟩
noncomputable abbrev s_l_cheaper : Stmt := top 32
theorem sc_l_cheaper : FnScope ["_law_one", "_law_other", "_law_k"] ["_law_one", "_law_other"] (defScope s_l_cheaper) := ⟨rfl, rfl, rfl, by decide +kernel, rfl, by decide +kernel, by decide +kernel⟩
noncomputable abbrev s_l_negative : Stmt := top 33
theorem sc_l_negative : FnScope ["_law_one"] ["_law_one"] (defScope s_l_negative) := ⟨rfl, rfl, rfl, by decide +kernel, rfl, by decide +kernel, by decide +kernel⟩
noncomputable abbrev s_l_number : Stmt := top 34
theorem sc_l_number : FnScope ["_law_script", "_law_k", "_law_most", "_law_far"] ["_law_script", "_law_k", "_law_most"] (defScope s_l_number) := ⟨rfl, rfl, rfl, by decide +kernel, rfl, by decide +kernel, by decide +kernel⟩
noncomputable abbrev s_l_share : Stmt := top 35
theorem sc_l_share : FnScope ["_law_script", "_law_k", "_law_some", "_law_bottom"] ["_law_script", "_law_k"] (defScope s_l_share) := ⟨rfl, rfl, rfl, by decide +kernel, rfl, by decide +kernel, by decide +kernel⟩
noncomputable abbrev s_l_house : Stmt := top 36
theorem sc_l_house : FnScope ["_law_script", "_law_many", "_law_hours", "_law_t", "_law_k", "_law_line_here", "_law_buy", "_law_give", "_law_size", "_law_store", "_law_works", "_law_j", "_law_first", "_law_last"] ["_law_script"] (defScope s_l_house) := ⟨rfl, rfl, rfl, by decide +kernel, rfl, by decide +kernel, by decide +kernel⟩
noncomputable abbrev s_l_line : Stmt := top 37
theorem sc_l_line : FnScope ["_law_hour"] ["_law_hour"] (defScope s_l_line) := ⟨rfl, rfl, rfl, by decide +kernel, rfl, by decide +kernel, by decide +kernel⟩
noncomputable abbrev s_l_part : Stmt := top 38
theorem sc_l_part : FnScope ["_law_script", "_law_k"] ["_law_script", "_law_k"] (defScope s_l_part) := ⟨rfl, rfl, rfl, by decide +kernel, rfl, by decide +kernel, by decide +kernel⟩
noncomputable abbrev s_l_least : Stmt := top 39
theorem sc_l_least : FnScope ["_law_some", "_law_found", "_law_one"] ["_law_some"] (defScope s_l_least) := ⟨rfl, rfl, rfl, by decide +kernel, rfl, by decide +kernel, by decide +kernel⟩
noncomputable abbrev s_l_worked : Stmt := top 40
theorem sc_l_worked : FnScope ["_law_script", "_law_house_here", "_law_left", "_law_rest", "_law_t", "_law_k", "_law_worked_here", "_law_j", "_law_work", "_law_one"] ["_law_script", "_law_house_here", "_law_left", "_law_rest", "_law_t", "_law_k"] (defScope s_l_worked) := ⟨rfl, rfl, rfl, by decide +kernel, rfl, by decide +kernel, by decide +kernel⟩
noncomputable abbrev s_l_hour_done : Stmt := top 41
theorem sc_l_hour_done : FnScope ["_law_script", "_law_house_here", "_law_t", "_law_level", "_law_left", "_law_k", "_law_hour", "_law_store", "_law_line_here", "_law_bought", "_law_taken", "_law_rest", "_law_lacked", "_law_more_here", "_law_told", "_law_room", "_law_filled", "_law_given_out"] ["_law_script", "_law_house_here", "_law_t", "_law_level", "_law_left", "_law_k"] (defScope s_l_hour_done) := ⟨rfl, rfl, rfl, by decide +kernel, rfl, by decide +kernel, by decide +kernel⟩
noncomputable abbrev s_l_plan : Stmt := top 42
theorem sc_l_plan : FnScope ["_law_script", "_law_house_here", "_law_k", "_law_level", "_law_left", "_law_plan_here", "_law_t", "_law_told"] ["_law_script", "_law_house_here", "_law_k"] (defScope s_l_plan) := ⟨rfl, rfl, rfl, by decide +kernel, rfl, by decide +kernel, by decide +kernel⟩
noncomputable abbrev s_l_costs : Stmt := top 43
theorem sc_l_costs : FnScope ["_law_house_here", "_law_plan_here", "_law_lacked", "_law_undone", "_law_paid", "_law_level", "_law_work", "_law_t", "_law_done", "_law_line_here", "_law_one"] ["_law_house_here", "_law_plan_here"] (defScope s_l_costs) := ⟨rfl, rfl, rfl, by decide +kernel, rfl, by decide +kernel, by decide +kernel⟩
noncomputable abbrev s_l_value : Stmt := top 44
theorem sc_l_value : FnScope ["_law_script", "_law_k", "_law_bottom"] ["_law_script", "_law_k"] (defScope s_l_value) := ⟨rfl, rfl, rfl, by decide +kernel, rfl, by decide +kernel, by decide +kernel⟩
noncomputable abbrev s_l_triple : Stmt := top 45
theorem sc_l_triple : FnScope ["_law_script", "_law_k", "_law_first", "_law_second"] ["_law_script", "_law_k"] (defScope s_l_triple) := ⟨rfl, rfl, rfl, by decide +kernel, rfl, by decide +kernel, by decide +kernel⟩
noncomputable abbrev s_l_prices : Stmt := top 46
theorem sc_l_prices : FnScope ["_law_script", "_law_house_here", "_law_k", "_law_nothing", "_law_lines", "_law_t", "_law_one", "_law_stored", "_law_done"] ["_law_script", "_law_house_here", "_law_k"] (defScope s_l_prices) := ⟨rfl, rfl, rfl, by decide +kernel, rfl, by decide +kernel, by decide +kernel⟩
noncomputable abbrev s_law : Stmt := top 47
theorem sc_law : FnScope ["_law_script", "_law_house_here", "_law_floors_told", "_law_k", "_law_spent", "_law_one"] ["_law_script"] (defScope s_law) := ⟨rfl, rfl, rfl, by decide +kernel, rfl, by decide +kernel, by decide +kernel⟩
theorem bt_abs : bootBuiltins "abs" = some (.builtin "abs") := by decide +kernel
theorem bt_len : bootBuiltins "len" = some (.builtin "len") := by decide +kernel
theorem bt_tuple : bootBuiltins "tuple" = some (.type "tuple") := by decide +kernel
structure Ads where
  f_common_divisor : Addr
  fd_common_divisor : FuncData
  f_plus : Addr
  fd_plus : FuncData
  f_times : Addr
  fd_times : FuncData
  f_under : Addr
  fd_under : FuncData
  f_added : Addr
  fd_added : FuncData
  f_multiplied : Addr
  fd_multiplied : FuncData
  f_ahead : Addr
  fd_ahead : FuncData
  f_coins : Addr
  fd_coins : FuncData
  f_less : Addr
  fd_less : FuncData
  f_line_rests : Addr
  fd_line_rests : FuncData
  f_hour_rests : Addr
  fd_hour_rests : FuncData
  f_work_rests : Addr
  fd_work_rests : FuncData
  f_stored_of : Addr
  fd_stored_of : FuncData
  f_rests_of : Addr
  fd_rests_of : FuncData
  f_worth_of : Addr
  fd_worth_of : FuncData
  f_floor_of : Addr
  fd_floor_of : FuncData
  f_l_draw : Addr
  fd_l_draw : FuncData
  f_l_norm : Addr
  fd_l_norm : FuncData
  f_l_sum : Addr
  fd_l_sum : FuncData
  f_l_times : Addr
  fd_l_times : FuncData
  f_l_more : Addr
  fd_l_more : FuncData
  f_l_below : Addr
  fd_l_below : FuncData
  f_l_cheaper : Addr
  fd_l_cheaper : FuncData
  f_l_negative : Addr
  fd_l_negative : FuncData
  f_l_number : Addr
  fd_l_number : FuncData
  f_l_share : Addr
  fd_l_share : FuncData
  f_l_house : Addr
  fd_l_house : FuncData
  f_l_line : Addr
  fd_l_line : FuncData
  f_l_part : Addr
  fd_l_part : FuncData
  f_l_least : Addr
  fd_l_least : FuncData
  f_l_worked : Addr
  fd_l_worked : FuncData
  f_l_hour_done : Addr
  fd_l_hour_done : FuncData
  f_l_plan : Addr
  fd_l_plan : FuncData
  f_l_costs : Addr
  fd_l_costs : FuncData
  f_l_value : Addr
  fd_l_value : FuncData
  f_l_triple : Addr
  fd_l_triple : FuncData
  f_l_prices : Addr
  fd_l_prices : FuncData
  f_law : Addr
  fd_law : FuncData
  u_FREE : Value
  w_FREE : V
  u_LACKED : Value
  w_LACKED : V
  u_UNDONE : Value
  w_UNDONE : V
structure Txt (K : PySem.W.Frag) (mg : Str → Option Value) (a : Ads) : Prop where
  F_common_divisor : Fun K "common_divisor" "common_divisor" s_common_divisor a.f_common_divisor a.fd_common_divisor
  m_common_divisor : mg "common_divisor" = some (.ref a.f_common_divisor)
  b_common_divisor : Binds K a.fd_common_divisor ["one", "other"] []
  F_plus : Fun K "plus" "plus" s_plus a.f_plus a.fd_plus
  m_plus : mg "plus" = some (.ref a.f_plus)
  b_plus : Binds K a.fd_plus ["one", "other"] []
  F_times : Fun K "times" "times" s_times a.f_times a.fd_times
  m_times : mg "times" = some (.ref a.f_times)
  b_times : Binds K a.fd_times ["one", "other"] []
  F_under : Fun K "under" "under" s_under a.f_under a.fd_under
  m_under : mg "under" = some (.ref a.f_under)
  b_under : Binds K a.fd_under ["one", "other"] []
  F_added : Fun K "added" "added" s_added a.f_added a.fd_added
  m_added : mg "added" = some (.ref a.f_added)
  b_added : Binds K a.fd_added ["one", "other"] []
  F_multiplied : Fun K "multiplied" "multiplied" s_multiplied a.f_multiplied a.fd_multiplied
  m_multiplied : mg "multiplied" = some (.ref a.f_multiplied)
  b_multiplied : Binds K a.fd_multiplied ["one", "by"] []
  F_ahead : Fun K "ahead" "ahead" s_ahead a.f_ahead a.fd_ahead
  m_ahead : mg "ahead" = some (.ref a.f_ahead)
  b_ahead : Binds K a.fd_ahead ["one", "other"] []
  F_coins : Fun K "coins" "coins" s_coins a.f_coins a.fd_coins
  m_coins : mg "coins" = some (.ref a.f_coins)
  b_coins : Binds K a.fd_coins ["price"] []
  F_less : Fun K "less" "less" s_less a.f_less a.fd_less
  m_less : mg "less" = some (.ref a.f_less)
  b_less : Binds K a.fd_less ["one", "other"] []
  F_line_rests : Fun K "line_rests" "line_rests" s_line_rests a.f_line_rests a.fd_line_rests
  m_line_rests : mg "line_rests" = some (.ref a.f_line_rests)
  b_line_rests : Binds K a.fd_line_rests ["line", "here"] []
  F_hour_rests : Fun K "hour_rests" "hour_rests" s_hour_rests a.f_hour_rests a.fd_hour_rests
  m_hour_rests : mg "hour_rests" = some (.ref a.f_hour_rests)
  b_hour_rests : Binds K a.fd_hour_rests ["hour", "store", "here", "behind", "later"] []
  F_work_rests : Fun K "work_rests" "work_rests" s_work_rests a.f_work_rests a.fd_work_rests
  m_work_rests : mg "work_rests" = some (.ref a.f_work_rests)
  b_work_rests : Binds K a.fd_work_rests ["work", "here", "done"] []
  F_stored_of : Fun K "stored_of" "stored_of" s_stored_of a.f_stored_of a.fd_stored_of
  m_stored_of : mg "stored_of" = some (.ref a.f_stored_of)
  b_stored_of : Binds K a.fd_stored_of ["house", "prices"] []
  F_rests_of : Fun K "rests_of" "rests_of" s_rests_of a.f_rests_of a.fd_rests_of
  m_rests_of : mg "rests_of" = some (.ref a.f_rests_of)
  b_rests_of : Binds K a.fd_rests_of ["house", "prices"] []
  F_worth_of : Fun K "worth_of" "worth_of" s_worth_of a.f_worth_of a.fd_worth_of
  m_worth_of : mg "worth_of" = some (.ref a.f_worth_of)
  b_worth_of : Binds K a.fd_worth_of ["house", "prices"] []
  F_floor_of : Fun K "floor_of" "floor_of" s_floor_of a.f_floor_of a.fd_floor_of
  m_floor_of : mg "floor_of" = some (.ref a.f_floor_of)
  b_floor_of : Binds K a.fd_floor_of ["house", "prices"] []
  F_l_draw : Fun K "_law_draw" "_law_draw" s_l_draw a.f_l_draw a.fd_l_draw
  m_l_draw : mg "_law_draw" = some (.ref a.f_l_draw)
  b_l_draw : Binds K a.fd_l_draw ["_law_script", "_law_k", "_law_many"] []
  F_l_norm : Fun K "_law_norm" "_law_norm" s_l_norm a.f_l_norm a.fd_l_norm
  m_l_norm : mg "_law_norm" = some (.ref a.f_l_norm)
  b_l_norm : Binds K a.fd_l_norm ["_law_top", "_law_bottom"] []
  F_l_sum : Fun K "_law_sum" "_law_sum" s_l_sum a.f_l_sum a.fd_l_sum
  m_l_sum : mg "_law_sum" = some (.ref a.f_l_sum)
  b_l_sum : Binds K a.fd_l_sum ["_law_one", "_law_other"] []
  F_l_times : Fun K "_law_times" "_law_times" s_l_times a.f_l_times a.fd_l_times
  m_l_times : mg "_law_times" = some (.ref a.f_l_times)
  b_l_times : Binds K a.fd_l_times ["_law_one", "_law_other"] []
  F_l_more : Fun K "_law_more" "_law_more" s_l_more a.f_l_more a.fd_l_more
  m_l_more : mg "_law_more" = some (.ref a.f_l_more)
  b_l_more : Binds K a.fd_l_more ["_law_one", "_law_other", "_law_by"] []
  F_l_below : Fun K "_law_below" "_law_below" s_l_below a.f_l_below a.fd_l_below
  m_l_below : mg "_law_below" = some (.ref a.f_l_below)
  b_l_below : Binds K a.fd_l_below ["_law_one", "_law_other"] []
  F_l_cheaper : Fun K "_law_cheaper" "_law_cheaper" s_l_cheaper a.f_l_cheaper a.fd_l_cheaper
  m_l_cheaper : mg "_law_cheaper" = some (.ref a.f_l_cheaper)
  b_l_cheaper : Binds K a.fd_l_cheaper ["_law_one", "_law_other"] []
  F_l_negative : Fun K "_law_negative" "_law_negative" s_l_negative a.f_l_negative a.fd_l_negative
  m_l_negative : mg "_law_negative" = some (.ref a.f_l_negative)
  b_l_negative : Binds K a.fd_l_negative ["_law_one"] []
  F_l_number : Fun K "_law_number" "_law_number" s_l_number a.f_l_number a.fd_l_number
  m_l_number : mg "_law_number" = some (.ref a.f_l_number)
  b_l_number : Binds K a.fd_l_number ["_law_script", "_law_k", "_law_most"] []
  F_l_share : Fun K "_law_share" "_law_share" s_l_share a.f_l_share a.fd_l_share
  m_l_share : mg "_law_share" = some (.ref a.f_l_share)
  b_l_share : Binds K a.fd_l_share ["_law_script", "_law_k"] []
  F_l_house : Fun K "_law_house" "_law_house" s_l_house a.f_l_house a.fd_l_house
  m_l_house : mg "_law_house" = some (.ref a.f_l_house)
  b_l_house : Binds K a.fd_l_house ["_law_script"] []
  F_l_line : Fun K "_law_line" "_law_line" s_l_line a.f_l_line a.fd_l_line
  m_l_line : mg "_law_line" = some (.ref a.f_l_line)
  b_l_line : Binds K a.fd_l_line ["_law_hour"] []
  F_l_part : Fun K "_law_part" "_law_part" s_l_part a.f_l_part a.fd_l_part
  m_l_part : mg "_law_part" = some (.ref a.f_l_part)
  b_l_part : Binds K a.fd_l_part ["_law_script", "_law_k"] []
  F_l_least : Fun K "_law_least" "_law_least" s_l_least a.f_l_least a.fd_l_least
  m_l_least : mg "_law_least" = some (.ref a.f_l_least)
  b_l_least : Binds K a.fd_l_least ["_law_some"] []
  F_l_worked : Fun K "_law_worked" "_law_worked" s_l_worked a.f_l_worked a.fd_l_worked
  m_l_worked : mg "_law_worked" = some (.ref a.f_l_worked)
  b_l_worked : Binds K a.fd_l_worked ["_law_script", "_law_house_here", "_law_left", "_law_rest", "_law_t", "_law_k"] []
  F_l_hour_done : Fun K "_law_hour_done" "_law_hour_done" s_l_hour_done a.f_l_hour_done a.fd_l_hour_done
  m_l_hour_done : mg "_law_hour_done" = some (.ref a.f_l_hour_done)
  b_l_hour_done : Binds K a.fd_l_hour_done ["_law_script", "_law_house_here", "_law_t", "_law_level", "_law_left", "_law_k"] []
  F_l_plan : Fun K "_law_plan" "_law_plan" s_l_plan a.f_l_plan a.fd_l_plan
  m_l_plan : mg "_law_plan" = some (.ref a.f_l_plan)
  b_l_plan : Binds K a.fd_l_plan ["_law_script", "_law_house_here", "_law_k"] []
  F_l_costs : Fun K "_law_costs" "_law_costs" s_l_costs a.f_l_costs a.fd_l_costs
  m_l_costs : mg "_law_costs" = some (.ref a.f_l_costs)
  b_l_costs : Binds K a.fd_l_costs ["_law_house_here", "_law_plan_here"] []
  F_l_value : Fun K "_law_value" "_law_value" s_l_value a.f_l_value a.fd_l_value
  m_l_value : mg "_law_value" = some (.ref a.f_l_value)
  b_l_value : Binds K a.fd_l_value ["_law_script", "_law_k"] []
  F_l_triple : Fun K "_law_triple" "_law_triple" s_l_triple a.f_l_triple a.fd_l_triple
  m_l_triple : mg "_law_triple" = some (.ref a.f_l_triple)
  b_l_triple : Binds K a.fd_l_triple ["_law_script", "_law_k"] []
  F_l_prices : Fun K "_law_prices" "_law_prices" s_l_prices a.f_l_prices a.fd_l_prices
  m_l_prices : mg "_law_prices" = some (.ref a.f_l_prices)
  b_l_prices : Binds K a.fd_l_prices ["_law_script", "_law_house_here", "_law_k"] []
  F_law : Fun K "law" "law" s_law a.f_law a.fd_law
  m_law : mg "law" = some (.ref a.f_law)
  b_law : Binds K a.fd_law ["_law_script"] []
  n_abs : mg "abs" = none
  n_enumerate : mg "enumerate" = none
  n_len : mg "len" = none
  n_range : mg "range" = none
  n_tuple : mg "tuple" = none
  n_zip : mg "zip" = none
  v_FREE : mg "FREE" = some a.u_FREE ∧ RelV a.w_FREE a.u_FREE ∧ ∀ H, Dt K H a.w_FREE c_FREE
  v_LACKED : mg "LACKED" = some a.u_LACKED ∧ RelV a.w_LACKED a.u_LACKED ∧ ∀ H, Dt K H a.w_LACKED c_LACKED
  v_UNDONE : mg "UNDONE" = some a.u_UNDONE ∧ RelV a.w_UNDONE a.u_UNDONE ∧ ∀ H, Dt K H a.w_UNDONE c_UNDONE
section
variable {P : Program} {w : World} {K : PySem.W.Frag} {mg : Str → Option Value} {base : Heap} {ad : Ads}
theorem ok_common_divisor (T : Txt K mg ad) : FnOk P w K mg base CX0 1 ad.f_common_divisor ad.fd_common_divisor ["one", "other"] (spF K F_common_divisor) := by
  exact T.F_common_divisor.okF (k := 0) sc_common_divisor (by decide) fun cdv A outer s H E hr => ⟨_, (pssx_cons (psx_while (muAbs 1) PassesOwn.never (ptx_cmp (fr := true) (r := rNeX K) (op_neX hr.units) x_ne (nomark _) (px_var 1 (pv 1)) px_int) (pssx_cons (psx_setD (i := 2) sc_common_divisor.nd rfl (Or.inl rfl) (px_op op_modN x_mod (px_var 0 (pv 0)) (px_var 1 (pv 1)))) (pssx_cons (psx_setD (i := 0) sc_common_divisor.nd rfl (Or.inl rfl) (px_var 1 (pv 1))) (pssx_one (psx_setD (i := 1) sc_common_divisor.nd rfl (Or.inl rfl) (px_var 2 (pv 2))))))) (pssx_one (psx_retV 0 (pv 0))))⟩
theorem ok_plus (T : Txt K mg ad) : FnOk P w K mg base CX0 2 ad.f_plus ad.fd_plus ["one", "other"] (spF K F_plus) := by
  have G_common_divisor : FnOk P w K mg base CX0 1 _ _ _ (spF K F_common_divisor) := ok_common_divisor T
  exact T.F_plus.okF (k := 1) sc_plus (by decide) fun cdv A outer s H E hr => ⟨_, (pssx_cons (psx_setD (i := 2) sc_plus.nd rfl (Or.inl rfl) (px_callK rfl G_common_divisor (hr.mono (by omega)) rfl T.m_common_divisor T.F_common_divisor.kp T.b_common_divisor pass0 (pax_cons (px_ix (r := rIx K) ix_seq x_ix (px_var 0 (pv 0)) px_int (fun _ _ => rfl)) (pax_cons (px_ix (r := rIx K) ix_seq x_ix (px_var 1 (pv 1)) px_int (fun _ _ => rfl)) pax_nil)))) (pssx_cons (psx_setD (i := 3) sc_plus.nd rfl (Or.inl rfl) (px_op (r := rAddX K) op_addX x_add (px_op op_mulB x_mul (px_ix (r := rIx K) ix_seq x_ix (px_var 0 (pv 0)) px_int (fun _ _ => rfl)) (px_op op_fdivB x_fdiv (px_ix (r := rIx K) ix_seq x_ix (px_var 1 (pv 1)) px_int (fun _ _ => rfl)) (px_var 2 (pv 2)))) (px_op op_mulB x_mul (px_ix (r := rIx K) ix_seq x_ix (px_var 1 (pv 1)) px_int (fun _ _ => rfl)) (px_op op_fdivB x_fdiv (px_ix (r := rIx K) ix_seq x_ix (px_var 0 (pv 0)) px_int (fun _ _ => rfl)) (px_var 2 (pv 2)))))) (pssx_cons (psx_setD (i := 4) sc_plus.nd rfl (Or.inl rfl) (px_callK rfl G_common_divisor (hr.mono (by omega)) rfl T.m_common_divisor T.F_common_divisor.kp T.b_common_divisor pass0 (pax_cons (px_callB call_abs x_abs rfl T.n_abs bt_abs (pax_cons (px_var 3 (pv 3)) pax_nil)) (pax_cons (px_var 2 (pv 2)) pax_nil)))) (pssx_one (psx_ret (fr := true) (px_tup (pax_cons (px_op op_fdivB x_fdiv (px_var 3 (pv 3)) (px_var 4 (pv 4))) (pax_cons (px_op op_mulB x_mul (px_op op_fdivB x_fdiv (px_ix (r := rIx K) ix_seq x_ix (px_var 0 (pv 0)) px_int (fun _ _ => rfl)) (px_var 2 (pv 2))) (px_op op_fdivB x_fdiv (px_ix (r := rIx K) ix_seq x_ix (px_var 1 (pv 1)) px_int (fun _ _ => rfl)) (px_var 4 (pv 4)))) pax_nil))))))))⟩
theorem ok_times (T : Txt K mg ad) : FnOk P w K mg base CX0 2 ad.f_times ad.fd_times ["one", "other"] (spF K F_times) := by
  have G_common_divisor : FnOk P w K mg base CX0 1 _ _ _ (spF K F_common_divisor) := ok_common_divisor T
  exact T.F_times.okF (k := 1) sc_times (by decide) fun cdv A outer s H E hr => ⟨_, (pssx_cons (psx_setD (i := 2) sc_times.nd rfl (Or.inl rfl) (px_callK rfl G_common_divisor (hr.mono (by omega)) rfl T.m_common_divisor T.F_common_divisor.kp T.b_common_divisor pass0 (pax_cons (px_callB call_abs x_abs rfl T.n_abs bt_abs (pax_cons (px_ix (r := rIx K) ix_seq x_ix (px_var 0 (pv 0)) px_int (fun _ _ => rfl)) pax_nil)) (pax_cons (px_ix (r := rIx K) ix_seq x_ix (px_var 1 (pv 1)) px_int (fun _ _ => rfl)) pax_nil)))) (pssx_cons (psx_setD (i := 3) sc_times.nd rfl (Or.inl rfl) (px_callK rfl G_common_divisor (hr.mono (by omega)) rfl T.m_common_divisor T.F_common_divisor.kp T.b_common_divisor pass0 (pax_cons (px_callB call_abs x_abs rfl T.n_abs bt_abs (pax_cons (px_ix (r := rIx K) ix_seq x_ix (px_var 1 (pv 1)) px_int (fun _ _ => rfl)) pax_nil)) (pax_cons (px_ix (r := rIx K) ix_seq x_ix (px_var 0 (pv 0)) px_int (fun _ _ => rfl)) pax_nil)))) (pssx_cons (psx_setD (i := 4) sc_times.nd rfl (Or.inl rfl) (px_op op_mulB x_mul (px_op op_fdivB x_fdiv (px_ix (r := rIx K) ix_seq x_ix (px_var 0 (pv 0)) px_int (fun _ _ => rfl)) (px_var 2 (pv 2))) (px_op op_fdivB x_fdiv (px_ix (r := rIx K) ix_seq x_ix (px_var 1 (pv 1)) px_int (fun _ _ => rfl)) (px_var 3 (pv 3))))) (pssx_one (psx_ret (fr := true) (px_tup (pax_cons (px_var 4 (pv 4)) (pax_cons (px_op op_mulB x_mul (px_op op_fdivB x_fdiv (px_ix (r := rIx K) ix_seq x_ix (px_var 0 (pv 0)) px_int (fun _ _ => rfl)) (px_var 3 (pv 3))) (px_op op_fdivB x_fdiv (px_ix (r := rIx K) ix_seq x_ix (px_var 1 (pv 1)) px_int (fun _ _ => rfl)) (px_var 2 (pv 2)))) pax_nil))))))))⟩
theorem ok_under (T : Txt K mg ad) : FnOk P w K mg base CX0 1 ad.f_under ad.fd_under ["one", "other"] (spF K F_under) := by
  exact T.F_under.okF (k := 0) sc_under (by decide) fun cdv A outer s H E hr => ⟨_, (pssx_one (psx_ret (fr := true) (px_cmp op_lt x_lt (nomark _) (px_op op_mulB x_mul (px_ix (r := rIx K) ix_seq x_ix (px_var 0 (pv 0)) px_int (fun _ _ => rfl)) (px_ix (r := rIx K) ix_seq x_ix (px_var 1 (pv 1)) px_int (fun _ _ => rfl))) (px_op op_mulB x_mul (px_ix (r := rIx K) ix_seq x_ix (px_var 1 (pv 1)) px_int (fun _ _ => rfl)) (px_ix (r := rIx K) ix_seq x_ix (px_var 0 (pv 0)) px_int (fun _ _ => rfl))))))⟩
theorem ok_added (T : Txt K mg ad) : FnOk P w K mg base CX0 3 ad.f_added ad.fd_added ["one", "other"] (spF K F_added) := by
  have G_plus : FnOk P w K mg base CX0 2 _ _ _ (spF K F_plus) := ok_plus T
  exact T.F_added.okF (k := 2) sc_added (by decide) fun cdv A outer s H E hr => ⟨_, (pssx_one (psx_ret (fr := true) (px_tup (pax_cons (px_callK rfl G_plus (hr.mono (by omega)) rfl T.m_plus T.F_plus.kp T.b_plus pass0 (pax_cons (px_ix (r := rIx K) ix_seq x_ix (px_var 0 (pv 0)) px_int (fun _ _ => rfl)) (pax_cons (px_ix (r := rIx K) ix_seq x_ix (px_var 1 (pv 1)) px_int (fun _ _ => rfl)) pax_nil))) (pax_cons (px_callK rfl G_plus (hr.mono (by omega)) rfl T.m_plus T.F_plus.kp T.b_plus pass0 (pax_cons (px_ix (r := rIx K) ix_seq x_ix (px_var 0 (pv 0)) px_int (fun _ _ => rfl)) (pax_cons (px_ix (r := rIx K) ix_seq x_ix (px_var 1 (pv 1)) px_int (fun _ _ => rfl)) pax_nil))) (pax_cons (px_callK rfl G_plus (hr.mono (by omega)) rfl T.m_plus T.F_plus.kp T.b_plus pass0 (pax_cons (px_ix (r := rIx K) ix_seq x_ix (px_var 0 (pv 0)) px_int (fun _ _ => rfl)) (pax_cons (px_ix (r := rIx K) ix_seq x_ix (px_var 1 (pv 1)) px_int (fun _ _ => rfl)) pax_nil))) pax_nil))))))⟩
theorem ok_multiplied (T : Txt K mg ad) : FnOk P w K mg base CX0 3 ad.f_multiplied ad.fd_multiplied ["one", "by"] (spF K F_multiplied) := by
  have G_times : FnOk P w K mg base CX0 2 _ _ _ (spF K F_times) := ok_times T
  exact T.F_multiplied.okF (k := 2) sc_multiplied (by decide) fun cdv A outer s H E hr => ⟨_, (pssx_one (psx_ret (fr := true) (px_tup (pax_cons (px_callK rfl G_times (hr.mono (by omega)) rfl T.m_times T.F_times.kp T.b_times pass0 (pax_cons (px_ix (r := rIx K) ix_seq x_ix (px_var 0 (pv 0)) px_int (fun _ _ => rfl)) (pax_cons (px_var 1 (pv 1)) pax_nil))) (pax_cons (px_callK rfl G_times (hr.mono (by omega)) rfl T.m_times T.F_times.kp T.b_times pass0 (pax_cons (px_ix (r := rIx K) ix_seq x_ix (px_var 0 (pv 0)) px_int (fun _ _ => rfl)) (pax_cons (px_var 1 (pv 1)) pax_nil))) (pax_cons (px_callK rfl G_times (hr.mono (by omega)) rfl T.m_times T.F_times.kp T.b_times pass0 (pax_cons (px_ix (r := rIx K) ix_seq x_ix (px_var 0 (pv 0)) px_int (fun _ _ => rfl)) (pax_cons (px_var 1 (pv 1)) pax_nil))) pax_nil))))))⟩
theorem ok_ahead (T : Txt K mg ad) : FnOk P w K mg base CX0 2 ad.f_ahead ad.fd_ahead ["one", "other"] (spF K F_ahead) := by
  have G_under : FnOk P w K mg base CX0 1 _ _ _ (spF K F_under) := ok_under T
  exact T.F_ahead.okF (k := 1) sc_ahead (by decide) fun cdv A outer s H E hr => ⟨_, (pssx_cons (psx_for PassesOwn.never rfl (pix_zip rfl T.n_zip (pax_cons (px_var 0 (pv 0)) (pax_cons (px_var 1 (pv 1)) pax_nil))) (pg_tup (n := 2) rfl (pgs_cons (pg_name (i := 2) sc_ahead.nd rfl (Or.inl rfl)) (pgs_cons (pg_name (i := 3) sc_ahead.nd rfl (Or.inl rfl)) pgs_nil))) (tgx_tup (tgsx_cons (tgsx_cons tgsx_nil))) (pssx_one (psx_if (ptx_cmp (fr := true) (r := rNeX K) (op_neX hr.units) x_ne (nomark _) (px_var 2 (pv 2)) (px_var 3 (pv 3))) (pssx_one (psx_ret (fr := true) (px_callK rfl G_under (hr.mono (by omega)) rfl T.m_under T.F_under.kp T.b_under pass0 (pax_cons (px_var 2 (pv 2)) (pax_cons (px_var 3 (pv 3)) pax_nil))))) pssx_nil))) (pssx_one (psx_ret (fr := true) px_bl)))⟩
theorem ok_coins (T : Txt K mg ad) : FnOk P w K mg base CX0 1 ad.f_coins ad.fd_coins ["price"] (spF K F_coins) := by
  exact T.F_coins.okF (k := 0) sc_coins (by decide) fun cdv A outer s H E hr => ⟨_, (pssx_one (psx_ret (fr := true) (px_tup (pax_cons (px_tup (pax_cons px_int (pax_cons px_int pax_nil))) (pax_cons (px_tup (pax_cons px_int (pax_cons px_int pax_nil))) (pax_cons (px_tup (pax_cons (px_var 0 (pv 0)) (pax_cons px_int pax_nil))) pax_nil))))))⟩
theorem ok_less (T : Txt K mg ad) : FnOk P w K mg base CX0 4 ad.f_less ad.fd_less ["one", "other"] (spF K F_less) := by
  have G_added : FnOk P w K mg base CX0 3 _ _ _ (spF K F_added) := ok_added T
  have G_multiplied : FnOk P w K mg base CX0 3 _ _ _ (spF K F_multiplied) := ok_multiplied T
  exact T.F_less.okF (k := 3) sc_less (by decide) fun cdv A outer s H E hr => ⟨_, (pssx_one (psx_ret (fr := true) (px_callK rfl G_added (hr.mono (by omega)) rfl T.m_added T.F_added.kp T.b_added pass0 (pax_cons (px_var 0 (pv 0)) (pax_cons (px_callK rfl G_multiplied (hr.mono (by omega)) rfl T.m_multiplied T.F_multiplied.kp T.b_multiplied pass0 (pax_cons (px_var 1 (pv 1)) (pax_cons (px_tup (pax_cons (px_un un_neg x_neg px_int) (pax_cons px_int pax_nil))) pax_nil))) pax_nil)))))⟩
theorem ok_line_rests (T : Txt K mg ad) : FnOk P w K mg base CX0 5 ad.f_line_rests ad.fd_line_rests ["line", "here"] (spF K F_line_rests) := by
  have G_coins : FnOk P w K mg base CX0 1 _ _ _ (spF K F_coins) := ok_coins T
  have G_less : FnOk P w K mg base CX0 4 _ _ _ (spF K F_less) := ok_less T
  exact T.F_line_rests.okF (k := 4) sc_line_rests (by decide) fun cdv A outer s H E hr => ⟨_, (pssx_cons (psx_if (ptx_cmp (fr := true) op_isN x_is (nomark _) (px_var 0 (pv 0)) px_non) (pssx_one (psx_ret (fr := true) (px_lst pax_nil))) pssx_nil) (pssx_one (psx_ret (fr := true) (px_lst (pax_cons (px_tup (pax_cons (px_callK rfl G_less (hr.mono (by omega)) rfl T.m_less T.F_less.kp T.b_less pass0 (pax_cons (px_callK rfl G_coins (hr.mono (by omega)) rfl T.m_coins T.F_coins.kp T.b_coins pass0 (pax_cons (px_ix (r := rIx K) ix_seq x_ix (px_var 0 (pv 0)) px_int (fun _ _ => rfl)) pax_nil)) (pax_cons (px_var 1 (pv 1)) pax_nil))) (pax_cons (px_ix (r := rIx K) ix_seq x_ix (px_var 0 (pv 0)) px_int (fun _ _ => rfl)) pax_nil))) (pax_cons (px_tup (pax_cons (px_callK rfl G_less (hr.mono (by omega)) rfl T.m_less T.F_less.kp T.b_less pass0 (pax_cons (px_var 1 (pv 1)) (pax_cons (px_callK rfl G_coins (hr.mono (by omega)) rfl T.m_coins T.F_coins.kp T.b_coins pass0 (pax_cons (px_ix (r := rIx K) ix_seq x_ix (px_var 0 (pv 0)) px_int (fun _ _ => rfl)) pax_nil)) pax_nil))) (pax_cons (px_ix (r := rIx K) ix_seq x_ix (px_var 0 (pv 0)) px_int (fun _ _ => rfl)) pax_nil))) pax_nil))))))⟩
theorem ok_hour_rests (T : Txt K mg ad) : FnOk P w K mg base CX0 6 ad.f_hour_rests ad.fd_hour_rests ["hour", "store", "here", "behind", "later"] (spF K F_hour_rests) := by
  have G_less : FnOk P w K mg base CX0 4 _ _ _ (spF K F_less) := ok_less T
  have G_line_rests : FnOk P w K mg base CX0 5 _ _ _ (spF K F_line_rests) := ok_line_rests T
  have G_multiplied : FnOk P w K mg base CX0 3 _ _ _ (spF K F_multiplied) := ok_multiplied T
  exact T.F_hour_rests.okF (k := 5) sc_hour_rests (by decide) fun cdv A outer s H E hr => ⟨_, (pssx_one (psx_ret (fr := true) (px_op (r := rAddX K) op_addX x_add (px_callK rfl G_line_rests (hr.mono (by omega)) rfl T.m_line_rests T.F_line_rests.kp T.b_line_rests pass0 (pax_cons (px_ix (r := rIx K) ix_seq x_ix (px_var 0 (pv 0)) px_int (fun _ _ => rfl)) (pax_cons (px_var 2 (pv 2)) pax_nil))) (px_lst (pax_cons (px_tup (pax_cons (px_callK rfl G_less (hr.mono (by omega)) rfl T.m_less T.F_less.kp T.b_less pass0 (pax_cons (px_var 2 (pv 2)) (pax_cons (px_callK rfl G_multiplied (hr.mono (by omega)) rfl T.m_multiplied T.F_multiplied.kp T.b_multiplied pass0 (pax_cons (px_var 3 (pv 3)) (pax_cons (px_ix (r := rIx K) ix_seq x_ix (px_var 1 (pv 1)) px_int (fun _ _ => rfl)) pax_nil))) pax_nil))) (pax_cons (px_ix (r := rIx K) ix_seq x_ix (px_var 1 (pv 1)) px_int (fun _ _ => rfl)) pax_nil))) (pax_cons (px_tup (pax_cons (px_callK rfl G_less (hr.mono (by omega)) rfl T.m_less T.F_less.kp T.b_less pass0 (pax_cons (px_var 3 (pv 3)) (pax_cons (px_callK rfl G_multiplied (hr.mono (by omega)) rfl T.m_multiplied T.F_multiplied.kp T.b_multiplied pass0 (pax_cons (px_var 2 (pv 2)) (pax_cons (px_ix (r := rIx K) ix_seq x_ix (px_var 1 (pv 1)) px_int (fun _ _ => rfl)) pax_nil))) pax_nil))) (pax_cons (px_ix (r := rIx K) ix_seq x_ix (px_var 1 (pv 1)) px_int (fun _ _ => rfl)) pax_nil))) (pax_cons (px_tup (pax_cons (px_callK rfl G_less (hr.mono (by omega)) rfl T.m_less T.F_less.kp T.b_less pass0 (pax_cons (px_const rfl T.v_LACKED) (pax_cons (px_var 2 (pv 2)) pax_nil))) (pax_cons (px_ix (r := rIx K) ix_seq x_ix (px_var 0 (pv 0)) px_int (fun _ _ => rfl)) pax_nil))) (pax_cons (px_tup (pax_cons (px_callK rfl G_less (hr.mono (by omega)) rfl T.m_less T.F_less.kp T.b_less pass0 (pax_cons (px_var 3 (pv 3)) (pax_cons (px_var 4 (pv 4)) pax_nil))) (pax_cons (px_ix (r := rIx K) ix_seq x_ix (px_var 1 (pv 1)) px_int (fun _ _ => rfl)) pax_nil))) pax_nil))))))))⟩
theorem ok_work_rests (T : Txt K mg ad) : FnOk P w K mg base CX0 5 ad.f_work_rests ad.fd_work_rests ["work", "here", "done"] (spF K F_work_rests) := by
  have G_less : FnOk P w K mg base CX0 4 _ _ _ (spF K F_less) := ok_less T
  exact T.F_work_rests.okF (k := 4) sc_work_rests (by decide) fun cdv A outer s H E hr => ⟨_, (pssx_cons (psx_setCD (i := 3) (bs := ["price"]) (nb := ["work", "here", "done", "worked"]) sc_work_rests.nd rfl (Or.inl rfl) rfl (blk_of rfl) (pix_seq (px_slice (r := rSl K) sl_seq x_sl (px_var 1 (pv 1)) (pox_some (fr := true) (px_ix (r := rIx K) ix_seq x_ix (px_var 0 (pv 0)) px_int (fun _ _ => rfl))) (pox_some (fr := true) (px_op (r := rAddX K) op_addX x_add (px_ix (r := rIx K) ix_seq x_ix (px_var 0 (pv 0)) px_int (fun _ _ => rfl)) px_int)))) (gown_name (by decide)) (fun _ _ _ _ _ _ => (pg_name (i := 0) (show List.Nodup (["price", "work", "here", "done", "worked"] : List Str) by decide +kernel) rfl (Or.inl rfl) (Or.inr rfl))) tgb_name (fun _ _ _ _ _ _ => pifsx_nil) (fun _ _ _ _ _ _ => (px_tup (pax_cons (px_callK rfl G_less (hr.mono (by omega)) rfl T.m_less T.F_less.kp T.b_less pass0 (pax_cons (px_var 0 (pv 0)) (pax_cons (px_var 3 (pv 3)) pax_nil))) (pax_cons (px_ix (r := rIx K) ix_seq x_ix (px_var 1 (pv 1)) px_int (fun _ _ => rfl)) pax_nil))))) (pssx_one (psx_ret (fr := true) (px_op (r := rAddX K) op_addX x_add (px_var 3 (pv 3)) (px_lst (pax_cons (px_tup (pax_cons (px_callK rfl G_less (hr.mono (by omega)) rfl T.m_less T.F_less.kp T.b_less pass0 (pax_cons (px_const rfl T.v_UNDONE) (pax_cons (px_var 2 (pv 2)) pax_nil))) (pax_cons (px_ix (r := rIx K) ix_seq x_ix (px_var 0 (pv 0)) px_int (fun _ _ => rfl)) pax_nil))) pax_nil))))))⟩
theorem ok_stored_of (T : Txt K mg ad) : FnOk P w K mg base CX0 2 ad.f_stored_of ad.fd_stored_of ["house", "prices"] (spF K F_stored_of) := by
  have G_coins : FnOk P w K mg base CX0 1 _ _ _ (spF K F_coins) := ok_coins T
  exact T.F_stored_of.okF (k := 1) sc_stored_of (by decide) fun cdv A outer s H E hr => ⟨_, (pssx_one (psx_ret (fr := true) (px_op (r := rAddX K) op_addX x_add (px_ix (r := rIx K) ix_seq x_ix (px_var 1 (pv 1)) px_int (fun _ _ => rfl)) (px_tup (pax_cons (px_callK rfl G_coins (hr.mono (by omega)) rfl T.m_coins T.F_coins.kp T.b_coins pass0 (pax_cons (px_ix (r := rIx K) ix_seq x_ix (px_ix (r := rIx K) ix_seq x_ix (px_var 0 (pv 0)) px_int (fun _ _ => rfl)) px_int (fun _ _ => rfl)) pax_nil)) pax_nil)))))⟩
theorem ok_rests_of (T : Txt K mg ad) : FnOk P w K mg base CX0 7 ad.f_rests_of ad.fd_rests_of ["house", "prices"] (spF K F_rests_of) := by
  have G_hour_rests : FnOk P w K mg base CX0 6 _ _ _ (spF K F_hour_rests) := ok_hour_rests T
  have G_stored_of : FnOk P w K mg base CX0 2 _ _ _ (spF K F_stored_of) := ok_stored_of T
  have G_work_rests : FnOk P w K mg base CX0 5 _ _ _ (spF K F_work_rests) := ok_work_rests T
  exact T.F_rests_of.okF (k := 6) sc_rests_of (by decide) fun cdv A outer s H E hr => ⟨_, (pssx_cons (psx_setD (i := 2) sc_rests_of.nd rfl (Or.inl rfl) (px_callK rfl G_stored_of (hr.mono (by omega)) rfl T.m_stored_of T.F_stored_of.kp T.b_stored_of pass0 (pax_cons (px_var 0 (pv 0)) (pax_cons (px_var 1 (pv 1)) pax_nil)))) (pssx_cons (psx_set (i := 3) sc_rests_of.nd rfl (Or.inl rfl) (px_lst pax_nil)) (pssx_cons (psx_for PassesOwn.never rfl (pix_enum rfl T.n_enumerate (pax_cons (px_ix (r := rIx K) ix_seq x_ix (px_var 0 (pv 0)) px_int (fun _ _ => rfl)) pax_nil)) (pg_tup (n := 2) rfl (pgs_cons (pg_name (i := 4) sc_rests_of.nd rfl (Or.inl rfl)) (pgs_cons (pg_name (i := 5) sc_rests_of.nd rfl (Or.inl rfl)) pgs_nil))) (tgx_tup (tgsx_cons (tgsx_cons tgsx_nil))) (pssx_one (psx_ext 3 (pv 3) (px_callK rfl G_hour_rests (hr.mono (by omega)) rfl T.m_hour_rests T.F_hour_rests.kp T.b_hour_rests pass0 (pax_cons (px_var 5 (pv 5)) (pax_cons (px_ix (r := rIx K) ix_seq x_ix (px_var 0 (pv 0)) px_int (fun _ _ => rfl)) (pax_cons (px_ix (r := rIx K) ix_seq x_ix (px_ix (r := rIx K) ix_seq x_ix (px_var 1 (pv 1)) px_int (fun _ _ => rfl)) (px_var 4 (pv 4)) (fun _ _ => rfl)) (pax_cons (px_ix (r := rIx K) ix_seq x_ix (px_var 2 (pv 2)) (px_var 4 (pv 4)) (fun _ _ => rfl)) (pax_cons (px_ix (r := rIx K) ix_seq x_ix (px_var 2 (pv 2)) (px_op (r := rAddX K) op_addX x_add (px_var 4 (pv 4)) px_int) (fun _ _ => rfl)) pax_nil))))))))) (pssx_cons (psx_for PassesOwn.never rfl (pix_zip rfl T.n_zip (pax_cons (px_ix (r := rIx K) ix_seq x_ix (px_var 0 (pv 0)) px_int (fun _ _ => rfl)) (pax_cons (px_ix (r := rIx K) ix_seq x_ix (px_var 1 (pv 1)) px_int (fun _ _ => rfl)) pax_nil))) (pg_tup (n := 2) rfl (pgs_cons (pg_name (i := 6) sc_rests_of.nd rfl (Or.inl rfl)) (pgs_cons (pg_name (i := 7) sc_rests_of.nd rfl (Or.inl rfl)) pgs_nil))) (tgx_tup (tgsx_cons (tgsx_cons tgsx_nil))) (pssx_one (psx_ext 3 (pv 3) (px_callK rfl G_work_rests (hr.mono (by omega)) rfl T.m_work_rests T.F_work_rests.kp T.b_work_rests pass0 (pax_cons (px_var 6 (pv 6)) (pax_cons (px_ix (r := rIx K) ix_seq x_ix (px_var 1 (pv 1)) px_int (fun _ _ => rfl)) (pax_cons (px_var 7 (pv 7)) pax_nil))))))) (pssx_one (psx_retV 3 (pv 3)))))))⟩
theorem ok_worth_of (T : Txt K mg ad) : FnOk P w K mg base CX0 4 ad.f_worth_of ad.fd_worth_of ["house", "prices"] (spF K F_worth_of) := by
  have G_added : FnOk P w K mg base CX0 3 _ _ _ (spF K F_added) := ok_added T
  have G_multiplied : FnOk P w K mg base CX0 3 _ _ _ (spF K F_multiplied) := ok_multiplied T
  have G_stored_of : FnOk P w K mg base CX0 2 _ _ _ (spF K F_stored_of) := ok_stored_of T
  exact T.F_worth_of.okF (k := 3) sc_worth_of (by decide) fun cdv A outer s H E hr => ⟨_, (pssx_cons (psx_setD (i := 2) sc_worth_of.nd rfl (Or.inl rfl) (px_callK rfl G_multiplied (hr.mono (by omega)) rfl T.m_multiplied T.F_multiplied.kp T.b_multiplied pass0 (pax_cons (px_ix (r := rIx K) ix_seq x_ix (px_callK rfl G_stored_of (hr.mono (by omega)) rfl T.m_stored_of T.F_stored_of.kp T.b_stored_of pass0 (pax_cons (px_var 0 (pv 0)) (pax_cons (px_var 1 (pv 1)) pax_nil))) px_int (fun _ _ => rfl)) (pax_cons (px_tup (pax_cons (px_un un_neg x_neg (px_ix (r := rIx K) ix_seq x_ix (px_ix (r := rIx K) ix_seq x_ix (px_var 0 (pv 0)) px_int (fun _ _ => rfl)) px_int (fun _ _ => rfl))) (pax_cons px_int pax_nil))) pax_nil)))) (pssx_cons (psx_for PassesOwn.never rfl (pix_zip rfl T.n_zip (pax_cons (px_ix (r := rIx K) ix_seq x_ix (px_var 0 (pv 0)) px_int (fun _ _ => rfl)) (pax_cons (px_ix (r := rIx K) ix_seq x_ix (px_var 1 (pv 1)) px_int (fun _ _ => rfl)) pax_nil))) (pg_tup (n := 2) rfl (pgs_cons (pg_name (i := 3) sc_worth_of.nd rfl (Or.inl rfl)) (pgs_cons (pg_name (i := 4) sc_worth_of.nd rfl (Or.inl rfl)) pgs_nil))) (tgx_tup (tgsx_cons (tgsx_cons tgsx_nil))) (pssx_one (psx_setD (i := 2) sc_worth_of.nd rfl (Or.inl rfl) (px_callK rfl G_added (hr.mono (by omega)) rfl T.m_added T.F_added.kp T.b_added pass0 (pax_cons (px_var 2 (pv 2)) (pax_cons (px_callK rfl G_multiplied (hr.mono (by omega)) rfl T.m_multiplied T.F_multiplied.kp T.b_multiplied pass0 (pax_cons (px_var 4 (pv 4)) (pax_cons (px_tup (pax_cons (px_op op_sub x_sub (px_ix (r := rIx K) ix_seq x_ix (px_var 3 (pv 3)) px_int (fun _ _ => rfl)) (px_ix (r := rIx K) ix_seq x_ix (px_var 3 (pv 3)) px_int (fun _ _ => rfl))) (pax_cons px_int pax_nil))) pax_nil))) pax_nil)))))) (pssx_cons (psx_for PassesOwn.never rfl (pix_zip rfl T.n_zip (pax_cons (px_ix (r := rIx K) ix_seq x_ix (px_var 0 (pv 0)) px_int (fun _ _ => rfl)) (pax_cons (px_ix (r := rIx K) ix_seq x_ix (px_var 1 (pv 1)) px_int (fun _ _ => rfl)) pax_nil))) (pg_tup (n := 2) rfl (pgs_cons (pg_name (i := 5) sc_worth_of.nd rfl (Or.inl rfl)) (pgs_cons (pg_name (i := 6) sc_worth_of.nd rfl (Or.inl rfl)) pgs_nil))) (tgx_tup (tgsx_cons (tgsx_cons tgsx_nil))) (pssx_one (psx_setD (i := 2) sc_worth_of.nd rfl (Or.inl rfl) (px_callK rfl G_added (hr.mono (by omega)) rfl T.m_added T.F_added.kp T.b_added pass0 (pax_cons (px_var 2 (pv 2)) (pax_cons (px_callK rfl G_multiplied (hr.mono (by omega)) rfl T.m_multiplied T.F_multiplied.kp T.b_multiplied pass0 (pax_cons (px_var 6 (pv 6)) (pax_cons (px_tup (pax_cons (px_ix (r := rIx K) ix_seq x_ix (px_var 5 (pv 5)) px_int (fun _ _ => rfl)) (pax_cons px_int pax_nil))) pax_nil))) pax_nil)))))) (pssx_one (psx_retV 2 (pv 2))))))⟩
theorem ok_floor_of (T : Txt K mg ad) : FnOk P w K mg base CX0 8 ad.f_floor_of ad.fd_floor_of ["house", "prices"] (spF K F_floor_of) := by
  have G_added : FnOk P w K mg base CX0 3 _ _ _ (spF K F_added) := ok_added T
  have G_ahead : FnOk P w K mg base CX0 2 _ _ _ (spF K F_ahead) := ok_ahead T
  have G_multiplied : FnOk P w K mg base CX0 3 _ _ _ (spF K F_multiplied) := ok_multiplied T
  have G_rests_of : FnOk P w K mg base CX0 7 _ _ _ (spF K F_rests_of) := ok_rests_of T
  have G_worth_of : FnOk P w K mg base CX0 4 _ _ _ (spF K F_worth_of) := ok_worth_of T
  exact T.F_floor_of.okF (k := 7) sc_floor_of (by decide) fun cdv A outer s H E hr => ⟨_, (pssx_cons (psx_for PassesOwn.never rfl (pix_enum rfl T.n_enumerate (pax_cons (px_ix (r := rIx K) ix_seq x_ix (px_var 1 (pv 1)) px_int (fun _ _ => rfl)) pax_nil)) (pg_tup (n := 2) rfl (pgs_cons (pg_name (i := 2) sc_floor_of.nd rfl (Or.inl rfl)) (pgs_cons (pg_name (i := 3) sc_floor_of.nd rfl (Or.inl rfl)) pgs_nil))) (tgx_tup (tgsx_cons (tgsx_cons tgsx_nil))) (pssx_one (psx_if (ptx_val (fr := true) (px_callK rfl G_ahead (hr.mono (by omega)) rfl T.m_ahead T.F_ahead.kp T.b_ahead pass0 (pax_cons (px_var 3 (pv 3)) (pax_cons (px_const rfl T.v_FREE) pax_nil)))) (pssx_one psx_never) pssx_nil))) (pssx_cons (psx_setD (i := 4) sc_floor_of.nd rfl (Or.inl rfl) (px_callK rfl G_worth_of (hr.mono (by omega)) rfl T.m_worth_of T.F_worth_of.kp T.b_worth_of pass0 (pax_cons (px_var 0 (pv 0)) (pax_cons (px_var 1 (pv 1)) pax_nil)))) (pssx_cons (psx_for PassesOwn.never rfl (pix_seq (px_callK rfl G_rests_of (hr.mono (by omega)) rfl T.m_rests_of T.F_rests_of.kp T.b_rests_of pass0 (pax_cons (px_var 0 (pv 0)) (pax_cons (px_var 1 (pv 1)) pax_nil)))) (pg_tup (n := 2) rfl (pgs_cons (pg_name (i := 5) sc_floor_of.nd rfl (Or.inl rfl)) (pgs_cons (pg_name (i := 6) sc_floor_of.nd rfl (Or.inl rfl)) pgs_nil))) (tgx_tup (tgsx_cons (tgsx_cons tgsx_nil))) (pssx_one (psx_if (ptx_val (fr := true) (px_callK rfl G_ahead (hr.mono (by omega)) rfl T.m_ahead T.F_ahead.kp T.b_ahead pass0 (pax_cons (px_var 5 (pv 5)) (pax_cons (px_const rfl T.v_FREE) pax_nil)))) (pssx_one (psx_setD (i := 4) sc_floor_of.nd rfl (Or.inl rfl) (px_callK rfl G_added (hr.mono (by omega)) rfl T.m_added T.F_added.kp T.b_added pass0 (pax_cons (px_var 4 (pv 4)) (pax_cons (px_callK rfl G_multiplied (hr.mono (by omega)) rfl T.m_multiplied T.F_multiplied.kp T.b_multiplied pass0 (pax_cons (px_var 5 (pv 5)) (pax_cons (px_tup (pax_cons (px_var 6 (pv 6)) (pax_cons px_int pax_nil))) pax_nil))) pax_nil))))) pssx_nil))) (pssx_one (psx_retV 4 (pv 4))))))⟩
theorem ok_l_draw (T : Txt K mg ad) : FnOk P w K mg base CX0 1 ad.f_l_draw ad.fd_l_draw ["_law_script", "_law_k", "_law_many"] (spF K F_l_draw) := by
  exact T.F_l_draw.okF (k := 0) sc_l_draw (by decide) fun cdv A outer s H E hr => ⟨_, (pssx_cons (psx_setD (i := 3) sc_l_draw.nd rfl (Or.inl rfl) px_int) (pssx_cons (psx_if (ptx_cmp (fr := true) op_gt x_gt (nomark _) (px_callB (r := rLen K) call_lenX x_len rfl T.n_len bt_len (pax_cons (px_var 0 (pv 0)) pax_nil)) px_int) (pssx_cons (psx_setD (i := 3) sc_l_draw.nd rfl (Or.inl rfl) (px_ix (r := rIx K) ix_seq x_ix (px_var 0 (pv 0)) (px_op op_modN x_mod (px_var 1 (pv 1)) (px_callB (r := rLen K) call_lenX x_len rfl T.n_len bt_len (pax_cons (px_var 0 (pv 0)) pax_nil))) (fun _ _ => rfl))) (pssx_one (psx_if (ptx_cmp (fr := true) (r := rEqX K) (op_eqX hr.units) x_eq (nomark _) (px_op op_modN x_mod (px_ix (r := rIx K) ix_seq x_ix (px_var 0 (pv 0)) px_int (fun _ _ => rfl)) px_int) px_int) (pssx_one (psx_ret (fr := true) (px_op op_modN x_mod (px_op op_modN x_mod (px_op op_shr x_shr (px_op op_fdivB x_fdiv (px_var 3 (pv 3)) px_int) (px_op op_mulB x_mul px_int (px_op op_fdivB x_fdiv (px_var 1 (pv 1)) (px_callB (r := rLen K) call_lenX x_len rfl T.n_len bt_len (pax_cons (px_var 0 (pv 0)) pax_nil))))) (px_op op_pow x_pow px_int px_int)) (px_var 2 (pv 2))))) pssx_nil))) pssx_nil) (pssx_cons (psx_setD (i := 4) sc_l_draw.nd rfl (Or.inl rfl) (px_op op_modN x_mod (px_op op_mulB x_mul (px_op (r := rAddX K) op_addX x_add (px_op op_modN x_mod (px_var 3 (pv 3)) px_int) px_int) (px_op (r := rAddX K) op_addX x_add (px_op (r := rAddX K) op_addX x_add (px_op op_mulB x_mul (px_var 1 (pv 1)) (px_var 1 (pv 1))) (px_var 1 (pv 1))) px_int)) px_int)) (pssx_one (psx_ret (fr := true) (px_op op_modN x_mod (px_op op_fdivB x_fdiv (px_op op_modN x_mod (px_op op_mulB x_mul (px_op op_modN x_mod (px_op op_mulB x_mul (px_var 4 (pv 4)) (px_op (r := rAddX K) op_addX x_add (px_var 4 (pv 4)) px_int)) px_int) px_int) px_int) px_int) (px_var 2 (pv 2))))))))⟩
theorem ok_l_norm (T : Txt K mg ad) : FnOk P w K mg base CX0 1 ad.f_l_norm ad.fd_l_norm ["_law_top", "_law_bottom"] (spF K F_l_norm) := by
  exact T.F_l_norm.okF (k := 0) sc_l_norm (by decide) fun cdv A outer s H E hr => ⟨_, (pssx_cons (psx_setD (i := 2) sc_l_norm.nd rfl (Or.inl rfl) (px_callB call_abs x_abs rfl T.n_abs bt_abs (pax_cons (px_var 0 (pv 0)) pax_nil))) (pssx_cons (psx_setD (i := 3) sc_l_norm.nd rfl (Or.inl rfl) (px_var 1 (pv 1))) (pssx_cons (psx_while (muAbs 3) PassesOwn.never (ptx_cmp (fr := true) op_gt x_gt (nomark _) (px_var 3 (pv 3)) px_int) (pssx_cons (psx_setD (i := 4) sc_l_norm.nd rfl (Or.inl rfl) (px_op op_modN x_mod (px_var 2 (pv 2)) (px_var 3 (pv 3)))) (pssx_cons (psx_setD (i := 2) sc_l_norm.nd rfl (Or.inl rfl) (px_var 3 (pv 3))) (pssx_one (psx_setD (i := 3) sc_l_norm.nd rfl (Or.inl rfl) (px_var 4 (pv 4))))))) (pssx_one (psx_ret (fr := true) (px_tup (pax_cons (px_op op_fdivB x_fdiv (px_var 0 (pv 0)) (px_var 2 (pv 2))) (pax_cons (px_op op_fdivB x_fdiv (px_var 1 (pv 1)) (px_var 2 (pv 2))) pax_nil))))))))⟩
theorem ok_l_sum (T : Txt K mg ad) : FnOk P w K mg base CX0 2 ad.f_l_sum ad.fd_l_sum ["_law_one", "_law_other"] (spF K F_l_sum) := by
  have G_l_norm : FnOk P w K mg base CX0 1 _ _ _ (spF K F_l_norm) := ok_l_norm T
  exact T.F_l_sum.okF (k := 1) sc_l_sum (by decide) fun cdv A outer s H E hr => ⟨_, (pssx_one (psx_ret (fr := true) (px_callK rfl G_l_norm (hr.mono (by omega)) rfl T.m_l_norm T.F_l_norm.kp T.b_l_norm pass0 (pax_cons (px_op (r := rAddX K) op_addX x_add (px_op op_mulB x_mul (px_ix (r := rIx K) ix_seq x_ix (px_var 0 (pv 0)) px_int (fun _ _ => rfl)) (px_ix (r := rIx K) ix_seq x_ix (px_var 1 (pv 1)) px_int (fun _ _ => rfl))) (px_op op_mulB x_mul (px_ix (r := rIx K) ix_seq x_ix (px_var 1 (pv 1)) px_int (fun _ _ => rfl)) (px_ix (r := rIx K) ix_seq x_ix (px_var 0 (pv 0)) px_int (fun _ _ => rfl)))) (pax_cons (px_op op_mulB x_mul (px_ix (r := rIx K) ix_seq x_ix (px_var 0 (pv 0)) px_int (fun _ _ => rfl)) (px_ix (r := rIx K) ix_seq x_ix (px_var 1 (pv 1)) px_int (fun _ _ => rfl))) pax_nil)))))⟩
theorem ok_l_times (T : Txt K mg ad) : FnOk P w K mg base CX0 2 ad.f_l_times ad.fd_l_times ["_law_one", "_law_other"] (spF K F_l_times) := by
  have G_l_norm : FnOk P w K mg base CX0 1 _ _ _ (spF K F_l_norm) := ok_l_norm T
  exact T.F_l_times.okF (k := 1) sc_l_times (by decide) fun cdv A outer s H E hr => ⟨_, (pssx_one (psx_ret (fr := true) (px_callK rfl G_l_norm (hr.mono (by omega)) rfl T.m_l_norm T.F_l_norm.kp T.b_l_norm pass0 (pax_cons (px_op op_mulB x_mul (px_ix (r := rIx K) ix_seq x_ix (px_var 0 (pv 0)) px_int (fun _ _ => rfl)) (px_ix (r := rIx K) ix_seq x_ix (px_var 1 (pv 1)) px_int (fun _ _ => rfl))) (pax_cons (px_op op_mulB x_mul (px_ix (r := rIx K) ix_seq x_ix (px_var 0 (pv 0)) px_int (fun _ _ => rfl)) (px_ix (r := rIx K) ix_seq x_ix (px_var 1 (pv 1)) px_int (fun _ _ => rfl))) pax_nil)))))⟩
theorem ok_l_more (T : Txt K mg ad) : FnOk P w K mg base CX0 3 ad.f_l_more ad.fd_l_more ["_law_one", "_law_other", "_law_by"] (spF K F_l_more) := by
  have G_l_sum : FnOk P w K mg base CX0 2 _ _ _ (spF K F_l_sum) := ok_l_sum T
  have G_l_times : FnOk P w K mg base CX0 2 _ _ _ (spF K F_l_times) := ok_l_times T
  exact T.F_l_more.okF (k := 2) sc_l_more (by decide) fun cdv A outer s H E hr => ⟨_, (pssx_one (psx_ret (fr := true) (px_callTy (r := rTupC K) call_tuple_of x_tuple rfl T.n_tuple bt_tuple (pax_cons (px_comp (bs := ["_law_k"]) (nb := ["_law_one", "_law_other", "_law_by"]) rfl (blk_of rfl) (pix_range1 rfl T.n_range (pax_cons px_int pax_nil)) (gown_name (by decide)) (fun _ _ _ _ _ _ => (pg_name (i := 0) (show List.Nodup (["_law_k", "_law_one", "_law_other", "_law_by"] : List Str) by decide +kernel) rfl (Or.inl rfl) (Or.inr rfl))) tgb_name (fun _ _ _ _ _ _ => pifsx_nil) (fun _ _ _ _ _ _ => (px_callK rfl G_l_sum (hr.mono (by omega)) rfl T.m_l_sum T.F_l_sum.kp T.b_l_sum pass0 (pax_cons (px_ix (r := rIx K) ix_seq x_ix (px_var 1 (pv 1)) (px_var 0 (pv 0)) (fun _ _ => rfl)) (pax_cons (px_callK rfl G_l_times (hr.mono (by omega)) rfl T.m_l_times T.F_l_times.kp T.b_l_times pass0 (pax_cons (px_ix (r := rIx K) ix_seq x_ix (px_var 2 (pv 2)) (px_var 0 (pv 0)) (fun _ _ => rfl)) (pax_cons (px_var 3 (pv 3)) pax_nil))) pax_nil))))) pax_nil))))⟩
theorem ok_l_below (T : Txt K mg ad) : FnOk P w K mg base CX0 1 ad.f_l_below ad.fd_l_below ["_law_one", "_law_other"] (spF K F_l_below) := by
  exact T.F_l_below.okF (k := 0) sc_l_below (by decide) fun cdv A outer s H E hr => ⟨_, (pssx_one (psx_ret (fr := true) (px_cmp op_lt x_lt (nomark _) (px_op op_mulB x_mul (px_ix (r := rIx K) ix_seq x_ix (px_var 0 (pv 0)) px_int (fun _ _ => rfl)) (px_ix (r := rIx K) ix_seq x_ix (px_var 1 (pv 1)) px_int (fun _ _ => rfl))) (px_op op_mulB x_mul (px_ix (r := rIx K) ix_seq x_ix (px_var 1 (pv 1)) px_int (fun _ _ => rfl)) (px_ix (r := rIx K) ix_seq x_ix (px_var 0 (pv 0)) px_int (fun _ _ => rfl))))))⟩
theorem ok_l_cheaper (T : Txt K mg ad) : FnOk P w K mg base CX0 2 ad.f_l_cheaper ad.fd_l_cheaper ["_law_one", "_law_other"] (spF K F_l_cheaper) := by
  have G_l_below : FnOk P w K mg base CX0 1 _ _ _ (spF K F_l_below) := ok_l_below T
  exact T.F_l_cheaper.okF (k := 1) sc_l_cheaper (by decide) fun cdv A outer s H E hr => ⟨_, (pssx_cons (psx_for PassesOwn.never rfl (pix_range1 rfl T.n_range (pax_cons px_int pax_nil)) (pg_name (i := 2) sc_l_cheaper.nd rfl (Or.inl rfl)) tgx_name (pssx_one (psx_if (ptx_cmp (fr := true) (r := rNeX K) (op_neX hr.units) x_ne (nomark _) (px_ix (r := rIx K) ix_seq x_ix (px_var 0 (pv 0)) (px_var 2 (pv 2)) (fun _ _ => rfl)) (px_ix (r := rIx K) ix_seq x_ix (px_var 1 (pv 1)) (px_var 2 (pv 2)) (fun _ _ => rfl))) (pssx_one (psx_ret (fr := true) (px_callK rfl G_l_below (hr.mono (by omega)) rfl T.m_l_below T.F_l_below.kp T.b_l_below pass0 (pax_cons (px_ix (r := rIx K) ix_seq x_ix (px_var 0 (pv 0)) (px_var 2 (pv 2)) (fun _ _ => rfl)) (pax_cons (px_ix (r := rIx K) ix_seq x_ix (px_var 1 (pv 1)) (px_var 2 (pv 2)) (fun _ _ => rfl)) pax_nil))))) pssx_nil))) (pssx_one (psx_ret (fr := true) px_bl)))⟩
theorem ok_l_negative (T : Txt K mg ad) : FnOk P w K mg base CX0 1 ad.f_l_negative ad.fd_l_negative ["_law_one"] (spF K F_l_negative) := by
  exact T.F_l_negative.okF (k := 0) sc_l_negative (by decide) fun cdv A outer s H E hr => ⟨_, (pssx_one (psx_ret (fr := true) (px_tup (pax_cons (px_op op_sub x_sub px_int (px_ix (r := rIx K) ix_seq x_ix (px_var 0 (pv 0)) px_int (fun _ _ => rfl))) (pax_cons (px_ix (r := rIx K) ix_seq x_ix (px_var 0 (pv 0)) px_int (fun _ _ => rfl)) pax_nil)))))⟩
theorem ok_l_number (T : Txt K mg ad) : FnOk P w K mg base CX0 2 ad.f_l_number ad.fd_l_number ["_law_script", "_law_k", "_law_most"] (spF K F_l_number) := by
  have G_l_draw : FnOk P w K mg base CX0 1 _ _ _ (spF K F_l_draw) := ok_l_draw T
  exact T.F_l_number.okF (k := 1) sc_l_number (by decide) fun cdv A outer s H E hr => ⟨_, (pssx_cons (psx_setD (i := 3) sc_l_number.nd rfl (Or.inl rfl) (px_ix (r := rIx K) ix_seq x_ix (px_lst (pax_cons px_int (pax_cons px_int (pax_cons px_int (pax_cons px_int (pax_cons px_int (pax_cons px_int pax_nil))))))) (px_callK rfl G_l_draw (hr.mono (by omega)) rfl T.m_l_draw T.F_l_draw.kp T.b_l_draw pass0 (pax_cons (px_var 0 (pv 0)) (pax_cons px_int (pax_cons px_int pax_nil)))) (fun _ _ => rfl))) (pssx_cons (psx_if (ptx_cmp (fr := true) (r := rEqX K) (op_eqX hr.units) x_eq (nomark _) (px_callK rfl G_l_draw (hr.mono (by omega)) rfl T.m_l_draw T.F_l_draw.kp T.b_l_draw pass0 (pax_cons (px_var 0 (pv 0)) (pax_cons (px_op (r := rAddX K) op_addX x_add (px_var 1 (pv 1)) px_int) (pax_cons px_int pax_nil)))) px_int) (pssx_one (psx_setD (i := 3) sc_l_number.nd rfl (Or.inl rfl) px_int)) pssx_nil) (pssx_one (psx_ret (fr := true) (px_op op_mulB x_mul (px_var 3 (pv 3)) (px_callK rfl G_l_draw (hr.mono (by omega)) rfl T.m_l_draw T.F_l_draw.kp T.b_l_draw pass0 (pax_cons (px_var 0 (pv 0)) (pax_cons (px_var 1 (pv 1)) (pax_cons (px_op (r := rAddX K) op_addX x_add (px_var 2 (pv 2)) px_int) pax_nil)))))))))⟩
theorem ok_l_share (T : Txt K mg ad) : FnOk P w K mg base CX0 2 ad.f_l_share ad.fd_l_share ["_law_script", "_law_k"] (spF K F_l_share) := by
  have G_l_draw : FnOk P w K mg base CX0 1 _ _ _ (spF K F_l_draw) := ok_l_draw T
  have G_l_norm : FnOk P w K mg base CX0 1 _ _ _ (spF K F_l_norm) := ok_l_norm T
  exact T.F_l_share.okF (k := 1) sc_l_share (by decide) fun cdv A outer s H E hr => ⟨_, (pssx_cons (psx_set (i := 2) sc_l_share.nd rfl (Or.inl rfl) (px_lst (pax_cons (px_tup (pax_cons px_int (pax_cons px_int pax_nil))) (pax_cons (px_tup (pax_cons px_int (pax_cons px_int pax_nil))) (pax_cons (px_tup (pax_cons px_int (pax_cons px_int pax_nil))) (pax_cons (px_tup (pax_cons px_int (pax_cons px_int pax_nil))) pax_nil)))))) (pssx_cons (psx_setD (i := 3) sc_l_share.nd rfl (Or.inl rfl) (px_op (r := rAddX K) op_addX x_add px_int (px_callK rfl G_l_draw (hr.mono (by omega)) rfl T.m_l_draw T.F_l_draw.kp T.b_l_draw pass0 (pax_cons (px_var 0 (pv 0)) (pax_cons (px_op (r := rAddX K) op_addX x_add (px_var 1 (pv 1)) px_int) (pax_cons px_int pax_nil)))))) (pssx_cons (psx_app 2 (pv 2) (px_callK rfl G_l_norm (hr.mono (by omega)) rfl T.m_l_norm T.F_l_norm.kp T.b_l_norm pass0 (pax_cons (px_op (r := rAddX K) op_addX x_add px_int (px_callK rfl G_l_draw (hr.mono (by omega)) rfl T.m_l_draw T.F_l_draw.kp T.b_l_draw pass0 (pax_cons (px_var 0 (pv 0)) (pax_cons (px_op (r := rAddX K) op_addX x_add (px_var 1 (pv 1)) px_int) (pax_cons (px_var 3 (pv 3)) pax_nil))))) (pax_cons (px_var 3 (pv 3)) pax_nil)))) (pssx_one (psx_ret (fr := true) (px_ixO 2 (pv 2) (px_callK rfl G_l_draw (hr.mono (by omega)) rfl T.m_l_draw T.F_l_draw.kp T.b_l_draw pass0 (pax_cons (px_var 0 (pv 0)) (pax_cons (px_var 1 (pv 1)) (pax_cons px_int pax_nil))))))))))⟩
theorem ok_l_house (T : Txt K mg ad) : FnOk P w K mg base CX0 3 ad.f_l_house ad.fd_l_house ["_law_script"] (spF K F_l_house) := by
  have G_l_draw : FnOk P w K mg base CX0 1 _ _ _ (spF K F_l_draw) := ok_l_draw T
  have G_l_number : FnOk P w K mg base CX0 2 _ _ _ (spF K F_l_number) := ok_l_number T
  have G_l_share : FnOk P w K mg base CX0 2 _ _ _ (spF K F_l_share) := ok_l_share T
  exact T.F_l_house.okF (k := 2) sc_l_house (by decide) fun cdv A outer s H E hr => ⟨_, (pssx_cons (psx_setD (i := 1) sc_l_house.nd rfl (Or.inl rfl) (px_ix (r := rIx K) ix_seq x_ix (px_lst (pax_cons px_int (pax_cons px_int (pax_cons px_int (pax_cons px_int (pax_cons px_int (pax_cons px_int (pax_cons px_int (pax_cons px_int pax_nil))))))))) (px_callK rfl G_l_draw (hr.mono (by omega)) rfl T.m_l_draw T.F_l_draw.kp T.b_l_draw pass0 (pax_cons (px_var 0 (pv 0)) (pax_cons px_int (pax_cons px_int pax_nil)))) (fun _ _ => rfl))) (pssx_cons (psx_set (i := 2) sc_l_house.nd rfl (Or.inl rfl) (px_lst pax_nil)) (pssx_cons (psx_for PassesOwn.never rfl (pix_range1 rfl T.n_range (pax_cons (px_var 1 (pv 1)) pax_nil)) (pg_name (i := 3) sc_l_house.nd rfl (Or.inl rfl)) tgx_name (pssx_cons (psx_setD (i := 4) sc_l_house.nd rfl (Or.inl rfl) (px_op (r := rAddX K) op_addX x_add px_int (px_op op_mulB x_mul px_int (px_var 3 (pv 3))))) (pssx_cons (psx_setD (i := 5) sc_l_house.nd rfl (Or.inl rfl) px_non) (pssx_cons (psx_if (ptx_cmp (fr := true) op_gt x_gt (nomark _) (px_callK rfl G_l_draw (hr.mono (by omega)) rfl T.m_l_draw T.F_l_draw.kp T.b_l_draw pass0 (pax_cons (px_var 0 (pv 0)) (pax_cons (px_var 4 (pv 4)) (pax_cons px_int pax_nil)))) px_int) (pssx_cons (psx_setD (i := 6) sc_l_house.nd rfl (Or.inl rfl) (px_op op_sub x_sub (px_callK rfl G_l_draw (hr.mono (by omega)) rfl T.m_l_draw T.F_l_draw.kp T.b_l_draw pass0 (pax_cons (px_var 0 (pv 0)) (pax_cons (px_op (r := rAddX K) op_addX x_add (px_var 4 (pv 4)) px_int) (pax_cons px_int pax_nil)))) px_int)) (pssx_cons (psx_setD (i := 7) sc_l_house.nd rfl (Or.inl rfl) (px_op op_sub x_sub (px_callK rfl G_l_draw (hr.mono (by omega)) rfl T.m_l_draw T.F_l_draw.kp T.b_l_draw pass0 (pax_cons (px_var 0 (pv 0)) (pax_cons (px_op (r := rAddX K) op_addX x_add (px_var 4 (pv 4)) px_int) (pax_cons px_int pax_nil)))) px_int)) (pssx_cons (psx_if (ptx_cmp (fr := true) (r := rEqX K) (op_eqX hr.units) x_eq (nomark _) (px_callK rfl G_l_draw (hr.mono (by omega)) rfl T.m_l_draw T.F_l_draw.kp T.b_l_draw pass0 (pax_cons (px_var 0 (pv 0)) (pax_cons (px_op (r := rAddX K) op_addX x_add (px_var 4 (pv 4)) px_int) (pax_cons px_int pax_nil)))) px_int) (pssx_one (psx_setD (i := 6) sc_l_house.nd rfl (Or.inl rfl) (px_op op_sub x_sub (px_callK rfl G_l_draw (hr.mono (by omega)) rfl T.m_l_draw T.F_l_draw.kp T.b_l_draw pass0 (pax_cons (px_var 0 (pv 0)) (pax_cons (px_op (r := rAddX K) op_addX x_add (px_var 4 (pv 4)) px_int) (pax_cons (px_op (r := rAddX K) op_addX x_add (px_op op_mulB x_mul px_int (px_op op_pow x_pow px_int px_int)) px_int) pax_nil)))) (px_op op_pow x_pow px_int px_int)))) pssx_nil) (pssx_one (psx_setD (i := 5) sc_l_house.nd rfl (Or.inl rfl) (px_tup (pax_cons (px_var 6 (pv 6)) (pax_cons (px_callK rfl G_l_number (hr.mono (by omega)) rfl T.m_l_number T.F_l_number.kp T.b_l_number pass0 (pax_cons (px_var 0 (pv 0)) (pax_cons (px_op (r := rAddX K) op_addX x_add (px_var 4 (pv 4)) px_int) (pax_cons px_int pax_nil)))) (pax_cons (px_var 7 (pv 7)) (pax_cons (px_callK rfl G_l_number (hr.mono (by omega)) rfl T.m_l_number T.F_l_number.kp T.b_l_number pass0 (pax_cons (px_var 0 (pv 0)) (pax_cons (px_op (r := rAddX K) op_addX x_add (px_var 4 (pv 4)) px_int) (pax_cons px_int pax_nil)))) pax_nil)))))))))) pssx_nil) (pssx_one (psx_app 2 (pv 2) (px_tup (pax_cons (px_callK rfl G_l_number (hr.mono (by omega)) rfl T.m_l_number T.F_l_number.kp T.b_l_number pass0 (pax_cons (px_var 0 (pv 0)) (pax_cons (px_op (r := rAddX K) op_addX x_add (px_var 4 (pv 4)) px_int) (pax_cons px_int pax_nil)))) (pax_cons (px_callK rfl G_l_number (hr.mono (by omega)) rfl T.m_l_number T.F_l_number.kp T.b_l_number pass0 (pax_cons (px_var 0 (pv 0)) (pax_cons (px_op (r := rAddX K) op_addX x_add (px_var 4 (pv 4)) px_int) (pax_cons px_int pax_nil)))) (pax_cons (px_var 5 (pv 5)) pax_nil)))))))))) (pssx_cons (psx_setD (i := 8) sc_l_house.nd rfl (Or.inl rfl) (px_callK rfl G_l_number (hr.mono (by omega)) rfl T.m_l_number T.F_l_number.kp T.b_l_number pass0 (pax_cons (px_var 0 (pv 0)) (pax_cons px_int (pax_cons px_int pax_nil))))) (pssx_cons (psx_setD (i := 9) sc_l_house.nd rfl (Or.inl rfl) (px_tup (pax_cons (px_var 8 (pv 8)) (pax_cons (px_callK rfl G_l_draw (hr.mono (by omega)) rfl T.m_l_draw T.F_l_draw.kp T.b_l_draw pass0 (pax_cons (px_var 0 (pv 0)) (pax_cons px_int (pax_cons (px_op (r := rAddX K) op_addX x_add (px_var 8 (pv 8)) px_int) pax_nil)))) (pax_cons (px_callK rfl G_l_number (hr.mono (by omega)) rfl T.m_l_number T.F_l_number.kp T.b_l_number pass0 (pax_cons (px_var 0 (pv 0)) (pax_cons px_int (pax_cons px_int pax_nil)))) (pax_cons (px_callK rfl G_l_number (hr.mono (by omega)) rfl T.m_l_number T.F_l_number.kp T.b_l_number pass0 (pax_cons (px_var 0 (pv 0)) (pax_cons px_int (pax_cons px_int pax_nil)))) pax_nil)))))) (pssx_cons (psx_setD (i := 9) sc_l_house.nd rfl (Or.inl rfl) (px_op (r := rAddX K) op_addX x_add (px_var 9 (pv 9)) (px_tup (pax_cons (px_callK rfl G_l_share (hr.mono (by omega)) rfl T.m_l_share T.F_l_share.kp T.b_l_share pass0 (pax_cons (px_var 0 (pv 0)) (pax_cons px_int pax_nil))) (pax_cons (px_callK rfl G_l_share (hr.mono (by omega)) rfl T.m_l_share T.F_l_share.kp T.b_l_share pass0 (pax_cons (px_var 0 (pv 0)) (pax_cons px_int pax_nil))) (pax_cons (px_callK rfl G_l_draw (hr.mono (by omega)) rfl T.m_l_draw T.F_l_draw.kp T.b_l_draw pass0 (pax_cons (px_var 0 (pv 0)) (pax_cons px_int (pax_cons px_int pax_nil)))) pax_nil)))))) (pssx_cons (psx_set (i := 10) sc_l_house.nd rfl (Or.inl rfl) (px_lst pax_nil)) (pssx_cons (psx_for PassesOwn.never rfl (pix_range1 rfl T.n_range (pax_cons (px_ix (r := rIx K) ix_seq x_ix (px_lst (pax_cons px_int (pax_cons px_int (pax_cons px_int (pax_cons px_int (pax_cons px_int (pax_cons px_int pax_nil))))))) (px_callK rfl G_l_draw (hr.mono (by omega)) rfl T.m_l_draw T.F_l_draw.kp T.b_l_draw pass0 (pax_cons (px_var 0 (pv 0)) (pax_cons px_int (pax_cons px_int pax_nil)))) (fun _ _ => rfl)) pax_nil)) (pg_name (i := 11) sc_l_house.nd rfl (Or.inl rfl)) tgx_name (pssx_cons (psx_setD (i := 4) sc_l_house.nd rfl (Or.inl rfl) (px_op (r := rAddX K) op_addX x_add px_int (px_op op_mulB x_mul px_int (px_var 11 (pv 11))))) (pssx_cons (psx_setD (i := 12) sc_l_house.nd rfl (Or.inl rfl) (px_callK rfl G_l_draw (hr.mono (by omega)) rfl T.m_l_draw T.F_l_draw.kp T.b_l_draw pass0 (pax_cons (px_var 0 (pv 0)) (pax_cons (px_var 4 (pv 4)) (pax_cons (px_var 1 (pv 1)) pax_nil))))) (pssx_cons (psx_setD (i := 13) sc_l_house.nd rfl (Or.inl rfl) (px_op (r := rAddX K) op_addX x_add (px_var 12 (pv 12)) (px_callK rfl G_l_draw (hr.mono (by omega)) rfl T.m_l_draw T.F_l_draw.kp T.b_l_draw pass0 (pax_cons (px_var 0 (pv 0)) (pax_cons (px_op (r := rAddX K) op_addX x_add (px_var 4 (pv 4)) px_int) (pax_cons (px_op op_sub x_sub (px_var 1 (pv 1)) (px_var 12 (pv 12))) pax_nil)))))) (pssx_one (psx_app 10 (pv 10) (px_tup (pax_cons (px_op (r := rAddX K) op_addX x_add px_str (px_ix (r := rIx K) ix_seq x_ix px_str (px_var 11 (pv 11)) (fun _ _ => rfl))) (pax_cons (px_callK rfl G_l_number (hr.mono (by omega)) rfl T.m_l_number T.F_l_number.kp T.b_l_number pass0 (pax_cons (px_var 0 (pv 0)) (pax_cons (px_op (r := rAddX K) op_addX x_add (px_var 4 (pv 4)) px_int) (pax_cons px_int pax_nil)))) (pax_cons (px_var 12 (pv 12)) (pax_cons (px_var 13 (pv 13)) (pax_cons (px_callK rfl G_l_number (hr.mono (by omega)) rfl T.m_l_number T.F_l_number.kp T.b_l_number pass0 (pax_cons (px_var 0 (pv 0)) (pax_cons (px_op (r := rAddX K) op_addX x_add (px_var 4 (pv 4)) px_int) (pax_cons px_int pax_nil)))) pax_nil)))))))))))) (pssx_one (psx_ret (fr := false) (px_frz (px_tup (pax_cons (px_callTy (r := rTupC K) call_tuple_of x_tuple rfl T.n_tuple bt_tuple (pax_cons (px_var 2 (pv 2)) pax_nil)) (pax_cons (px_var 9 (pv 9)) (pax_cons (px_callTy (r := rTupC K) call_tuple_of x_tuple rfl T.n_tuple bt_tuple (pax_cons (px_var 10 (pv 10)) pax_nil)) pax_nil)))))))))))))))⟩
theorem ok_l_line (T : Txt K mg ad) : FnOk P w K mg base CX0 1 ad.f_l_line ad.fd_l_line ["_law_hour"] (spF K F_l_line) := by
  exact T.F_l_line.okF (k := 0) sc_l_line (by decide) fun cdv A outer s H E hr => ⟨_, (pssx_cons (psx_if (ptx_cmp (fr := true) op_isN x_is (nomark _) (px_ix (r := rIx K) ix_seq x_ix (px_var 0 (pv 0)) px_int (fun _ _ => rfl)) px_non) (pssx_one (psx_ret (fr := true) (px_tup (pax_cons px_int (pax_cons px_int (pax_cons px_int (pax_cons px_int pax_nil))))))) pssx_nil) (pssx_one (psx_ret (fr := true) (px_ix (r := rIx K) ix_seq x_ix (px_var 0 (pv 0)) px_int (fun _ _ => rfl)))))⟩
theorem ok_l_part (T : Txt K mg ad) : FnOk P w K mg base CX0 2 ad.f_l_part ad.fd_l_part ["_law_script", "_law_k"] (spF K F_l_part) := by
  have G_l_draw : FnOk P w K mg base CX0 1 _ _ _ (spF K F_l_draw) := ok_l_draw T
  exact T.F_l_part.okF (k := 1) sc_l_part (by decide) fun cdv A outer s H E hr => ⟨_, (pssx_one (psx_ret (fr := true) (px_ix (r := rIx K) ix_seq x_ix (px_lst (pax_cons (px_tup (pax_cons px_int (pax_cons px_int pax_nil))) (pax_cons (px_tup (pax_cons px_int (pax_cons px_int pax_nil))) (pax_cons (px_tup (pax_cons px_int (pax_cons px_int pax_nil))) (pax_cons (px_tup (pax_cons px_int (pax_cons px_int pax_nil))) (pax_cons (px_tup (pax_cons px_int (pax_cons px_int pax_nil))) (pax_cons (px_tup (pax_cons px_int (pax_cons px_int pax_nil))) pax_nil))))))) (px_callK rfl G_l_draw (hr.mono (by omega)) rfl T.m_l_draw T.F_l_draw.kp T.b_l_draw pass0 (pax_cons (px_var 0 (pv 0)) (pax_cons (px_var 1 (pv 1)) (pax_cons px_int pax_nil)))) (fun _ _ => rfl))))⟩
theorem ok_l_least (T : Txt K mg ad) : FnOk P w K mg base CX0 2 ad.f_l_least ad.fd_l_least ["_law_some"] (spF K F_l_least) := by
  have G_l_below : FnOk P w K mg base CX0 1 _ _ _ (spF K F_l_below) := ok_l_below T
  exact T.F_l_least.okF (k := 1) sc_l_least (by decide) fun cdv A outer s H E hr => ⟨_, (pssx_cons (psx_setD (i := 1) sc_l_least.nd rfl (Or.inl rfl) (px_ix (r := rIx K) ix_seq x_ix (px_var 0 (pv 0)) px_int (fun _ _ => rfl))) (pssx_cons (psx_for PassesOwn.never rfl (pix_seq (px_var 0 (pv 0))) (pg_name (i := 2) sc_l_least.nd rfl (Or.inl rfl)) tgx_name (pssx_one (psx_if (ptx_val (fr := true) (px_callK rfl G_l_below (hr.mono (by omega)) rfl T.m_l_below T.F_l_below.kp T.b_l_below pass0 (pax_cons (px_var 2 (pv 2)) (pax_cons (px_var 1 (pv 1)) pax_nil)))) (pssx_one (psx_setD (i := 1) sc_l_least.nd rfl (Or.inl rfl) (px_var 2 (pv 2)))) pssx_nil))) (pssx_one (psx_retV 1 (pv 1)))))⟩
theorem ok_l_worked (T : Txt K mg ad) : FnOk P w K mg base CX0 3 ad.f_l_worked ad.fd_l_worked ["_law_script", "_law_house_here", "_law_left", "_law_rest", "_law_t", "_law_k"] (spIO K 2 F_l_worked) := by
  have G_l_least : FnOk P w K mg base CX0 2 _ _ _ (spF K F_l_least) := ok_l_least T
  have G_l_negative : FnOk P w K mg base CX0 1 _ _ _ (spF K F_l_negative) := ok_l_negative T
  have G_l_part : FnOk P w K mg base CX0 2 _ _ _ (spF K F_l_part) := ok_l_part T
  have G_l_sum : FnOk P w K mg base CX0 2 _ _ _ (spF K F_l_sum) := ok_l_sum T
  have G_l_times : FnOk P w K mg base CX0 2 _ _ _ (spF K F_l_times) := ok_l_times T
  exact T.F_l_worked.okIO (k := 2) sc_l_worked (by decide) fun cdv A outer s H E hr => ⟨_, (pio_cons (psi_set (j := 6) sc_l_worked.nd rfl (Or.inl rfl) (px_lst pax_nil)) (pio_cons (psi_for PassesOwn.never rfl (pix_range1 rfl T.n_range (pax_cons (px_callB (r := rLen K) call_lenX x_len rfl T.n_len bt_len (pax_cons (px_ix (r := rIx K) ix_seq x_ix (px_var 1 (pv 1)) px_int (fun _ _ => rfl)) pax_nil)) pax_nil)) (pg_name (i := 7) sc_l_worked.nd rfl (Or.inl rfl)) (pssi_cons (psi_setD (j := 8) sc_l_worked.nd rfl (Or.inl rfl) (px_ix (r := rIx K) ix_seq x_ix (px_ix (r := rIx K) ix_seq x_ix (px_var 1 (pv 1)) px_int (fun _ _ => rfl)) (px_var 7 (pv 7)) (fun _ _ => rfl))) (pssi_cons (psi_setD (j := 9) sc_l_worked.nd rfl (Or.inl rfl) (px_tup (pax_cons px_int (pax_cons px_int pax_nil)))) (pssi_cons (psi_if (PWX.pt (pwx_and (ptx_cmp (fr := true) op_le x_le (nomark _) (px_ix (r := rIx K) ix_seq x_ix (px_var 8 (pv 8)) px_int (fun _ _ => rfl)) (px_var 4 (pv 4))) (pwx_and1 (ptx_cmp (fr := true) op_le x_le (nomark _) (px_var 4 (pv 4)) (px_ix (r := rIx K) ix_seq x_ix (px_var 8 (pv 8)) px_int (fun _ _ => rfl)))))) (pssi_one (psi_setD (j := 9) sc_l_worked.nd rfl (Or.inl rfl) (px_callK rfl G_l_times (hr.mono (by omega)) rfl T.m_l_times T.F_l_times.kp T.b_l_times pass0 (pax_cons (px_callK rfl G_l_least (hr.mono (by omega)) rfl T.m_l_least T.F_l_least.kp T.b_l_least pass0 (pax_cons (px_lst (pax_cons (px_tup (pax_cons (px_ix (r := rIx K) ix_seq x_ix (px_var 8 (pv 8)) px_int (fun _ _ => rfl)) (pax_cons px_int pax_nil))) (pax_cons (px_ixO 2 (pv 2) (px_var 7 (pv 7))) (pax_cons (px_var 3 (pv 3)) pax_nil)))) pax_nil)) (pax_cons (px_callK rfl G_l_part (hr.mono (by omega)) rfl T.m_l_part T.F_l_part.kp T.b_l_part pass0 (pax_cons (px_var 0 (pv 0)) (pax_cons (px_op (r := rAddX K) op_addX x_add (px_var 5 (pv 5)) (px_var 7 (pv 7))) pax_nil))) pax_nil))))) pssi_nil) (pssi_cons (psi_setI 2 (pv 2) (px_var 7 (pv 7)) (px_callK rfl G_l_sum (hr.mono (by omega)) rfl T.m_l_sum T.F_l_sum.kp T.b_l_sum pass0 (pax_cons (px_ixO 2 (pv 2) (px_var 7 (pv 7))) (pax_cons (px_callK rfl G_l_negative (hr.mono (by omega)) rfl T.m_l_negative T.F_l_negative.kp T.b_l_negative pass0 (pax_cons (px_var 9 (pv 9)) pax_nil)) pax_nil)))) (pssi_cons (psi_setD (j := 3) sc_l_worked.nd rfl (Or.inl rfl) (px_callK rfl G_l_sum (hr.mono (by omega)) rfl T.m_l_sum T.F_l_sum.kp T.b_l_sum pass0 (pax_cons (px_var 3 (pv 3)) (pax_cons (px_callK rfl G_l_negative (hr.mono (by omega)) rfl T.m_l_negative T.F_l_negative.kp T.b_l_negative pass0 (pax_cons (px_var 9 (pv 9)) pax_nil)) pax_nil)))) (pssi_one (psi_app 6 (pv 6) (px_var 9 (pv 9)))))))))) (pio_frz 6 (pio_ret (px_tup (pax_cons (px_callTy (r := rTupC K) call_tuple_of x_tuple rfl T.n_tuple bt_tuple (pax_cons (px_var 6 (pv 6)) pax_nil)) (pax_cons (px_var 3 (pv 3)) pax_nil)))))))⟩
theorem ok_l_hour_done (T : Txt K mg ad) : FnOk P w K mg base CX0 4 ad.f_l_hour_done ad.fd_l_hour_done ["_law_script", "_law_house_here", "_law_t", "_law_level", "_law_left", "_law_k"] (spIO K 4 F_l_hour_done) := by
  have G_l_draw : FnOk P w K mg base CX0 1 _ _ _ (spF K F_l_draw) := ok_l_draw T
  have G_l_least : FnOk P w K mg base CX0 2 _ _ _ (spF K F_l_least) := ok_l_least T
  have G_l_line : FnOk P w K mg base CX0 1 _ _ _ (spF K F_l_line) := ok_l_line T
  have G_l_negative : FnOk P w K mg base CX0 1 _ _ _ (spF K F_l_negative) := ok_l_negative T
  have G_l_part : FnOk P w K mg base CX0 2 _ _ _ (spF K F_l_part) := ok_l_part T
  have G_l_sum : FnOk P w K mg base CX0 2 _ _ _ (spF K F_l_sum) := ok_l_sum T
  have G_l_times : FnOk P w K mg base CX0 2 _ _ _ (spF K F_l_times) := ok_l_times T
  have G_l_worked : FnOk P w K mg base CX0 3 _ _ _ (spIO K 2 F_l_worked) := ok_l_worked T
  exact T.F_l_hour_done.okIO (k := 3) sc_l_hour_done (by decide) fun cdv A outer s H E hr => ⟨_, (pio_cons (psi_setD (j := 6) sc_l_hour_done.nd rfl (Or.inl rfl) (px_ix (r := rIx K) ix_seq x_ix (px_ix (r := rIx K) ix_seq x_ix (px_var 1 (pv 1)) px_int (fun _ _ => rfl)) (px_var 2 (pv 2)) (fun _ _ => rfl))) (pio_cons (psi_setD (j := 7) sc_l_hour_done.nd rfl (Or.inl rfl) (px_ix (r := rIx K) ix_seq x_ix (px_var 1 (pv 1)) px_int (fun _ _ => rfl))) (pio_cons (psi_setD (j := 8) sc_l_hour_done.nd rfl (Or.inl rfl) (px_callK rfl G_l_line (hr.mono (by omega)) rfl T.m_l_line T.F_l_line.kp T.b_l_line pass0 (pax_cons (px_var 6 (pv 6)) pax_nil))) (pio_cons (psi_setD (j := 9) sc_l_hour_done.nd rfl (Or.inl rfl) (px_callK rfl G_l_times (hr.mono (by omega)) rfl T.m_l_times T.F_l_times.kp T.b_l_times pass0 (pax_cons (px_tup (pax_cons (px_ix (r := rIx K) ix_seq x_ix (px_var 8 (pv 8)) px_int (fun _ _ => rfl)) (pax_cons px_int pax_nil))) (pax_cons (px_callK rfl G_l_part (hr.mono (by omega)) rfl T.m_l_part T.F_l_part.kp T.b_l_part pass0 (pax_cons (px_var 0 (pv 0)) (pax_cons (px_var 5 (pv 5)) pax_nil))) pax_nil)))) (pio_cons (psi_setD (j := 10) sc_l_hour_done.nd rfl (Or.inl rfl) (px_callK rfl G_l_times (hr.mono (by omega)) rfl T.m_l_times T.F_l_times.kp T.b_l_times pass0 (pax_cons (px_callK rfl G_l_least (hr.mono (by omega)) rfl T.m_l_least T.F_l_least.kp T.b_l_least pass0 (pax_cons (px_lst (pax_cons (px_tup (pax_cons (px_ix (r := rIx K) ix_seq x_ix (px_var 7 (pv 7)) px_int (fun _ _ => rfl)) (pax_cons px_int pax_nil))) (pax_cons (px_var 3 (pv 3)) pax_nil))) pax_nil)) (pax_cons (px_callK rfl G_l_part (hr.mono (by omega)) rfl T.m_l_part T.F_l_part.kp T.b_l_part pass0 (pax_cons (px_var 0 (pv 0)) (pax_cons (px_op (r := rAddX K) op_addX x_add (px_var 5 (pv 5)) px_int) pax_nil))) pax_nil)))) (pio_cons (psi_setD (j := 11) sc_l_hour_done.nd rfl (Or.inl rfl) (px_callK rfl G_l_sum (hr.mono (by omega)) rfl T.m_l_sum T.F_l_sum.kp T.b_l_sum pass0 (pax_cons (px_tup (pax_cons (px_op op_sub x_sub (px_ix (r := rIx K) ix_seq x_ix (px_var 6 (pv 6)) px_int (fun _ _ => rfl)) (px_ix (r := rIx K) ix_seq x_ix (px_var 6 (pv 6)) px_int (fun _ _ => rfl))) (pax_cons px_int pax_nil))) (pax_cons (px_callK rfl G_l_sum (hr.mono (by omega)) rfl T.m_l_sum T.F_l_sum.kp T.b_l_sum pass0 (pax_cons (px_var 9 (pv 9)) (pax_cons (px_callK rfl G_l_times (hr.mono (by omega)) rfl T.m_l_times T.F_l_times.kp T.b_l_times pass0 (pax_cons (px_ix (r := rIx K) ix_seq x_ix (px_var 7 (pv 7)) px_int (fun _ _ => rfl)) (pax_cons (px_var 10 (pv 10)) pax_nil))) pax_nil))) pax_nil)))) (pio_cons (psi_setD (j := 12) sc_l_hour_done.nd rfl (Or.inl rfl) (px_tup (pax_cons px_int (pax_cons px_int pax_nil)))) (pio_cons (psi_if (ptx_cmp (fr := true) op_lt x_lt (nomark _) (px_ix (r := rIx K) ix_seq x_ix (px_var 11 (pv 11)) px_int (fun _ _ => rfl)) px_int) (pssi_one (psi_setD (j := 12) sc_l_hour_done.nd rfl (Or.inl rfl) (px_callK rfl G_l_negative (hr.mono (by omega)) rfl T.m_l_negative T.F_l_negative.kp T.b_l_negative pass0 (pax_cons (px_var 11 (pv 11)) pax_nil)))) pssi_nil) (pio_cons (psi_setD (j := 13) sc_l_hour_done.nd rfl (Or.inl rfl) (px_callK rfl G_l_sum (hr.mono (by omega)) rfl T.m_l_sum T.F_l_sum.kp T.b_l_sum pass0 (pax_cons (px_tup (pax_cons (px_ix (r := rIx K) ix_seq x_ix (px_var 6 (pv 6)) px_int (fun _ _ => rfl)) (pax_cons px_int pax_nil))) (pax_cons (px_callK rfl G_l_negative (hr.mono (by omega)) rfl T.m_l_negative T.F_l_negative.kp T.b_l_negative pass0 (pax_cons (px_var 12 (pv 12)) pax_nil)) pax_nil)))) (pio_cons (psi_if (ptx_cmp (fr := true) (r := rEqX K) (op_eqX hr.units) x_eq (nomark _) (px_callK rfl G_l_draw (hr.mono (by omega)) rfl T.m_l_draw T.F_l_draw.kp T.b_l_draw pass0 (pax_cons (px_var 0 (pv 0)) (pax_cons (px_op (r := rAddX K) op_addX x_add (px_var 5 (pv 5)) px_int) (pax_cons px_int pax_nil)))) px_int) (pssi_one (psi_setD (j := 12) sc_l_hour_done.nd rfl (Or.inl rfl) (px_callK rfl G_l_sum (hr.mono (by omega)) rfl T.m_l_sum T.F_l_sum.kp T.b_l_sum pass0 (pax_cons (px_var 12 (pv 12)) (pax_cons (px_callK rfl G_l_times (hr.mono (by omega)) rfl T.m_l_times T.F_l_times.kp T.b_l_times pass0 (pax_cons (px_var 13 (pv 13)) (pax_cons (px_callK rfl G_l_part (hr.mono (by omega)) rfl T.m_l_part T.F_l_part.kp T.b_l_part pass0 (pax_cons (px_var 0 (pv 0)) (pax_cons (px_op (r := rAddX K) op_addX x_add (px_var 5 (pv 5)) px_int) pax_nil))) pax_nil))) pax_nil))))) pssi_nil) (pio_cons (psi_setD (j := 11) sc_l_hour_done.nd rfl (Or.inl rfl) (px_callK rfl G_l_sum (hr.mono (by omega)) rfl T.m_l_sum T.F_l_sum.kp T.b_l_sum pass0 (pax_cons (px_var 11 (pv 11)) (pax_cons (px_var 12 (pv 12)) pax_nil)))) (pio_cons (psi_callIOK (j := 14) (p := 4) rfl G_l_worked (hr.mono (by omega)) rfl T.m_l_worked T.F_l_worked.kp T.b_l_worked pass0 (pao_later (px_var 0 (pv 0)) (pao_later (px_var 1 (pv 1)) (pao_here 4 (pv 4) (pax_cons (px_var 11 (pv 11)) (pax_cons (px_var 2 (pv 2)) (pax_cons (px_op (r := rAddX K) op_addX x_add (px_var 5 (pv 5)) px_int) pax_nil)))))) sc_l_hour_done.nd rfl (Or.inl rfl)) (pio_cons (psi_setD (j := 11) sc_l_hour_done.nd rfl (Or.inl rfl) (px_ix (r := rIx K) ix_seq x_ix (px_var 14 (pv 14)) px_int (fun _ _ => rfl))) (pio_cons (psi_setD (j := 15) sc_l_hour_done.nd rfl (Or.inl rfl) (px_callK rfl G_l_sum (hr.mono (by omega)) rfl T.m_l_sum T.F_l_sum.kp T.b_l_sum pass0 (pax_cons (px_tup (pax_cons (px_ix (r := rIx K) ix_seq x_ix (px_var 7 (pv 7)) px_int (fun _ _ => rfl)) (pax_cons px_int pax_nil))) (pax_cons (px_callK rfl G_l_sum (hr.mono (by omega)) rfl T.m_l_sum T.F_l_sum.kp T.b_l_sum pass0 (pax_cons (px_var 10 (pv 10)) (pax_cons (px_callK rfl G_l_negative (hr.mono (by omega)) rfl T.m_l_negative T.F_l_negative.kp T.b_l_negative pass0 (pax_cons (px_var 3 (pv 3)) pax_nil)) pax_nil))) pax_nil)))) (pio_cons (psi_setD (j := 15) sc_l_hour_done.nd rfl (Or.inl rfl) (px_callK rfl G_l_times (hr.mono (by omega)) rfl T.m_l_times T.F_l_times.kp T.b_l_times pass0 (pax_cons (px_var 15 (pv 15)) (pax_cons (px_tup (pax_cons (px_ix (r := rIx K) ix_seq x_ix (px_ix (r := rIx K) ix_seq x_ix (px_var 7 (pv 7)) px_int (fun _ _ => rfl)) px_int (fun _ _ => rfl)) (pax_cons (px_ix (r := rIx K) ix_seq x_ix (px_ix (r := rIx K) ix_seq x_ix (px_var 7 (pv 7)) px_int (fun _ _ => rfl)) px_int (fun _ _ => rfl)) pax_nil))) pax_nil)))) (pio_cons (psi_setD (j := 16) sc_l_hour_done.nd rfl (Or.inl rfl) (px_callK rfl G_l_times (hr.mono (by omega)) rfl T.m_l_times T.F_l_times.kp T.b_l_times pass0 (pax_cons (px_callK rfl G_l_least (hr.mono (by omega)) rfl T.m_l_least T.F_l_least.kp T.b_l_least pass0 (pax_cons (px_lst (pax_cons (px_tup (pax_cons (px_ix (r := rIx K) ix_seq x_ix (px_var 7 (pv 7)) px_int (fun _ _ => rfl)) (pax_cons px_int pax_nil))) (pax_cons (px_var 15 (pv 15)) (pax_cons (px_var 11 (pv 11)) pax_nil)))) pax_nil)) (pax_cons (px_callK rfl G_l_part (hr.mono (by omega)) rfl T.m_l_part T.F_l_part.kp T.b_l_part pass0 (pax_cons (px_var 0 (pv 0)) (pax_cons (px_op (r := rAddX K) op_addX x_add (px_var 5 (pv 5)) px_int) pax_nil))) pax_nil)))) (pio_cons (psi_setD (j := 11) sc_l_hour_done.nd rfl (Or.inl rfl) (px_callK rfl G_l_sum (hr.mono (by omega)) rfl T.m_l_sum T.F_l_sum.kp T.b_l_sum pass0 (pax_cons (px_var 11 (pv 11)) (pax_cons (px_callK rfl G_l_negative (hr.mono (by omega)) rfl T.m_l_negative T.F_l_negative.kp T.b_l_negative pass0 (pax_cons (px_var 16 (pv 16)) pax_nil)) pax_nil)))) (pio_cons (psi_setD (j := 17) sc_l_hour_done.nd rfl (Or.inl rfl) (px_callK rfl G_l_times (hr.mono (by omega)) rfl T.m_l_times T.F_l_times.kp T.b_l_times pass0 (pax_cons (px_callK rfl G_l_least (hr.mono (by omega)) rfl T.m_l_least T.F_l_least.kp T.b_l_least pass0 (pax_cons (px_lst (pax_cons (px_tup (pax_cons (px_ix (r := rIx K) ix_seq x_ix (px_var 8 (pv 8)) px_int (fun _ _ => rfl)) (pax_cons px_int pax_nil))) (pax_cons (px_var 11 (pv 11)) pax_nil))) pax_nil)) (pax_cons (px_callK rfl G_l_part (hr.mono (by omega)) rfl T.m_l_part T.F_l_part.kp T.b_l_part pass0 (pax_cons (px_var 0 (pv 0)) (pax_cons (px_op (r := rAddX K) op_addX x_add (px_var 5 (pv 5)) px_int) pax_nil))) pax_nil)))) (pio_cons (psi_setD (j := 3) sc_l_hour_done.nd rfl (Or.inl rfl) (px_callK rfl G_l_sum (hr.mono (by omega)) rfl T.m_l_sum T.F_l_sum.kp T.b_l_sum pass0 (pax_cons (px_callK rfl G_l_sum (hr.mono (by omega)) rfl T.m_l_sum T.F_l_sum.kp T.b_l_sum pass0 (pax_cons (px_var 3 (pv 3)) (pax_cons (px_callK rfl G_l_negative (hr.mono (by omega)) rfl T.m_l_negative T.F_l_negative.kp T.b_l_negative pass0 (pax_cons (px_var 10 (pv 10)) pax_nil)) pax_nil))) (pax_cons (px_callK rfl G_l_times (hr.mono (by omega)) rfl T.m_l_times T.F_l_times.kp T.b_l_times pass0 (pax_cons (px_ix (r := rIx K) ix_seq x_ix (px_var 7 (pv 7)) px_int (fun _ _ => rfl)) (pax_cons (px_var 16 (pv 16)) pax_nil))) pax_nil)))) (pio_ret (px_tup (pax_cons (px_tup (pax_cons (px_var 9 (pv 9)) (pax_cons (px_var 17 (pv 17)) (pax_cons (px_var 16 (pv 16)) (pax_cons (px_var 10 (pv 10)) (pax_cons (px_var 12 (pv 12)) (pax_cons (px_ix (r := rIx K) ix_seq x_ix (px_var 14 (pv 14)) px_int (fun _ _ => rfl)) pax_nil))))))) (pax_cons (px_var 3 (pv 3)) pax_nil)))))))))))))))))))))))⟩
theorem ok_l_plan (T : Txt K mg ad) : FnOk P w K mg base CX0 5 ad.f_l_plan ad.fd_l_plan ["_law_script", "_law_house_here", "_law_k"] (spF K F_l_plan) := by
  have G_l_hour_done : FnOk P w K mg base CX0 4 _ _ _ (spIO K 4 F_l_hour_done) := ok_l_hour_done T
  exact T.F_l_plan.okF (k := 4) sc_l_plan (by decide) fun cdv A outer s H E hr => ⟨_, (pssx_cons (psx_setD (i := 3) sc_l_plan.nd rfl (Or.inl rfl) (px_tup (pax_cons (px_ix (r := rIx K) ix_seq x_ix (px_ix (r := rIx K) ix_seq x_ix (px_var 1 (pv 1)) px_int (fun _ _ => rfl)) px_int (fun _ _ => rfl)) (pax_cons px_int pax_nil)))) (pssx_cons (psx_setCO (i := 4) (bs := ["_law_work"]) (nb := ["_law_script", "_law_house_here", "_law_k", "_law_level", "_law_left", "_law_plan_here", "_law_t", "_law_told"]) sc_l_plan.nd rfl (Or.inl rfl) rfl (blk_of rfl) (pix_seq (px_ix (r := rIx K) ix_seq x_ix (px_var 1 (pv 1)) px_int (fun _ _ => rfl))) (gown_name (by decide)) (fun _ _ _ _ _ _ => (pg_name (i := 0) (show List.Nodup (["_law_work", "_law_script", "_law_house_here", "_law_k", "_law_level", "_law_left", "_law_plan_here", "_law_t", "_law_told"] : List Str) by decide +kernel) rfl (Or.inl rfl) (Or.inr rfl))) tgb_name (fun _ _ _ _ _ _ => pifsx_nil) (fun _ _ _ _ _ _ => (px_tup (pax_cons (px_ix (r := rIx K) ix_seq x_ix (px_var 0 (pv 0)) px_int (fun _ _ => rfl)) (pax_cons px_int pax_nil))))) (pssx_cons (psx_set (i := 5) sc_l_plan.nd rfl (Or.inl rfl) (px_lst pax_nil)) (pssx_cons (psx_for PassesOwn.never rfl (pix_range1 rfl T.n_range (pax_cons (px_callB (r := rLen K) call_lenX x_len rfl T.n_len bt_len (pax_cons (px_ix (r := rIx K) ix_seq x_ix (px_var 1 (pv 1)) px_int (fun _ _ => rfl)) pax_nil)) pax_nil)) (pg_name (i := 6) sc_l_plan.nd rfl (Or.inl rfl)) tgx_name (pssx_cons (psx_callIOK (j := 7) (p := 4) rfl G_l_hour_done (hr.mono (by omega)) rfl T.m_l_hour_done T.F_l_hour_done.kp T.b_l_hour_done pass0 (pao_later (px_var 0 (pv 0)) (pao_later (px_var 1 (pv 1)) (pao_later (px_var 6 (pv 6)) (pao_later (px_var 3 (pv 3)) (pao_here 4 (pv 4) (pax_cons (px_op (r := rAddX K) op_addX x_add (px_var 2 (pv 2)) (px_op op_mulB x_mul px_int (px_var 6 (pv 6)))) pax_nil)))))) sc_l_plan.nd rfl (Or.inl rfl)) (pssx_cons (psx_app 5 (pv 5) (px_ix (r := rIx K) ix_seq x_ix (px_var 7 (pv 7)) px_int (fun _ _ => rfl))) (pssx_one (psx_setD (i := 3) sc_l_plan.nd rfl (Or.inl rfl) (px_ix (r := rIx K) ix_seq x_ix (px_var 7 (pv 7)) px_int (fun _ _ => rfl))))))) (pssx_one (psx_ret (fr := false) (px_frz (px_callTy (r := rTupC K) call_tuple_of x_tuple rfl T.n_tuple bt_tuple (pax_cons (px_var 5 (pv 5)) pax_nil)))))))))⟩
theorem ok_l_costs (T : Txt K mg ad) : FnOk P w K mg base CX0 3 ad.f_l_costs ad.fd_l_costs ["_law_house_here", "_law_plan_here"] (spF K F_l_costs) := by
  have G_l_line : FnOk P w K mg base CX0 1 _ _ _ (spF K F_l_line) := ok_l_line T
  have G_l_negative : FnOk P w K mg base CX0 1 _ _ _ (spF K F_l_negative) := ok_l_negative T
  have G_l_sum : FnOk P w K mg base CX0 2 _ _ _ (spF K F_l_sum) := ok_l_sum T
  have G_l_times : FnOk P w K mg base CX0 2 _ _ _ (spF K F_l_times) := ok_l_times T
  exact T.F_l_costs.okF (k := 2) sc_l_costs (by decide) fun cdv A outer s H E hr => ⟨_, (pssx_cons (psx_setD (i := 2) sc_l_costs.nd rfl (Or.inl rfl) (px_tup (pax_cons px_int (pax_cons px_int pax_nil)))) (pssx_cons (psx_setD (i := 3) sc_l_costs.nd rfl (Or.inl rfl) (px_tup (pax_cons px_int (pax_cons px_int pax_nil)))) (pssx_cons (psx_setD (i := 4) sc_l_costs.nd rfl (Or.inl rfl) (px_tup (pax_cons px_int (pax_cons px_int pax_nil)))) (pssx_cons (psx_setD (i := 5) sc_l_costs.nd rfl (Or.inl rfl) (px_tup (pax_cons (px_ix (r := rIx K) ix_seq x_ix (px_ix (r := rIx K) ix_seq x_ix (px_var 0 (pv 0)) px_int (fun _ _ => rfl)) px_int (fun _ _ => rfl)) (pax_cons px_int pax_nil)))) (pssx_cons (psx_for PassesOwn.never rfl (pix_seq (px_ix (r := rIx K) ix_seq x_ix (px_var 0 (pv 0)) px_int (fun _ _ => rfl))) (pg_name (i := 6) sc_l_costs.nd rfl (Or.inl rfl)) tgx_name (pssx_one (psx_setD (i := 3) sc_l_costs.nd rfl (Or.inl rfl) (px_callK rfl G_l_sum (hr.mono (by omega)) rfl T.m_l_sum T.F_l_sum.kp T.b_l_sum pass0 (pax_cons (px_var 3 (pv 3)) (pax_cons (px_tup (pax_cons (px_ix (r := rIx K) ix_seq x_ix (px_var 6 (pv 6)) px_int (fun _ _ => rfl)) (pax_cons px_int pax_nil))) pax_nil)))))) (pssx_cons (psx_for PassesOwn.never rfl (pix_range1 rfl T.n_range (pax_cons (px_callB (r := rLen K) call_lenX x_len rfl T.n_len bt_len (pax_cons (px_var 1 (pv 1)) pax_nil)) pax_nil)) (pg_name (i := 7) sc_l_costs.nd rfl (Or.inl rfl)) tgx_name (pssx_cons (psx_setD (i := 8) sc_l_costs.nd rfl (Or.inl rfl) (px_ix (r := rIx K) ix_seq x_ix (px_var 1 (pv 1)) (px_var 7 (pv 7)) (fun _ _ => rfl))) (pssx_cons (psx_setD (i := 9) sc_l_costs.nd rfl (Or.inl rfl) (px_callK rfl G_l_line (hr.mono (by omega)) rfl T.m_l_line T.F_l_line.kp T.b_l_line pass0 (pax_cons (px_ix (r := rIx K) ix_seq x_ix (px_ix (r := rIx K) ix_seq x_ix (px_var 0 (pv 0)) px_int (fun _ _ => rfl)) (px_var 7 (pv 7)) (fun _ _ => rfl)) pax_nil))) (pssx_cons (psx_setD (i := 2) sc_l_costs.nd rfl (Or.inl rfl) (px_callK rfl G_l_sum (hr.mono (by omega)) rfl T.m_l_sum T.F_l_sum.kp T.b_l_sum pass0 (pax_cons (px_var 2 (pv 2)) (pax_cons (px_ix (r := rIx K) ix_seq x_ix (px_var 8 (pv 8)) px_int (fun _ _ => rfl)) pax_nil)))) (pssx_cons (psx_setD (i := 4) sc_l_costs.nd rfl (Or.inl rfl) (px_callK rfl G_l_sum (hr.mono (by omega)) rfl T.m_l_sum T.F_l_sum.kp T.b_l_sum pass0 (pax_cons (px_var 4 (pv 4)) (pax_cons (px_callK rfl G_l_times (hr.mono (by omega)) rfl T.m_l_times T.F_l_times.kp T.b_l_times pass0 (pax_cons (px_tup (pax_cons (px_ix (r := rIx K) ix_seq x_ix (px_var 9 (pv 9)) px_int (fun _ _ => rfl)) (pax_cons px_int pax_nil))) (pax_cons (px_ix (r := rIx K) ix_seq x_ix (px_var 8 (pv 8)) px_int (fun _ _ => rfl)) pax_nil))) pax_nil)))) (pssx_cons (psx_setD (i := 4) sc_l_costs.nd rfl (Or.inl rfl) (px_callK rfl G_l_sum (hr.mono (by omega)) rfl T.m_l_sum T.F_l_sum.kp T.b_l_sum pass0 (pax_cons (px_var 4 (pv 4)) (pax_cons (px_callK rfl G_l_times (hr.mono (by omega)) rfl T.m_l_times T.F_l_times.kp T.b_l_times pass0 (pax_cons (px_tup (pax_cons (px_op op_sub x_sub px_int (px_ix (r := rIx K) ix_seq x_ix (px_var 9 (pv 9)) px_int (fun _ _ => rfl))) (pax_cons px_int pax_nil))) (pax_cons (px_ix (r := rIx K) ix_seq x_ix (px_var 8 (pv 8)) px_int (fun _ _ => rfl)) pax_nil))) pax_nil)))) (pssx_cons (psx_setD (i := 5) sc_l_costs.nd rfl (Or.inl rfl) (px_callK rfl G_l_sum (hr.mono (by omega)) rfl T.m_l_sum T.F_l_sum.kp T.b_l_sum pass0 (pax_cons (px_var 5 (pv 5)) (pax_cons (px_callK rfl G_l_sum (hr.mono (by omega)) rfl T.m_l_sum T.F_l_sum.kp T.b_l_sum pass0 (pax_cons (px_callK rfl G_l_times (hr.mono (by omega)) rfl T.m_l_times T.F_l_times.kp T.b_l_times pass0 (pax_cons (px_ix (r := rIx K) ix_seq x_ix (px_ix (r := rIx K) ix_seq x_ix (px_var 0 (pv 0)) px_int (fun _ _ => rfl)) px_int (fun _ _ => rfl)) (pax_cons (px_ix (r := rIx K) ix_seq x_ix (px_var 8 (pv 8)) px_int (fun _ _ => rfl)) pax_nil))) (pax_cons (px_callK rfl G_l_negative (hr.mono (by omega)) rfl T.m_l_negative T.F_l_negative.kp T.b_l_negative pass0 (pax_cons (px_ix (r := rIx K) ix_seq x_ix (px_var 8 (pv 8)) px_int (fun _ _ => rfl)) pax_nil)) pax_nil))) pax_nil)))) (pssx_one (psx_for PassesOwn.never rfl (pix_seq (px_ix (r := rIx K) ix_seq x_ix (px_var 8 (pv 8)) px_int (fun _ _ => rfl))) (pg_name (i := 10) sc_l_costs.nd rfl (Or.inl rfl)) tgx_name (pssx_one (psx_setD (i := 3) sc_l_costs.nd rfl (Or.inl rfl) (px_callK rfl G_l_sum (hr.mono (by omega)) rfl T.m_l_sum T.F_l_sum.kp T.b_l_sum pass0 (pax_cons (px_var 3 (pv 3)) (pax_cons (px_callK rfl G_l_negative (hr.mono (by omega)) rfl T.m_l_negative T.F_l_negative.kp T.b_l_negative pass0 (pax_cons (px_var 10 (pv 10)) pax_nil)) pax_nil)))))))))))))) (pssx_one (psx_ret (fr := true) (px_tup (pax_cons (px_var 2 (pv 2)) (pax_cons (px_var 3 (pv 3)) (pax_cons (px_callK rfl G_l_sum (hr.mono (by omega)) rfl T.m_l_sum T.F_l_sum.kp T.b_l_sum pass0 (pax_cons (px_var 4 (pv 4)) (pax_cons (px_callK rfl G_l_times (hr.mono (by omega)) rfl T.m_l_times T.F_l_times.kp T.b_l_times pass0 (pax_cons (px_tup (pax_cons (px_op op_sub x_sub px_int (px_ix (r := rIx K) ix_seq x_ix (px_ix (r := rIx K) ix_seq x_ix (px_var 0 (pv 0)) px_int (fun _ _ => rfl)) px_int (fun _ _ => rfl))) (pax_cons px_int pax_nil))) (pax_cons (px_var 5 (pv 5)) pax_nil))) pax_nil))) pax_nil))))))))))))⟩
theorem ok_l_value (T : Txt K mg ad) : FnOk P w K mg base CX0 2 ad.f_l_value ad.fd_l_value ["_law_script", "_law_k"] (spF K F_l_value) := by
  have G_l_draw : FnOk P w K mg base CX0 1 _ _ _ (spF K F_l_draw) := ok_l_draw T
  have G_l_norm : FnOk P w K mg base CX0 1 _ _ _ (spF K F_l_norm) := ok_l_norm T
  exact T.F_l_value.okF (k := 1) sc_l_value (by decide) fun cdv A outer s H E hr => ⟨_, (pssx_cons (psx_setD (i := 2) sc_l_value.nd rfl (Or.inl rfl) (px_ix (r := rIx K) ix_seq x_ix (px_lst (pax_cons px_int (pax_cons px_int (pax_cons px_int (pax_cons px_int (pax_cons px_int pax_nil)))))) (px_callK rfl G_l_draw (hr.mono (by omega)) rfl T.m_l_draw T.F_l_draw.kp T.b_l_draw pass0 (pax_cons (px_var 0 (pv 0)) (pax_cons (px_op (r := rAddX K) op_addX x_add (px_var 1 (pv 1)) px_int) (pax_cons px_int pax_nil)))) (fun _ _ => rfl))) (pssx_one (psx_ret (fr := true) (px_callK rfl G_l_norm (hr.mono (by omega)) rfl T.m_l_norm T.F_l_norm.kp T.b_l_norm pass0 (pax_cons (px_op op_sub x_sub (px_callK rfl G_l_draw (hr.mono (by omega)) rfl T.m_l_draw T.F_l_draw.kp T.b_l_draw pass0 (pax_cons (px_var 0 (pv 0)) (pax_cons (px_var 1 (pv 1)) (pax_cons px_int pax_nil)))) px_int) (pax_cons (px_var 2 (pv 2)) pax_nil))))))⟩
theorem ok_l_triple (T : Txt K mg ad) : FnOk P w K mg base CX0 3 ad.f_l_triple ad.fd_l_triple ["_law_script", "_law_k"] (spF K F_l_triple) := by
  have G_l_draw : FnOk P w K mg base CX0 1 _ _ _ (spF K F_l_draw) := ok_l_draw T
  have G_l_norm : FnOk P w K mg base CX0 1 _ _ _ (spF K F_l_norm) := ok_l_norm T
  have G_l_value : FnOk P w K mg base CX0 2 _ _ _ (spF K F_l_value) := ok_l_value T
  exact T.F_l_triple.okF (k := 2) sc_l_triple (by decide) fun cdv A outer s H E hr => ⟨_, (pssx_cons (psx_setD (i := 2) sc_l_triple.nd rfl (Or.inl rfl) (px_tup (pax_cons px_int (pax_cons px_int pax_nil)))) (pssx_cons (psx_setD (i := 3) sc_l_triple.nd rfl (Or.inl rfl) (px_tup (pax_cons px_int (pax_cons px_int pax_nil)))) (pssx_cons (psx_if (ptx_cmp (fr := true) (r := rEqX K) (op_eqX hr.units) x_eq (nomark _) (px_callK rfl G_l_draw (hr.mono (by omega)) rfl T.m_l_draw T.F_l_draw.kp T.b_l_draw pass0 (pax_cons (px_var 0 (pv 0)) (pax_cons (px_op (r := rAddX K) op_addX x_add (px_var 1 (pv 1)) px_int) (pax_cons px_int pax_nil)))) px_int) (pssx_one (psx_setD (i := 2) sc_l_triple.nd rfl (Or.inl rfl) (px_callK rfl G_l_norm (hr.mono (by omega)) rfl T.m_l_norm T.F_l_norm.kp T.b_l_norm pass0 (pax_cons (px_op op_sub x_sub (px_callK rfl G_l_draw (hr.mono (by omega)) rfl T.m_l_draw T.F_l_draw.kp T.b_l_draw pass0 (pax_cons (px_var 0 (pv 0)) (pax_cons (px_op (r := rAddX K) op_addX x_add (px_var 1 (pv 1)) px_int) (pax_cons px_int pax_nil)))) px_int) (pax_cons (px_op (r := rAddX K) op_addX x_add px_int (px_callK rfl G_l_draw (hr.mono (by omega)) rfl T.m_l_draw T.F_l_draw.kp T.b_l_draw pass0 (pax_cons (px_var 0 (pv 0)) (pax_cons (px_op (r := rAddX K) op_addX x_add (px_var 1 (pv 1)) px_int) (pax_cons px_int pax_nil))))) pax_nil))))) pssx_nil) (pssx_cons (psx_if (ptx_cmp (fr := true) (r := rEqX K) (op_eqX hr.units) x_eq (nomark _) (px_callK rfl G_l_draw (hr.mono (by omega)) rfl T.m_l_draw T.F_l_draw.kp T.b_l_draw pass0 (pax_cons (px_var 0 (pv 0)) (pax_cons (px_op (r := rAddX K) op_addX x_add (px_var 1 (pv 1)) px_int) (pax_cons px_int pax_nil)))) px_int) (pssx_one (psx_setD (i := 3) sc_l_triple.nd rfl (Or.inl rfl) (px_callK rfl G_l_norm (hr.mono (by omega)) rfl T.m_l_norm T.F_l_norm.kp T.b_l_norm pass0 (pax_cons (px_op op_sub x_sub (px_callK rfl G_l_draw (hr.mono (by omega)) rfl T.m_l_draw T.F_l_draw.kp T.b_l_draw pass0 (pax_cons (px_var 0 (pv 0)) (pax_cons (px_op (r := rAddX K) op_addX x_add (px_var 1 (pv 1)) px_int) (pax_cons px_int pax_nil)))) px_int) (pax_cons (px_op (r := rAddX K) op_addX x_add px_int (px_callK rfl G_l_draw (hr.mono (by omega)) rfl T.m_l_draw T.F_l_draw.kp T.b_l_draw pass0 (pax_cons (px_var 0 (pv 0)) (pax_cons (px_op (r := rAddX K) op_addX x_add (px_var 1 (pv 1)) px_int) (pax_cons px_int pax_nil))))) pax_nil))))) pssx_nil) (pssx_one (psx_ret (fr := true) (px_tup (pax_cons (px_var 2 (pv 2)) (pax_cons (px_var 3 (pv 3)) (pax_cons (px_callK rfl G_l_value (hr.mono (by omega)) rfl T.m_l_value T.F_l_value.kp T.b_l_value pass0 (pax_cons (px_var 0 (pv 0)) (pax_cons (px_op (r := rAddX K) op_addX x_add (px_var 1 (pv 1)) px_int) pax_nil))) pax_nil))))))))))⟩
theorem ok_l_prices (T : Txt K mg ad) : FnOk P w K mg base CX0 4 ad.f_l_prices ad.fd_l_prices ["_law_script", "_law_house_here", "_law_k"] (spF K F_l_prices) := by
  have G_l_cheaper : FnOk P w K mg base CX0 2 _ _ _ (spF K F_l_cheaper) := ok_l_cheaper T
  have G_l_draw : FnOk P w K mg base CX0 1 _ _ _ (spF K F_l_draw) := ok_l_draw T
  have G_l_more : FnOk P w K mg base CX0 3 _ _ _ (spF K F_l_more) := ok_l_more T
  have G_l_triple : FnOk P w K mg base CX0 3 _ _ _ (spF K F_l_triple) := ok_l_triple T
  exact T.F_l_prices.okF (k := 3) sc_l_prices (by decide) fun cdv A outer s H E hr => ⟨_, (pssx_cons (psx_setD (i := 3) sc_l_prices.nd rfl (Or.inl rfl) (px_tup (pax_cons (px_tup (pax_cons px_int (pax_cons px_int pax_nil))) (pax_cons (px_tup (pax_cons px_int (pax_cons px_int pax_nil))) (pax_cons (px_tup (pax_cons px_int (pax_cons px_int pax_nil))) pax_nil))))) (pssx_cons (psx_set (i := 4) sc_l_prices.nd rfl (Or.inl rfl) (px_lst pax_nil)) (pssx_cons (psx_for PassesOwn.never rfl (pix_range1 rfl T.n_range (pax_cons (px_callB (r := rLen K) call_lenX x_len rfl T.n_len bt_len (pax_cons (px_ix (r := rIx K) ix_seq x_ix (px_var 1 (pv 1)) px_int (fun _ _ => rfl)) pax_nil)) pax_nil)) (pg_name (i := 5) sc_l_prices.nd rfl (Or.inl rfl)) tgx_name (pssx_cons (psx_setD (i := 6) sc_l_prices.nd rfl (Or.inl rfl) (px_callK rfl G_l_triple (hr.mono (by omega)) rfl T.m_l_triple T.F_l_triple.kp T.b_l_triple pass0 (pax_cons (px_var 0 (pv 0)) (pax_cons (px_op (r := rAddX K) op_addX x_add (px_var 2 (pv 2)) (px_op op_mulB x_mul px_int (px_var 5 (pv 5)))) pax_nil)))) (pssx_cons (psx_if (ptx_val (fr := true) (px_callK rfl G_l_cheaper (hr.mono (by omega)) rfl T.m_l_cheaper T.F_l_cheaper.kp T.b_l_cheaper pass0 (pax_cons (px_var 6 (pv 6)) (pax_cons (px_var 3 (pv 3)) pax_nil)))) (pssx_one (psx_setD (i := 6) sc_l_prices.nd rfl (Or.inl rfl) (px_callK rfl G_l_more (hr.mono (by omega)) rfl T.m_l_more T.F_l_more.kp T.b_l_more pass0 (pax_cons (px_var 3 (pv 3)) (pax_cons (px_var 6 (pv 6)) (pax_cons (px_tup (pax_cons (px_un un_neg x_neg px_int) (pax_cons px_int pax_nil))) pax_nil)))))) pssx_nil) (pssx_cons (psx_if (ptx_cmp (fr := true) (r := rEqX K) (op_eqX hr.units) x_eq (nomark _) (px_callK rfl G_l_draw (hr.mono (by omega)) rfl T.m_l_draw T.F_l_draw.kp T.b_l_draw pass0 (pax_cons (px_var 0 (pv 0)) (pax_cons (px_op (r := rAddX K) op_addX x_add (px_op (r := rAddX K) op_addX x_add (px_var 2 (pv 2)) (px_op op_mulB x_mul px_int (px_var 5 (pv 5)))) px_int) (pax_cons px_int pax_nil)))) px_int) (pssx_one (psx_setD (i := 6) sc_l_prices.nd rfl (Or.inl rfl) (px_var 3 (pv 3)))) pssx_nil) (pssx_one (psx_app 4 (pv 4) (px_var 6 (pv 6)))))))) (pssx_cons (psx_setCD (i := 7) (bs := ["_law_t"]) (nb := ["_law_script", "_law_house_here", "_law_k", "_law_nothing", "_law_lines", "_law_t'", "_law_one", "_law_stored", "_law_done"]) sc_l_prices.nd rfl (Or.inl rfl) rfl (blk_of rfl) (pix_range1 rfl T.n_range (pax_cons (px_callB (r := rLen K) call_lenX x_len rfl T.n_len bt_len (pax_cons (px_ix (r := rIx K) ix_seq x_ix (px_var 1 (pv 1)) px_int (fun _ _ => rfl)) pax_nil)) pax_nil)) (gown_name (by decide)) (fun _ _ _ _ _ _ => (pg_name (i := 0) (show List.Nodup (["_law_t", "_law_script", "_law_house_here", "_law_k", "_law_nothing", "_law_lines", "_law_t'", "_law_one", "_law_stored", "_law_done"] : List Str) by decide +kernel) rfl (Or.inl rfl) (Or.inr rfl))) tgb_name (fun _ _ _ _ _ _ => pifsx_nil) (fun _ _ _ _ _ _ => (px_callK rfl G_l_triple (hr.mono (by omega)) rfl T.m_l_triple T.F_l_triple.kp T.b_l_triple pass0 (pax_cons (px_var 1 (pv 1)) (pax_cons (px_op (r := rAddX K) op_addX x_add (px_op (r := rAddX K) op_addX x_add (px_var 3 (pv 3)) px_int) (px_op op_mulB x_mul px_int (px_var 0 (pv 0)))) pax_nil))))) (pssx_cons (psx_setCD (i := 8) (bs := ["_law_j"]) (nb := ["_law_script", "_law_house_here", "_law_k", "_law_nothing", "_law_lines", "_law_t", "_law_one", "_law_stored", "_law_done"]) sc_l_prices.nd rfl (Or.inl rfl) rfl (blk_of rfl) (pix_range1 rfl T.n_range (pax_cons (px_callB (r := rLen K) call_lenX x_len rfl T.n_len bt_len (pax_cons (px_ix (r := rIx K) ix_seq x_ix (px_var 1 (pv 1)) px_int (fun _ _ => rfl)) pax_nil)) pax_nil)) (gown_name (by decide)) (fun _ _ _ _ _ _ => (pg_name (i := 0) (show List.Nodup (["_law_j", "_law_script", "_law_house_here", "_law_k", "_law_nothing", "_law_lines", "_law_t", "_law_one", "_law_stored", "_law_done"] : List Str) by decide +kernel) rfl (Or.inl rfl) (Or.inr rfl))) tgb_name (fun _ _ _ _ _ _ => pifsx_nil) (fun _ _ _ _ _ _ => (px_callK rfl G_l_triple (hr.mono (by omega)) rfl T.m_l_triple T.F_l_triple.kp T.b_l_triple pass0 (pax_cons (px_var 1 (pv 1)) (pax_cons (px_op (r := rAddX K) op_addX x_add (px_op (r := rAddX K) op_addX x_add (px_var 3 (pv 3)) px_int) (px_op op_mulB x_mul px_int (px_var 0 (pv 0)))) pax_nil))))) (pssx_one (psx_ret (fr := false) (px_frz (px_tup (pax_cons (px_callTy (r := rTupC K) call_tuple_of x_tuple rfl T.n_tuple bt_tuple (pax_cons (px_var 4 (pv 4)) pax_nil)) (pax_cons (px_callTy (r := rTupC K) call_tuple_of x_tuple rfl T.n_tuple bt_tuple (pax_cons (px_var 7 (pv 7)) pax_nil)) (pax_cons (px_callTy (r := rTupC K) call_tuple_of x_tuple rfl T.n_tuple bt_tuple (pax_cons (px_var 8 (pv 8)) pax_nil)) pax_nil))))))))))))⟩
theorem ok_law (T : Txt K mg ad) : FnOk P w K mg base CX0 9 ad.f_law ad.fd_law ["_law_script"] (spF K F_law) := by
  have G_l_cheaper : FnOk P w K mg base CX0 2 _ _ _ (spF K F_l_cheaper) := ok_l_cheaper T
  have G_l_costs : FnOk P w K mg base CX0 3 _ _ _ (spF K F_l_costs) := ok_l_costs T
  have G_l_house : FnOk P w K mg base CX0 3 _ _ _ (spF K F_l_house) := ok_l_house T
  have G_l_plan : FnOk P w K mg base CX0 5 _ _ _ (spF K F_l_plan) := ok_l_plan T
  have G_l_prices : FnOk P w K mg base CX0 4 _ _ _ (spF K F_l_prices) := ok_l_prices T
  have G_floor_of : FnOk P w K mg base CX0 8 _ _ _ (spF K F_floor_of) := ok_floor_of T
  exact T.F_law.okF (k := 8) sc_law (by decide) fun cdv A outer s H E hr => ⟨_, (pssx_cons (psx_setD (i := 1) sc_law.nd rfl (Or.inr rfl) (px_callK rfl G_l_house (hr.mono (by omega)) rfl T.m_l_house T.F_l_house.kp T.b_l_house pass0 (pax_cons (px_var 0 (pv 0)) pax_nil))) (pssx_cons (psx_setCD (i := 2) (bs := ["_law_k"]) (nb := ["_law_script", "_law_house_here", "_law_floors_told", "_law_k'", "_law_spent", "_law_one"]) sc_law.nd rfl (Or.inl rfl) rfl (blk_of rfl) (pix_range1 rfl T.n_range (pax_cons px_int pax_nil)) (gown_name (by decide)) (fun _ _ _ _ _ _ => (pg_name (i := 0) (show List.Nodup (["_law_k", "_law_script", "_law_house_here", "_law_floors_told", "_law_k'", "_law_spent", "_law_one"] : List Str) by decide +kernel) rfl (Or.inl rfl) (Or.inr rfl))) tgb_name (fun _ _ _ _ _ _ => pifsx_nil) (fun _ _ _ _ _ _ => (px_callK rfl G_floor_of (hr.mono (by omega)) rfl T.m_floor_of T.F_floor_of.kp T.b_floor_of pass0 (pax_cons (px_var 2 (pv 2)) (pax_cons (px_callK rfl G_l_prices (hr.mono (by omega)) rfl T.m_l_prices T.F_l_prices.kp T.b_l_prices pass0 (pax_cons (px_var 1 (pv 1)) (pax_cons (px_var 2 (pv 2)) (pax_cons (px_op (r := rAddX K) op_addX x_add px_int (px_op op_mulB x_mul px_int (px_var 0 (pv 0)))) pax_nil)))) pax_nil))))) (pssx_cons (psx_for PassesOwn.never rfl (pix_range1 rfl T.n_range (pax_cons px_int pax_nil)) (pg_name (i := 3) sc_law.nd rfl (Or.inl rfl)) tgx_name (pssx_cons (psx_setD (i := 4) sc_law.nd rfl (Or.inl rfl) (px_callK rfl G_l_costs (hr.mono (by omega)) rfl T.m_l_costs T.F_l_costs.kp T.b_l_costs pass0 (pax_cons (px_var 1 (pv 1)) (pax_cons (px_callK rfl G_l_plan (hr.mono (by omega)) rfl T.m_l_plan T.F_l_plan.kp T.b_l_plan pass0 (pax_cons (px_var 0 (pv 0)) (pax_cons (px_var 1 (pv 1)) (pax_cons (px_op (r := rAddX K) op_addX x_add px_int (px_op op_mulB x_mul px_int (px_var 3 (pv 3)))) pax_nil)))) pax_nil)))) (pssx_one (psx_for PassesOwn.never rfl (pix_seq (px_var 2 (pv 2))) (pg_name (i := 5) sc_law.nd rfl (Or.inl rfl)) tgx_name (pssx_one (psx_if (ptx_val (fr := true) (px_callK rfl G_l_cheaper (hr.mono (by omega)) rfl T.m_l_cheaper T.F_l_cheaper.kp T.b_l_cheaper pass0 (pax_cons (px_var 4 (pv 4)) (pax_cons (px_var 5 (pv 5)) pax_nil)))) (pssx_one (psx_ret (fr := true) px_bl)) pssx_nil)))))) (pssx_one (psx_ret (fr := true) px_bl)))))⟩
end
theorem all_mk {l : PySem.W.OpenLaw} {w : World} {K : PySem.W.Frag} {h : Heap} {mg : Str → Option Value} {fa : Addr} (X : K.In h) (G : h.Ns mainGlobals mg) (hfa : mg "law" = some (.ref fa))
    {f0 : Addr} {od0 an0 : Option Addr} {sl0 : Array (Option Value)} {oc0 kV0 dc0 pm0 cd0 ct0 : Value}
    (a0 : PySem.W.nsIn K mainGlobals "common_divisor" = some (some (.ref f0))) (l0 : K.lookup f0 = some ⟨oc0, od0, .func (PySem.W.fnOf "common_divisor" "common_divisor" (defArgs s_common_divisor) (defBody s_common_divisor) (defScope s_common_divisor) .none kV0 dc0 pm0 an0 cd0 ct0), sl0⟩) (c0 : PySem.W.codeIn K cd0 "common_divisor" = true) (k0 : PySem.W.keepIn K (.ref f0) = true)
    {f1 : Addr} {od1 an1 : Option Addr} {sl1 : Array (Option Value)} {oc1 kV1 dc1 pm1 cd1 ct1 : Value}
    (a1 : PySem.W.nsIn K mainGlobals "plus" = some (some (.ref f1))) (l1 : K.lookup f1 = some ⟨oc1, od1, .func (PySem.W.fnOf "plus" "plus" (defArgs s_plus) (defBody s_plus) (defScope s_plus) .none kV1 dc1 pm1 an1 cd1 ct1), sl1⟩) (c1 : PySem.W.codeIn K cd1 "plus" = true) (k1 : PySem.W.keepIn K (.ref f1) = true)
    {f2 : Addr} {od2 an2 : Option Addr} {sl2 : Array (Option Value)} {oc2 kV2 dc2 pm2 cd2 ct2 : Value}
    (a2 : PySem.W.nsIn K mainGlobals "times" = some (some (.ref f2))) (l2 : K.lookup f2 = some ⟨oc2, od2, .func (PySem.W.fnOf "times" "times" (defArgs s_times) (defBody s_times) (defScope s_times) .none kV2 dc2 pm2 an2 cd2 ct2), sl2⟩) (c2 : PySem.W.codeIn K cd2 "times" = true) (k2 : PySem.W.keepIn K (.ref f2) = true)
    {f3 : Addr} {od3 an3 : Option Addr} {sl3 : Array (Option Value)} {oc3 kV3 dc3 pm3 cd3 ct3 : Value}
    (a3 : PySem.W.nsIn K mainGlobals "under" = some (some (.ref f3))) (l3 : K.lookup f3 = some ⟨oc3, od3, .func (PySem.W.fnOf "under" "under" (defArgs s_under) (defBody s_under) (defScope s_under) .none kV3 dc3 pm3 an3 cd3 ct3), sl3⟩) (c3 : PySem.W.codeIn K cd3 "under" = true) (k3 : PySem.W.keepIn K (.ref f3) = true)
    {f4 : Addr} {od4 an4 : Option Addr} {sl4 : Array (Option Value)} {oc4 kV4 dc4 pm4 cd4 ct4 : Value}
    (a4 : PySem.W.nsIn K mainGlobals "added" = some (some (.ref f4))) (l4 : K.lookup f4 = some ⟨oc4, od4, .func (PySem.W.fnOf "added" "added" (defArgs s_added) (defBody s_added) (defScope s_added) .none kV4 dc4 pm4 an4 cd4 ct4), sl4⟩) (c4 : PySem.W.codeIn K cd4 "added" = true) (k4 : PySem.W.keepIn K (.ref f4) = true)
    {f5 : Addr} {od5 an5 : Option Addr} {sl5 : Array (Option Value)} {oc5 kV5 dc5 pm5 cd5 ct5 : Value}
    (a5 : PySem.W.nsIn K mainGlobals "multiplied" = some (some (.ref f5))) (l5 : K.lookup f5 = some ⟨oc5, od5, .func (PySem.W.fnOf "multiplied" "multiplied" (defArgs s_multiplied) (defBody s_multiplied) (defScope s_multiplied) .none kV5 dc5 pm5 an5 cd5 ct5), sl5⟩) (c5 : PySem.W.codeIn K cd5 "multiplied" = true) (k5 : PySem.W.keepIn K (.ref f5) = true)
    {f6 : Addr} {od6 an6 : Option Addr} {sl6 : Array (Option Value)} {oc6 kV6 dc6 pm6 cd6 ct6 : Value}
    (a6 : PySem.W.nsIn K mainGlobals "ahead" = some (some (.ref f6))) (l6 : K.lookup f6 = some ⟨oc6, od6, .func (PySem.W.fnOf "ahead" "ahead" (defArgs s_ahead) (defBody s_ahead) (defScope s_ahead) .none kV6 dc6 pm6 an6 cd6 ct6), sl6⟩) (c6 : PySem.W.codeIn K cd6 "ahead" = true) (k6 : PySem.W.keepIn K (.ref f6) = true)
    {f7 : Addr} {od7 an7 : Option Addr} {sl7 : Array (Option Value)} {oc7 kV7 dc7 pm7 cd7 ct7 : Value}
    (a7 : PySem.W.nsIn K mainGlobals "coins" = some (some (.ref f7))) (l7 : K.lookup f7 = some ⟨oc7, od7, .func (PySem.W.fnOf "coins" "coins" (defArgs s_coins) (defBody s_coins) (defScope s_coins) .none kV7 dc7 pm7 an7 cd7 ct7), sl7⟩) (c7 : PySem.W.codeIn K cd7 "coins" = true) (k7 : PySem.W.keepIn K (.ref f7) = true)
    {f8 : Addr} {od8 an8 : Option Addr} {sl8 : Array (Option Value)} {oc8 kV8 dc8 pm8 cd8 ct8 : Value}
    (a8 : PySem.W.nsIn K mainGlobals "less" = some (some (.ref f8))) (l8 : K.lookup f8 = some ⟨oc8, od8, .func (PySem.W.fnOf "less" "less" (defArgs s_less) (defBody s_less) (defScope s_less) .none kV8 dc8 pm8 an8 cd8 ct8), sl8⟩) (c8 : PySem.W.codeIn K cd8 "less" = true) (k8 : PySem.W.keepIn K (.ref f8) = true)
    {f9 : Addr} {od9 an9 : Option Addr} {sl9 : Array (Option Value)} {oc9 kV9 dc9 pm9 cd9 ct9 : Value}
    (a9 : PySem.W.nsIn K mainGlobals "line_rests" = some (some (.ref f9))) (l9 : K.lookup f9 = some ⟨oc9, od9, .func (PySem.W.fnOf "line_rests" "line_rests" (defArgs s_line_rests) (defBody s_line_rests) (defScope s_line_rests) .none kV9 dc9 pm9 an9 cd9 ct9), sl9⟩) (c9 : PySem.W.codeIn K cd9 "line_rests" = true) (k9 : PySem.W.keepIn K (.ref f9) = true)
    {f10 : Addr} {od10 an10 : Option Addr} {sl10 : Array (Option Value)} {oc10 kV10 dc10 pm10 cd10 ct10 : Value}
    (a10 : PySem.W.nsIn K mainGlobals "hour_rests" = some (some (.ref f10))) (l10 : K.lookup f10 = some ⟨oc10, od10, .func (PySem.W.fnOf "hour_rests" "hour_rests" (defArgs s_hour_rests) (defBody s_hour_rests) (defScope s_hour_rests) .none kV10 dc10 pm10 an10 cd10 ct10), sl10⟩) (c10 : PySem.W.codeIn K cd10 "hour_rests" = true) (k10 : PySem.W.keepIn K (.ref f10) = true)
    {f11 : Addr} {od11 an11 : Option Addr} {sl11 : Array (Option Value)} {oc11 kV11 dc11 pm11 cd11 ct11 : Value}
    (a11 : PySem.W.nsIn K mainGlobals "work_rests" = some (some (.ref f11))) (l11 : K.lookup f11 = some ⟨oc11, od11, .func (PySem.W.fnOf "work_rests" "work_rests" (defArgs s_work_rests) (defBody s_work_rests) (defScope s_work_rests) .none kV11 dc11 pm11 an11 cd11 ct11), sl11⟩) (c11 : PySem.W.codeIn K cd11 "work_rests" = true) (k11 : PySem.W.keepIn K (.ref f11) = true)
    {f12 : Addr} {od12 an12 : Option Addr} {sl12 : Array (Option Value)} {oc12 kV12 dc12 pm12 cd12 ct12 : Value}
    (a12 : PySem.W.nsIn K mainGlobals "stored_of" = some (some (.ref f12))) (l12 : K.lookup f12 = some ⟨oc12, od12, .func (PySem.W.fnOf "stored_of" "stored_of" (defArgs s_stored_of) (defBody s_stored_of) (defScope s_stored_of) .none kV12 dc12 pm12 an12 cd12 ct12), sl12⟩) (c12 : PySem.W.codeIn K cd12 "stored_of" = true) (k12 : PySem.W.keepIn K (.ref f12) = true)
    {f13 : Addr} {od13 an13 : Option Addr} {sl13 : Array (Option Value)} {oc13 kV13 dc13 pm13 cd13 ct13 : Value}
    (a13 : PySem.W.nsIn K mainGlobals "rests_of" = some (some (.ref f13))) (l13 : K.lookup f13 = some ⟨oc13, od13, .func (PySem.W.fnOf "rests_of" "rests_of" (defArgs s_rests_of) (defBody s_rests_of) (defScope s_rests_of) .none kV13 dc13 pm13 an13 cd13 ct13), sl13⟩) (c13 : PySem.W.codeIn K cd13 "rests_of" = true) (k13 : PySem.W.keepIn K (.ref f13) = true)
    {f14 : Addr} {od14 an14 : Option Addr} {sl14 : Array (Option Value)} {oc14 kV14 dc14 pm14 cd14 ct14 : Value}
    (a14 : PySem.W.nsIn K mainGlobals "worth_of" = some (some (.ref f14))) (l14 : K.lookup f14 = some ⟨oc14, od14, .func (PySem.W.fnOf "worth_of" "worth_of" (defArgs s_worth_of) (defBody s_worth_of) (defScope s_worth_of) .none kV14 dc14 pm14 an14 cd14 ct14), sl14⟩) (c14 : PySem.W.codeIn K cd14 "worth_of" = true) (k14 : PySem.W.keepIn K (.ref f14) = true)
    {f15 : Addr} {od15 an15 : Option Addr} {sl15 : Array (Option Value)} {oc15 kV15 dc15 pm15 cd15 ct15 : Value}
    (a15 : PySem.W.nsIn K mainGlobals "floor_of" = some (some (.ref f15))) (l15 : K.lookup f15 = some ⟨oc15, od15, .func (PySem.W.fnOf "floor_of" "floor_of" (defArgs s_floor_of) (defBody s_floor_of) (defScope s_floor_of) .none kV15 dc15 pm15 an15 cd15 ct15), sl15⟩) (c15 : PySem.W.codeIn K cd15 "floor_of" = true) (k15 : PySem.W.keepIn K (.ref f15) = true)
    {f16 : Addr} {od16 an16 : Option Addr} {sl16 : Array (Option Value)} {oc16 kV16 dc16 pm16 cd16 ct16 : Value}
    (a16 : PySem.W.nsIn K mainGlobals "_law_draw" = some (some (.ref f16))) (l16 : K.lookup f16 = some ⟨oc16, od16, .func (PySem.W.fnOf "_law_draw" "_law_draw" (defArgs s_l_draw) (defBody s_l_draw) (defScope s_l_draw) .none kV16 dc16 pm16 an16 cd16 ct16), sl16⟩) (c16 : PySem.W.codeIn K cd16 "_law_draw" = true) (k16 : PySem.W.keepIn K (.ref f16) = true)
    {f17 : Addr} {od17 an17 : Option Addr} {sl17 : Array (Option Value)} {oc17 kV17 dc17 pm17 cd17 ct17 : Value}
    (a17 : PySem.W.nsIn K mainGlobals "_law_norm" = some (some (.ref f17))) (l17 : K.lookup f17 = some ⟨oc17, od17, .func (PySem.W.fnOf "_law_norm" "_law_norm" (defArgs s_l_norm) (defBody s_l_norm) (defScope s_l_norm) .none kV17 dc17 pm17 an17 cd17 ct17), sl17⟩) (c17 : PySem.W.codeIn K cd17 "_law_norm" = true) (k17 : PySem.W.keepIn K (.ref f17) = true)
    {f18 : Addr} {od18 an18 : Option Addr} {sl18 : Array (Option Value)} {oc18 kV18 dc18 pm18 cd18 ct18 : Value}
    (a18 : PySem.W.nsIn K mainGlobals "_law_sum" = some (some (.ref f18))) (l18 : K.lookup f18 = some ⟨oc18, od18, .func (PySem.W.fnOf "_law_sum" "_law_sum" (defArgs s_l_sum) (defBody s_l_sum) (defScope s_l_sum) .none kV18 dc18 pm18 an18 cd18 ct18), sl18⟩) (c18 : PySem.W.codeIn K cd18 "_law_sum" = true) (k18 : PySem.W.keepIn K (.ref f18) = true)
    {f19 : Addr} {od19 an19 : Option Addr} {sl19 : Array (Option Value)} {oc19 kV19 dc19 pm19 cd19 ct19 : Value}
    (a19 : PySem.W.nsIn K mainGlobals "_law_times" = some (some (.ref f19))) (l19 : K.lookup f19 = some ⟨oc19, od19, .func (PySem.W.fnOf "_law_times" "_law_times" (defArgs s_l_times) (defBody s_l_times) (defScope s_l_times) .none kV19 dc19 pm19 an19 cd19 ct19), sl19⟩) (c19 : PySem.W.codeIn K cd19 "_law_times" = true) (k19 : PySem.W.keepIn K (.ref f19) = true)
    {f20 : Addr} {od20 an20 : Option Addr} {sl20 : Array (Option Value)} {oc20 kV20 dc20 pm20 cd20 ct20 : Value}
    (a20 : PySem.W.nsIn K mainGlobals "_law_more" = some (some (.ref f20))) (l20 : K.lookup f20 = some ⟨oc20, od20, .func (PySem.W.fnOf "_law_more" "_law_more" (defArgs s_l_more) (defBody s_l_more) (defScope s_l_more) .none kV20 dc20 pm20 an20 cd20 ct20), sl20⟩) (c20 : PySem.W.codeIn K cd20 "_law_more" = true) (k20 : PySem.W.keepIn K (.ref f20) = true)
    {f21 : Addr} {od21 an21 : Option Addr} {sl21 : Array (Option Value)} {oc21 kV21 dc21 pm21 cd21 ct21 : Value}
    (a21 : PySem.W.nsIn K mainGlobals "_law_below" = some (some (.ref f21))) (l21 : K.lookup f21 = some ⟨oc21, od21, .func (PySem.W.fnOf "_law_below" "_law_below" (defArgs s_l_below) (defBody s_l_below) (defScope s_l_below) .none kV21 dc21 pm21 an21 cd21 ct21), sl21⟩) (c21 : PySem.W.codeIn K cd21 "_law_below" = true) (k21 : PySem.W.keepIn K (.ref f21) = true)
    {f22 : Addr} {od22 an22 : Option Addr} {sl22 : Array (Option Value)} {oc22 kV22 dc22 pm22 cd22 ct22 : Value}
    (a22 : PySem.W.nsIn K mainGlobals "_law_cheaper" = some (some (.ref f22))) (l22 : K.lookup f22 = some ⟨oc22, od22, .func (PySem.W.fnOf "_law_cheaper" "_law_cheaper" (defArgs s_l_cheaper) (defBody s_l_cheaper) (defScope s_l_cheaper) .none kV22 dc22 pm22 an22 cd22 ct22), sl22⟩) (c22 : PySem.W.codeIn K cd22 "_law_cheaper" = true) (k22 : PySem.W.keepIn K (.ref f22) = true)
    {f23 : Addr} {od23 an23 : Option Addr} {sl23 : Array (Option Value)} {oc23 kV23 dc23 pm23 cd23 ct23 : Value}
    (a23 : PySem.W.nsIn K mainGlobals "_law_negative" = some (some (.ref f23))) (l23 : K.lookup f23 = some ⟨oc23, od23, .func (PySem.W.fnOf "_law_negative" "_law_negative" (defArgs s_l_negative) (defBody s_l_negative) (defScope s_l_negative) .none kV23 dc23 pm23 an23 cd23 ct23), sl23⟩) (c23 : PySem.W.codeIn K cd23 "_law_negative" = true) (k23 : PySem.W.keepIn K (.ref f23) = true)
    {f24 : Addr} {od24 an24 : Option Addr} {sl24 : Array (Option Value)} {oc24 kV24 dc24 pm24 cd24 ct24 : Value}
    (a24 : PySem.W.nsIn K mainGlobals "_law_number" = some (some (.ref f24))) (l24 : K.lookup f24 = some ⟨oc24, od24, .func (PySem.W.fnOf "_law_number" "_law_number" (defArgs s_l_number) (defBody s_l_number) (defScope s_l_number) .none kV24 dc24 pm24 an24 cd24 ct24), sl24⟩) (c24 : PySem.W.codeIn K cd24 "_law_number" = true) (k24 : PySem.W.keepIn K (.ref f24) = true)
    {f25 : Addr} {od25 an25 : Option Addr} {sl25 : Array (Option Value)} {oc25 kV25 dc25 pm25 cd25 ct25 : Value}
    (a25 : PySem.W.nsIn K mainGlobals "_law_share" = some (some (.ref f25))) (l25 : K.lookup f25 = some ⟨oc25, od25, .func (PySem.W.fnOf "_law_share" "_law_share" (defArgs s_l_share) (defBody s_l_share) (defScope s_l_share) .none kV25 dc25 pm25 an25 cd25 ct25), sl25⟩) (c25 : PySem.W.codeIn K cd25 "_law_share" = true) (k25 : PySem.W.keepIn K (.ref f25) = true)
    {f26 : Addr} {od26 an26 : Option Addr} {sl26 : Array (Option Value)} {oc26 kV26 dc26 pm26 cd26 ct26 : Value}
    (a26 : PySem.W.nsIn K mainGlobals "_law_house" = some (some (.ref f26))) (l26 : K.lookup f26 = some ⟨oc26, od26, .func (PySem.W.fnOf "_law_house" "_law_house" (defArgs s_l_house) (defBody s_l_house) (defScope s_l_house) .none kV26 dc26 pm26 an26 cd26 ct26), sl26⟩) (c26 : PySem.W.codeIn K cd26 "_law_house" = true) (k26 : PySem.W.keepIn K (.ref f26) = true)
    {f27 : Addr} {od27 an27 : Option Addr} {sl27 : Array (Option Value)} {oc27 kV27 dc27 pm27 cd27 ct27 : Value}
    (a27 : PySem.W.nsIn K mainGlobals "_law_line" = some (some (.ref f27))) (l27 : K.lookup f27 = some ⟨oc27, od27, .func (PySem.W.fnOf "_law_line" "_law_line" (defArgs s_l_line) (defBody s_l_line) (defScope s_l_line) .none kV27 dc27 pm27 an27 cd27 ct27), sl27⟩) (c27 : PySem.W.codeIn K cd27 "_law_line" = true) (k27 : PySem.W.keepIn K (.ref f27) = true)
    {f28 : Addr} {od28 an28 : Option Addr} {sl28 : Array (Option Value)} {oc28 kV28 dc28 pm28 cd28 ct28 : Value}
    (a28 : PySem.W.nsIn K mainGlobals "_law_part" = some (some (.ref f28))) (l28 : K.lookup f28 = some ⟨oc28, od28, .func (PySem.W.fnOf "_law_part" "_law_part" (defArgs s_l_part) (defBody s_l_part) (defScope s_l_part) .none kV28 dc28 pm28 an28 cd28 ct28), sl28⟩) (c28 : PySem.W.codeIn K cd28 "_law_part" = true) (k28 : PySem.W.keepIn K (.ref f28) = true)
    {f29 : Addr} {od29 an29 : Option Addr} {sl29 : Array (Option Value)} {oc29 kV29 dc29 pm29 cd29 ct29 : Value}
    (a29 : PySem.W.nsIn K mainGlobals "_law_least" = some (some (.ref f29))) (l29 : K.lookup f29 = some ⟨oc29, od29, .func (PySem.W.fnOf "_law_least" "_law_least" (defArgs s_l_least) (defBody s_l_least) (defScope s_l_least) .none kV29 dc29 pm29 an29 cd29 ct29), sl29⟩) (c29 : PySem.W.codeIn K cd29 "_law_least" = true) (k29 : PySem.W.keepIn K (.ref f29) = true)
    {f30 : Addr} {od30 an30 : Option Addr} {sl30 : Array (Option Value)} {oc30 kV30 dc30 pm30 cd30 ct30 : Value}
    (a30 : PySem.W.nsIn K mainGlobals "_law_worked" = some (some (.ref f30))) (l30 : K.lookup f30 = some ⟨oc30, od30, .func (PySem.W.fnOf "_law_worked" "_law_worked" (defArgs s_l_worked) (defBody s_l_worked) (defScope s_l_worked) .none kV30 dc30 pm30 an30 cd30 ct30), sl30⟩) (c30 : PySem.W.codeIn K cd30 "_law_worked" = true) (k30 : PySem.W.keepIn K (.ref f30) = true)
    {f31 : Addr} {od31 an31 : Option Addr} {sl31 : Array (Option Value)} {oc31 kV31 dc31 pm31 cd31 ct31 : Value}
    (a31 : PySem.W.nsIn K mainGlobals "_law_hour_done" = some (some (.ref f31))) (l31 : K.lookup f31 = some ⟨oc31, od31, .func (PySem.W.fnOf "_law_hour_done" "_law_hour_done" (defArgs s_l_hour_done) (defBody s_l_hour_done) (defScope s_l_hour_done) .none kV31 dc31 pm31 an31 cd31 ct31), sl31⟩) (c31 : PySem.W.codeIn K cd31 "_law_hour_done" = true) (k31 : PySem.W.keepIn K (.ref f31) = true)
    {f32 : Addr} {od32 an32 : Option Addr} {sl32 : Array (Option Value)} {oc32 kV32 dc32 pm32 cd32 ct32 : Value}
    (a32 : PySem.W.nsIn K mainGlobals "_law_plan" = some (some (.ref f32))) (l32 : K.lookup f32 = some ⟨oc32, od32, .func (PySem.W.fnOf "_law_plan" "_law_plan" (defArgs s_l_plan) (defBody s_l_plan) (defScope s_l_plan) .none kV32 dc32 pm32 an32 cd32 ct32), sl32⟩) (c32 : PySem.W.codeIn K cd32 "_law_plan" = true) (k32 : PySem.W.keepIn K (.ref f32) = true)
    {f33 : Addr} {od33 an33 : Option Addr} {sl33 : Array (Option Value)} {oc33 kV33 dc33 pm33 cd33 ct33 : Value}
    (a33 : PySem.W.nsIn K mainGlobals "_law_costs" = some (some (.ref f33))) (l33 : K.lookup f33 = some ⟨oc33, od33, .func (PySem.W.fnOf "_law_costs" "_law_costs" (defArgs s_l_costs) (defBody s_l_costs) (defScope s_l_costs) .none kV33 dc33 pm33 an33 cd33 ct33), sl33⟩) (c33 : PySem.W.codeIn K cd33 "_law_costs" = true) (k33 : PySem.W.keepIn K (.ref f33) = true)
    {f34 : Addr} {od34 an34 : Option Addr} {sl34 : Array (Option Value)} {oc34 kV34 dc34 pm34 cd34 ct34 : Value}
    (a34 : PySem.W.nsIn K mainGlobals "_law_value" = some (some (.ref f34))) (l34 : K.lookup f34 = some ⟨oc34, od34, .func (PySem.W.fnOf "_law_value" "_law_value" (defArgs s_l_value) (defBody s_l_value) (defScope s_l_value) .none kV34 dc34 pm34 an34 cd34 ct34), sl34⟩) (c34 : PySem.W.codeIn K cd34 "_law_value" = true) (k34 : PySem.W.keepIn K (.ref f34) = true)
    {f35 : Addr} {od35 an35 : Option Addr} {sl35 : Array (Option Value)} {oc35 kV35 dc35 pm35 cd35 ct35 : Value}
    (a35 : PySem.W.nsIn K mainGlobals "_law_triple" = some (some (.ref f35))) (l35 : K.lookup f35 = some ⟨oc35, od35, .func (PySem.W.fnOf "_law_triple" "_law_triple" (defArgs s_l_triple) (defBody s_l_triple) (defScope s_l_triple) .none kV35 dc35 pm35 an35 cd35 ct35), sl35⟩) (c35 : PySem.W.codeIn K cd35 "_law_triple" = true) (k35 : PySem.W.keepIn K (.ref f35) = true)
    {f36 : Addr} {od36 an36 : Option Addr} {sl36 : Array (Option Value)} {oc36 kV36 dc36 pm36 cd36 ct36 : Value}
    (a36 : PySem.W.nsIn K mainGlobals "_law_prices" = some (some (.ref f36))) (l36 : K.lookup f36 = some ⟨oc36, od36, .func (PySem.W.fnOf "_law_prices" "_law_prices" (defArgs s_l_prices) (defBody s_l_prices) (defScope s_l_prices) .none kV36 dc36 pm36 an36 cd36 ct36), sl36⟩) (c36 : PySem.W.codeIn K cd36 "_law_prices" = true) (k36 : PySem.W.keepIn K (.ref f36) = true)
    {f37 : Addr} {od37 an37 : Option Addr} {sl37 : Array (Option Value)} {oc37 kV37 dc37 pm37 cd37 ct37 : Value}
    (a37 : PySem.W.nsIn K mainGlobals "law" = some (some (.ref f37))) (l37 : K.lookup f37 = some ⟨oc37, od37, .func (PySem.W.fnOf "law" "law" (defArgs s_law) (defBody s_law) (defScope s_law) .none kV37 dc37 pm37 an37 cd37 ct37), sl37⟩) (c37 : PySem.W.codeIn K cd37 "law" = true) (k37 : PySem.W.keepIn K (.ref f37) = true)
    (z_abs : PySem.W.nsIn K mainGlobals "abs" = some none)
    (z_enumerate : PySem.W.nsIn K mainGlobals "enumerate" = some none)
    (z_len : PySem.W.nsIn K mainGlobals "len" = some none)
    (z_range : PySem.W.nsIn K mainGlobals "range" = some none)
    (z_tuple : PySem.W.nsIn K mainGlobals "tuple" = some none)
    (z_zip : PySem.W.nsIn K mainGlobals "zip" = some none)
    {kq_FREE : Addr} (ka_FREE : PySem.W.nsIn K mainGlobals "FREE" = some (some (.ref kq_FREE)))
    {kd_FREE : Option Addr} {kn_FREE : Nat} {ks_FREE : Array (Option Value)}  {kq_FREE_0 : Addr} {kq_FREE_1 : Addr} {kq_FREE_2 : Addr} (kl_FREE : K.lookup kq_FREE = some ⟨.type "tuple", kd_FREE, .seq #[(.ref kq_FREE_0), (.ref kq_FREE_1), (.ref kq_FREE_2)] kn_FREE, ks_FREE⟩)
    {kd_FREE_0 : Option Addr} {kn_FREE_0 : Nat} {ks_FREE_0 : Array (Option Value)} {kt_FREE_0_0 kt_FREE_0_1 : Tok} (kl_FREE_0 : K.lookup kq_FREE_0 = some ⟨.type "tuple", kd_FREE_0, .seq #[(.int 0 kt_FREE_0_0), (.int 1 kt_FREE_0_1)] kn_FREE_0, ks_FREE_0⟩)
    {kd_FREE_1 : Option Addr} {kn_FREE_1 : Nat} {ks_FREE_1 : Array (Option Value)} {kt_FREE_1_0 kt_FREE_1_1 : Tok} (kl_FREE_1 : K.lookup kq_FREE_1 = some ⟨.type "tuple", kd_FREE_1, .seq #[(.int 0 kt_FREE_1_0), (.int 1 kt_FREE_1_1)] kn_FREE_1, ks_FREE_1⟩)
    {kd_FREE_2 : Option Addr} {kn_FREE_2 : Nat} {ks_FREE_2 : Array (Option Value)} {kt_FREE_2_0 kt_FREE_2_1 : Tok} (kl_FREE_2 : K.lookup kq_FREE_2 = some ⟨.type "tuple", kd_FREE_2, .seq #[(.int 0 kt_FREE_2_0), (.int 1 kt_FREE_2_1)] kn_FREE_2, ks_FREE_2⟩)
    {kq_LACKED : Addr} (ka_LACKED : PySem.W.nsIn K mainGlobals "LACKED" = some (some (.ref kq_LACKED)))
    {kd_LACKED : Option Addr} {kn_LACKED : Nat} {ks_LACKED : Array (Option Value)}  {kq_LACKED_0 : Addr} {kq_LACKED_1 : Addr} {kq_LACKED_2 : Addr} (kl_LACKED : K.lookup kq_LACKED = some ⟨.type "tuple", kd_LACKED, .seq #[(.ref kq_LACKED_0), (.ref kq_LACKED_1), (.ref kq_LACKED_2)] kn_LACKED, ks_LACKED⟩)
    {kd_LACKED_0 : Option Addr} {kn_LACKED_0 : Nat} {ks_LACKED_0 : Array (Option Value)} {kt_LACKED_0_0 kt_LACKED_0_1 : Tok} (kl_LACKED_0 : K.lookup kq_LACKED_0 = some ⟨.type "tuple", kd_LACKED_0, .seq #[(.int 1 kt_LACKED_0_0), (.int 1 kt_LACKED_0_1)] kn_LACKED_0, ks_LACKED_0⟩)
    {kd_LACKED_1 : Option Addr} {kn_LACKED_1 : Nat} {ks_LACKED_1 : Array (Option Value)} {kt_LACKED_1_0 kt_LACKED_1_1 : Tok} (kl_LACKED_1 : K.lookup kq_LACKED_1 = some ⟨.type "tuple", kd_LACKED_1, .seq #[(.int 0 kt_LACKED_1_0), (.int 1 kt_LACKED_1_1)] kn_LACKED_1, ks_LACKED_1⟩)
    {kd_LACKED_2 : Option Addr} {kn_LACKED_2 : Nat} {ks_LACKED_2 : Array (Option Value)} {kt_LACKED_2_0 kt_LACKED_2_1 : Tok} (kl_LACKED_2 : K.lookup kq_LACKED_2 = some ⟨.type "tuple", kd_LACKED_2, .seq #[(.int 0 kt_LACKED_2_0), (.int 1 kt_LACKED_2_1)] kn_LACKED_2, ks_LACKED_2⟩)
    {kq_UNDONE : Addr} (ka_UNDONE : PySem.W.nsIn K mainGlobals "UNDONE" = some (some (.ref kq_UNDONE)))
    {kd_UNDONE : Option Addr} {kn_UNDONE : Nat} {ks_UNDONE : Array (Option Value)}  {kq_UNDONE_0 : Addr} {kq_UNDONE_1 : Addr} {kq_UNDONE_2 : Addr} (kl_UNDONE : K.lookup kq_UNDONE = some ⟨.type "tuple", kd_UNDONE, .seq #[(.ref kq_UNDONE_0), (.ref kq_UNDONE_1), (.ref kq_UNDONE_2)] kn_UNDONE, ks_UNDONE⟩)
    {kd_UNDONE_0 : Option Addr} {kn_UNDONE_0 : Nat} {ks_UNDONE_0 : Array (Option Value)} {kt_UNDONE_0_0 kt_UNDONE_0_1 : Tok} (kl_UNDONE_0 : K.lookup kq_UNDONE_0 = some ⟨.type "tuple", kd_UNDONE_0, .seq #[(.int 0 kt_UNDONE_0_0), (.int 1 kt_UNDONE_0_1)] kn_UNDONE_0, ks_UNDONE_0⟩)
    {kd_UNDONE_1 : Option Addr} {kn_UNDONE_1 : Nat} {ks_UNDONE_1 : Array (Option Value)} {kt_UNDONE_1_0 kt_UNDONE_1_1 : Tok} (kl_UNDONE_1 : K.lookup kq_UNDONE_1 = some ⟨.type "tuple", kd_UNDONE_1, .seq #[(.int 1 kt_UNDONE_1_0), (.int 1 kt_UNDONE_1_1)] kn_UNDONE_1, ks_UNDONE_1⟩)
    {kd_UNDONE_2 : Option Addr} {kn_UNDONE_2 : Nat} {ks_UNDONE_2 : Array (Option Value)} {kt_UNDONE_2_0 kt_UNDONE_2_1 : Tok} (kl_UNDONE_2 : K.lookup kq_UNDONE_2 = some ⟨.type "tuple", kd_UNDONE_2, .seq #[(.int 0 kt_UNDONE_2_0), (.int 1 kt_UNDONE_2_1)] kn_UNDONE_2, ks_UNDONE_2⟩) :
    ∃ fd : FuncData, (∀ (s : Shared) (v : Value), BindsTo s fd ⟨[v], []⟩ [("_law_script", v)]) ∧ ∀ base : Heap, K.In base → base.Ns mainGlobals mg → FnOk l.prog w K mg base CX0 9 fa fd ["_law_script"] (spF K F_law) := by
  have e := hfa.symm.trans (PySem.W.mg_of X G a37)
  cases e
  have F0 := fun_mk (st := s_common_divisor) l0 c0 k0
  have F1 := fun_mk (st := s_plus) l1 c1 k1
  have F2 := fun_mk (st := s_times) l2 c2 k2
  have F3 := fun_mk (st := s_under) l3 c3 k3
  have F4 := fun_mk (st := s_added) l4 c4 k4
  have F5 := fun_mk (st := s_multiplied) l5 c5 k5
  have F6 := fun_mk (st := s_ahead) l6 c6 k6
  have F7 := fun_mk (st := s_coins) l7 c7 k7
  have F8 := fun_mk (st := s_less) l8 c8 k8
  have F9 := fun_mk (st := s_line_rests) l9 c9 k9
  have F10 := fun_mk (st := s_hour_rests) l10 c10 k10
  have F11 := fun_mk (st := s_work_rests) l11 c11 k11
  have F12 := fun_mk (st := s_stored_of) l12 c12 k12
  have F13 := fun_mk (st := s_rests_of) l13 c13 k13
  have F14 := fun_mk (st := s_worth_of) l14 c14 k14
  have F15 := fun_mk (st := s_floor_of) l15 c15 k15
  have F16 := fun_mk (st := s_l_draw) l16 c16 k16
  have F17 := fun_mk (st := s_l_norm) l17 c17 k17
  have F18 := fun_mk (st := s_l_sum) l18 c18 k18
  have F19 := fun_mk (st := s_l_times) l19 c19 k19
  have F20 := fun_mk (st := s_l_more) l20 c20 k20
  have F21 := fun_mk (st := s_l_below) l21 c21 k21
  have F22 := fun_mk (st := s_l_cheaper) l22 c22 k22
  have F23 := fun_mk (st := s_l_negative) l23 c23 k23
  have F24 := fun_mk (st := s_l_number) l24 c24 k24
  have F25 := fun_mk (st := s_l_share) l25 c25 k25
  have F26 := fun_mk (st := s_l_house) l26 c26 k26
  have F27 := fun_mk (st := s_l_line) l27 c27 k27
  have F28 := fun_mk (st := s_l_part) l28 c28 k28
  have F29 := fun_mk (st := s_l_least) l29 c29 k29
  have F30 := fun_mk (st := s_l_worked) l30 c30 k30
  have F31 := fun_mk (st := s_l_hour_done) l31 c31 k31
  have F32 := fun_mk (st := s_l_plan) l32 c32 k32
  have F33 := fun_mk (st := s_l_costs) l33 c33 k33
  have F34 := fun_mk (st := s_l_value) l34 c34 k34
  have F35 := fun_mk (st := s_l_triple) l35 c35 k35
  have F36 := fun_mk (st := s_l_prices) l36 c36 k36
  have F37 := fun_mk (st := s_law) l37 c37 k37
  let ad : Ads := ⟨f0, PySem.W.fnOf "common_divisor" "common_divisor" (defArgs s_common_divisor) (defBody s_common_divisor) (defScope s_common_divisor) .none kV0 dc0 pm0 an0 cd0 ct0, f1, PySem.W.fnOf "plus" "plus" (defArgs s_plus) (defBody s_plus) (defScope s_plus) .none kV1 dc1 pm1 an1 cd1 ct1, f2, PySem.W.fnOf "times" "times" (defArgs s_times) (defBody s_times) (defScope s_times) .none kV2 dc2 pm2 an2 cd2 ct2, f3, PySem.W.fnOf "under" "under" (defArgs s_under) (defBody s_under) (defScope s_under) .none kV3 dc3 pm3 an3 cd3 ct3, f4, PySem.W.fnOf "added" "added" (defArgs s_added) (defBody s_added) (defScope s_added) .none kV4 dc4 pm4 an4 cd4 ct4, f5, PySem.W.fnOf "multiplied" "multiplied" (defArgs s_multiplied) (defBody s_multiplied) (defScope s_multiplied) .none kV5 dc5 pm5 an5 cd5 ct5, f6, PySem.W.fnOf "ahead" "ahead" (defArgs s_ahead) (defBody s_ahead) (defScope s_ahead) .none kV6 dc6 pm6 an6 cd6 ct6, f7, PySem.W.fnOf "coins" "coins" (defArgs s_coins) (defBody s_coins) (defScope s_coins) .none kV7 dc7 pm7 an7 cd7 ct7, f8, PySem.W.fnOf "less" "less" (defArgs s_less) (defBody s_less) (defScope s_less) .none kV8 dc8 pm8 an8 cd8 ct8, f9, PySem.W.fnOf "line_rests" "line_rests" (defArgs s_line_rests) (defBody s_line_rests) (defScope s_line_rests) .none kV9 dc9 pm9 an9 cd9 ct9, f10, PySem.W.fnOf "hour_rests" "hour_rests" (defArgs s_hour_rests) (defBody s_hour_rests) (defScope s_hour_rests) .none kV10 dc10 pm10 an10 cd10 ct10, f11, PySem.W.fnOf "work_rests" "work_rests" (defArgs s_work_rests) (defBody s_work_rests) (defScope s_work_rests) .none kV11 dc11 pm11 an11 cd11 ct11, f12, PySem.W.fnOf "stored_of" "stored_of" (defArgs s_stored_of) (defBody s_stored_of) (defScope s_stored_of) .none kV12 dc12 pm12 an12 cd12 ct12, f13, PySem.W.fnOf "rests_of" "rests_of" (defArgs s_rests_of) (defBody s_rests_of) (defScope s_rests_of) .none kV13 dc13 pm13 an13 cd13 ct13, f14, PySem.W.fnOf "worth_of" "worth_of" (defArgs s_worth_of) (defBody s_worth_of) (defScope s_worth_of) .none kV14 dc14 pm14 an14 cd14 ct14, f15, PySem.W.fnOf "floor_of" "floor_of" (defArgs s_floor_of) (defBody s_floor_of) (defScope s_floor_of) .none kV15 dc15 pm15 an15 cd15 ct15, f16, PySem.W.fnOf "_law_draw" "_law_draw" (defArgs s_l_draw) (defBody s_l_draw) (defScope s_l_draw) .none kV16 dc16 pm16 an16 cd16 ct16, f17, PySem.W.fnOf "_law_norm" "_law_norm" (defArgs s_l_norm) (defBody s_l_norm) (defScope s_l_norm) .none kV17 dc17 pm17 an17 cd17 ct17, f18, PySem.W.fnOf "_law_sum" "_law_sum" (defArgs s_l_sum) (defBody s_l_sum) (defScope s_l_sum) .none kV18 dc18 pm18 an18 cd18 ct18, f19, PySem.W.fnOf "_law_times" "_law_times" (defArgs s_l_times) (defBody s_l_times) (defScope s_l_times) .none kV19 dc19 pm19 an19 cd19 ct19, f20, PySem.W.fnOf "_law_more" "_law_more" (defArgs s_l_more) (defBody s_l_more) (defScope s_l_more) .none kV20 dc20 pm20 an20 cd20 ct20, f21, PySem.W.fnOf "_law_below" "_law_below" (defArgs s_l_below) (defBody s_l_below) (defScope s_l_below) .none kV21 dc21 pm21 an21 cd21 ct21, f22, PySem.W.fnOf "_law_cheaper" "_law_cheaper" (defArgs s_l_cheaper) (defBody s_l_cheaper) (defScope s_l_cheaper) .none kV22 dc22 pm22 an22 cd22 ct22, f23, PySem.W.fnOf "_law_negative" "_law_negative" (defArgs s_l_negative) (defBody s_l_negative) (defScope s_l_negative) .none kV23 dc23 pm23 an23 cd23 ct23, f24, PySem.W.fnOf "_law_number" "_law_number" (defArgs s_l_number) (defBody s_l_number) (defScope s_l_number) .none kV24 dc24 pm24 an24 cd24 ct24, f25, PySem.W.fnOf "_law_share" "_law_share" (defArgs s_l_share) (defBody s_l_share) (defScope s_l_share) .none kV25 dc25 pm25 an25 cd25 ct25, f26, PySem.W.fnOf "_law_house" "_law_house" (defArgs s_l_house) (defBody s_l_house) (defScope s_l_house) .none kV26 dc26 pm26 an26 cd26 ct26, f27, PySem.W.fnOf "_law_line" "_law_line" (defArgs s_l_line) (defBody s_l_line) (defScope s_l_line) .none kV27 dc27 pm27 an27 cd27 ct27, f28, PySem.W.fnOf "_law_part" "_law_part" (defArgs s_l_part) (defBody s_l_part) (defScope s_l_part) .none kV28 dc28 pm28 an28 cd28 ct28, f29, PySem.W.fnOf "_law_least" "_law_least" (defArgs s_l_least) (defBody s_l_least) (defScope s_l_least) .none kV29 dc29 pm29 an29 cd29 ct29, f30, PySem.W.fnOf "_law_worked" "_law_worked" (defArgs s_l_worked) (defBody s_l_worked) (defScope s_l_worked) .none kV30 dc30 pm30 an30 cd30 ct30, f31, PySem.W.fnOf "_law_hour_done" "_law_hour_done" (defArgs s_l_hour_done) (defBody s_l_hour_done) (defScope s_l_hour_done) .none kV31 dc31 pm31 an31 cd31 ct31, f32, PySem.W.fnOf "_law_plan" "_law_plan" (defArgs s_l_plan) (defBody s_l_plan) (defScope s_l_plan) .none kV32 dc32 pm32 an32 cd32 ct32, f33, PySem.W.fnOf "_law_costs" "_law_costs" (defArgs s_l_costs) (defBody s_l_costs) (defScope s_l_costs) .none kV33 dc33 pm33 an33 cd33 ct33, f34, PySem.W.fnOf "_law_value" "_law_value" (defArgs s_l_value) (defBody s_l_value) (defScope s_l_value) .none kV34 dc34 pm34 an34 cd34 ct34, f35, PySem.W.fnOf "_law_triple" "_law_triple" (defArgs s_l_triple) (defBody s_l_triple) (defScope s_l_triple) .none kV35 dc35 pm35 an35 cd35 ct35, f36, PySem.W.fnOf "_law_prices" "_law_prices" (defArgs s_l_prices) (defBody s_l_prices) (defScope s_l_prices) .none kV36 dc36 pm36 an36 cd36 ct36, fa, PySem.W.fnOf "law" "law" (defArgs s_law) (defBody s_law) (defScope s_law) .none kV37 dc37 pm37 an37 cd37 ct37, .ref kq_FREE, .ref kq_FREE, .ref kq_LACKED, .ref kq_LACKED, .ref kq_UNDONE, .ref kq_UNDONE⟩
  have T : Txt K mg ad := ⟨F0, PySem.W.mg_of X G a0, F0.binds (ps := ["one", "other"]) fun _ _ _ _ _ _ us hl => match us, hl with | [_, _], _ => rfl, F1, PySem.W.mg_of X G a1, F1.binds (ps := ["one", "other"]) fun _ _ _ _ _ _ us hl => match us, hl with | [_, _], _ => rfl, F2, PySem.W.mg_of X G a2, F2.binds (ps := ["one", "other"]) fun _ _ _ _ _ _ us hl => match us, hl with | [_, _], _ => rfl, F3, PySem.W.mg_of X G a3, F3.binds (ps := ["one", "other"]) fun _ _ _ _ _ _ us hl => match us, hl with | [_, _], _ => rfl, F4, PySem.W.mg_of X G a4, F4.binds (ps := ["one", "other"]) fun _ _ _ _ _ _ us hl => match us, hl with | [_, _], _ => rfl, F5, PySem.W.mg_of X G a5, F5.binds (ps := ["one", "by"]) fun _ _ _ _ _ _ us hl => match us, hl with | [_, _], _ => rfl, F6, PySem.W.mg_of X G a6, F6.binds (ps := ["one", "other"]) fun _ _ _ _ _ _ us hl => match us, hl with | [_, _], _ => rfl, F7, PySem.W.mg_of X G a7, F7.binds (ps := ["price"]) fun _ _ _ _ _ _ us hl => match us, hl with | [_], _ => rfl, F8, PySem.W.mg_of X G a8, F8.binds (ps := ["one", "other"]) fun _ _ _ _ _ _ us hl => match us, hl with | [_, _], _ => rfl, F9, PySem.W.mg_of X G a9, F9.binds (ps := ["line", "here"]) fun _ _ _ _ _ _ us hl => match us, hl with | [_, _], _ => rfl, F10, PySem.W.mg_of X G a10, F10.binds (ps := ["hour", "store", "here", "behind", "later"]) fun _ _ _ _ _ _ us hl => match us, hl with | [_, _, _, _, _], _ => rfl, F11, PySem.W.mg_of X G a11, F11.binds (ps := ["work", "here", "done"]) fun _ _ _ _ _ _ us hl => match us, hl with | [_, _, _], _ => rfl, F12, PySem.W.mg_of X G a12, F12.binds (ps := ["house", "prices"]) fun _ _ _ _ _ _ us hl => match us, hl with | [_, _], _ => rfl, F13, PySem.W.mg_of X G a13, F13.binds (ps := ["house", "prices"]) fun _ _ _ _ _ _ us hl => match us, hl with | [_, _], _ => rfl, F14, PySem.W.mg_of X G a14, F14.binds (ps := ["house", "prices"]) fun _ _ _ _ _ _ us hl => match us, hl with | [_, _], _ => rfl, F15, PySem.W.mg_of X G a15, F15.binds (ps := ["house", "prices"]) fun _ _ _ _ _ _ us hl => match us, hl with | [_, _], _ => rfl, F16, PySem.W.mg_of X G a16, F16.binds (ps := ["_law_script", "_law_k", "_law_many"]) fun _ _ _ _ _ _ us hl => match us, hl with | [_, _, _], _ => rfl, F17, PySem.W.mg_of X G a17, F17.binds (ps := ["_law_top", "_law_bottom"]) fun _ _ _ _ _ _ us hl => match us, hl with | [_, _], _ => rfl, F18, PySem.W.mg_of X G a18, F18.binds (ps := ["_law_one", "_law_other"]) fun _ _ _ _ _ _ us hl => match us, hl with | [_, _], _ => rfl, F19, PySem.W.mg_of X G a19, F19.binds (ps := ["_law_one", "_law_other"]) fun _ _ _ _ _ _ us hl => match us, hl with | [_, _], _ => rfl, F20, PySem.W.mg_of X G a20, F20.binds (ps := ["_law_one", "_law_other", "_law_by"]) fun _ _ _ _ _ _ us hl => match us, hl with | [_, _, _], _ => rfl, F21, PySem.W.mg_of X G a21, F21.binds (ps := ["_law_one", "_law_other"]) fun _ _ _ _ _ _ us hl => match us, hl with | [_, _], _ => rfl, F22, PySem.W.mg_of X G a22, F22.binds (ps := ["_law_one", "_law_other"]) fun _ _ _ _ _ _ us hl => match us, hl with | [_, _], _ => rfl, F23, PySem.W.mg_of X G a23, F23.binds (ps := ["_law_one"]) fun _ _ _ _ _ _ us hl => match us, hl with | [_], _ => rfl, F24, PySem.W.mg_of X G a24, F24.binds (ps := ["_law_script", "_law_k", "_law_most"]) fun _ _ _ _ _ _ us hl => match us, hl with | [_, _, _], _ => rfl, F25, PySem.W.mg_of X G a25, F25.binds (ps := ["_law_script", "_law_k"]) fun _ _ _ _ _ _ us hl => match us, hl with | [_, _], _ => rfl, F26, PySem.W.mg_of X G a26, F26.binds (ps := ["_law_script"]) fun _ _ _ _ _ _ us hl => match us, hl with | [_], _ => rfl, F27, PySem.W.mg_of X G a27, F27.binds (ps := ["_law_hour"]) fun _ _ _ _ _ _ us hl => match us, hl with | [_], _ => rfl, F28, PySem.W.mg_of X G a28, F28.binds (ps := ["_law_script", "_law_k"]) fun _ _ _ _ _ _ us hl => match us, hl with | [_, _], _ => rfl, F29, PySem.W.mg_of X G a29, F29.binds (ps := ["_law_some"]) fun _ _ _ _ _ _ us hl => match us, hl with | [_], _ => rfl, F30, PySem.W.mg_of X G a30, F30.binds (ps := ["_law_script", "_law_house_here", "_law_left", "_law_rest", "_law_t", "_law_k"]) fun _ _ _ _ _ _ us hl => match us, hl with | [_, _, _, _, _, _], _ => rfl, F31, PySem.W.mg_of X G a31, F31.binds (ps := ["_law_script", "_law_house_here", "_law_t", "_law_level", "_law_left", "_law_k"]) fun _ _ _ _ _ _ us hl => match us, hl with | [_, _, _, _, _, _], _ => rfl, F32, PySem.W.mg_of X G a32, F32.binds (ps := ["_law_script", "_law_house_here", "_law_k"]) fun _ _ _ _ _ _ us hl => match us, hl with | [_, _, _], _ => rfl, F33, PySem.W.mg_of X G a33, F33.binds (ps := ["_law_house_here", "_law_plan_here"]) fun _ _ _ _ _ _ us hl => match us, hl with | [_, _], _ => rfl, F34, PySem.W.mg_of X G a34, F34.binds (ps := ["_law_script", "_law_k"]) fun _ _ _ _ _ _ us hl => match us, hl with | [_, _], _ => rfl, F35, PySem.W.mg_of X G a35, F35.binds (ps := ["_law_script", "_law_k"]) fun _ _ _ _ _ _ us hl => match us, hl with | [_, _], _ => rfl, F36, PySem.W.mg_of X G a36, F36.binds (ps := ["_law_script", "_law_house_here", "_law_k"]) fun _ _ _ _ _ _ us hl => match us, hl with | [_, _, _], _ => rfl, F37, PySem.W.mg_of X G a37, F37.binds (ps := ["_law_script"]) fun _ _ _ _ _ _ us hl => match us, hl with | [_], _ => rfl, PySem.W.mg_none_of X G z_abs, PySem.W.mg_none_of X G z_enumerate, PySem.W.mg_none_of X G z_len, PySem.W.mg_none_of X G z_range, PySem.W.mg_none_of X G z_tuple, PySem.W.mg_none_of X G z_zip, const_tup (vs := [.ref kq_FREE_0, .ref kq_FREE_1, .ref kq_FREE_2]) (PySem.W.mg_of X G ka_FREE) kl_FREE (by simp) (.cons rfl (.cons rfl (.cons rfl .nil))) fun H => (.cons (const_dt (vs := [.int (0), .int (1)]) kl_FREE_0 (by simp) (.cons ⟨_, rfl⟩ (.cons ⟨_, rfl⟩ .nil)) (fun H => (.cons (.int _) (.cons (.int _) .nil))) H) (.cons (const_dt (vs := [.int (0), .int (1)]) kl_FREE_1 (by simp) (.cons ⟨_, rfl⟩ (.cons ⟨_, rfl⟩ .nil)) (fun H => (.cons (.int _) (.cons (.int _) .nil))) H) (.cons (const_dt (vs := [.int (0), .int (1)]) kl_FREE_2 (by simp) (.cons ⟨_, rfl⟩ (.cons ⟨_, rfl⟩ .nil)) (fun H => (.cons (.int _) (.cons (.int _) .nil))) H) .nil))), const_tup (vs := [.ref kq_LACKED_0, .ref kq_LACKED_1, .ref kq_LACKED_2]) (PySem.W.mg_of X G ka_LACKED) kl_LACKED (by simp) (.cons rfl (.cons rfl (.cons rfl .nil))) fun H => (.cons (const_dt (vs := [.int (1), .int (1)]) kl_LACKED_0 (by simp) (.cons ⟨_, rfl⟩ (.cons ⟨_, rfl⟩ .nil)) (fun H => (.cons (.int _) (.cons (.int _) .nil))) H) (.cons (const_dt (vs := [.int (0), .int (1)]) kl_LACKED_1 (by simp) (.cons ⟨_, rfl⟩ (.cons ⟨_, rfl⟩ .nil)) (fun H => (.cons (.int _) (.cons (.int _) .nil))) H) (.cons (const_dt (vs := [.int (0), .int (1)]) kl_LACKED_2 (by simp) (.cons ⟨_, rfl⟩ (.cons ⟨_, rfl⟩ .nil)) (fun H => (.cons (.int _) (.cons (.int _) .nil))) H) .nil))), const_tup (vs := [.ref kq_UNDONE_0, .ref kq_UNDONE_1, .ref kq_UNDONE_2]) (PySem.W.mg_of X G ka_UNDONE) kl_UNDONE (by simp) (.cons rfl (.cons rfl (.cons rfl .nil))) fun H => (.cons (const_dt (vs := [.int (0), .int (1)]) kl_UNDONE_0 (by simp) (.cons ⟨_, rfl⟩ (.cons ⟨_, rfl⟩ .nil)) (fun H => (.cons (.int _) (.cons (.int _) .nil))) H) (.cons (const_dt (vs := [.int (1), .int (1)]) kl_UNDONE_1 (by simp) (.cons ⟨_, rfl⟩ (.cons ⟨_, rfl⟩ .nil)) (fun H => (.cons (.int _) (.cons (.int _) .nil))) H) (.cons (const_dt (vs := [.int (0), .int (1)]) kl_UNDONE_2 (by simp) (.cons ⟨_, rfl⟩ (.cons ⟨_, rfl⟩ .nil)) (fun H => (.cons (.int _) (.cons (.int _) .nil))) H) .nil)))⟩
  exact ⟨PySem.W.fnOf "law" "law" (defArgs s_law) (defBody s_law) (defScope s_law) .none kV37 dc37 pm37 an37 cd37 ct37, fun s v => .of_eq rfl, fun base _ _ => ok_law T⟩
theorem walk {l : PySem.W.OpenLaw} {q : Program} {loose : List Str} {XP : (Str → Option Value) → Heap → Prop} {YP : World → Heap → Prop} {d : DefRec} {K : Params → PySem.W.Frag} (hL : ∀ ns : List Int, ns.length ≤ 63 → F_law [.list (ns.map .int)] = some (.dat (.bool true))) (hn : l.most = some 63) (hdf : d.params.defaults = [])
    (hY : ∀ (w : World) (h : Heap), YP w h → (K w.params).In h)
    (F : ∀ (w : World) (mg : Str → Option Value) (fa : Addr) (h : Heap), (K w.params).In h → h.Ns mainGlobals mg → mg d.name = some (.ref fa) →
      ∃ fd : FuncData, (∀ (s : Shared) (u : Value), BindsTo s fd ⟨[u], []⟩ [("_law_script", u)]) ∧ ∀ base : Heap, (K w.params).In base → base.Ns mainGlobals mg → FnOk l.prog w (K w.params) mg base CX0 9 fa fd ["_law_script"] (spF (K w.params) F_law)) :
    PySem.W.WalkO q loose XP YP l.row.toRowW d [] (fun f vs => PySem.call f vs) :=
  L2.walk_of (n := 63) (k := 9) (x := "_law_script") (CX := fun _ => CX0) (sp := fun w => spF (K w.params) F_law) hn (by decide) hdf ⟨rfl, by decide, by decide⟩ hY F (fun _ _ a ns hl _ hS => ⟨[], [.list (ns.map .int)], _, fun a h => absurd h (by simp), .cons (.lst (sqL_hid hS) (dts_ints ns)) .nil, hL ns hl, fun v H' _ r => dt_true r⟩) fun _ _ _ _ _ z => z
end Law

set_option Elab.async false
set_option linter.all false
set_option maxRecDepth 100000
set_option maxHeartbeats 4000000
noncomputable def PySem.W.Fast.tw11645253732735695114 : Unit := ()
noncomputable def PySem.W.Fast.tw9008355513223089226 : Unit := ()
noncomputable def PySem.W.Fast.tw13359389030411448402 : Unit := ()
noncomputable def PySem.W.Fast.tw15950614853446592399 : Unit := ()
noncomputable def PySem.W.Fast.tw18395871245183697693 : Unit := ()
noncomputable def PySem.W.Fast.tw459630479761279041 : Unit := ()
noncomputable def PySem.W.Fast.tw4176038328283234057 : Unit := ()
noncomputable def PySem.W.Fast.tw17531902621862702669 : Unit := ()
open PySem PySem.W PyProof.Rows
set_option maxRecDepth 100000 in
set_option maxHeartbeats 0 in
theorem PySem.Challenge.cw_sunstore_k42_whole_no_plan_under_a_floor_holds : PySem.Challenge.rw_sunstore_k42_whole_no_plan_under_a_floor.Holds := by
  w_on; o_law; k_head; (case hw => w_witness2)
  k_fill
  refine Law.walk (l := PySem.Challenge.rw_sunstore_k42_whole_no_plan_under_a_floor) Law.law_true rfl rfl (fun w h Y => PySem.W.kIn_of Y) ?F
  case F =>
    intro w mg fa h KX G hmg
    refine' Law.all_mk KX G hmg ?a0 ?l0 ?c0 ?k0 ?a1 ?l1 ?c1 ?k1 ?a2 ?l2 ?c2 ?k2 ?a3 ?l3 ?c3 ?k3 ?a4 ?l4 ?c4 ?k4 ?a5 ?l5 ?c5 ?k5 ?a6 ?l6 ?c6 ?k6 ?a7 ?l7 ?c7 ?k7 ?a8 ?l8 ?c8 ?k8 ?a9 ?l9 ?c9 ?k9 ?a10 ?l10 ?c10 ?k10 ?a11 ?l11 ?c11 ?k11 ?a12 ?l12 ?c12 ?k12 ?a13 ?l13 ?c13 ?k13 ?a14 ?l14 ?c14 ?k14 ?a15 ?l15 ?c15 ?k15 ?a16 ?l16 ?c16 ?k16 ?a17 ?l17 ?c17 ?k17 ?a18 ?l18 ?c18 ?k18 ?a19 ?l19 ?c19 ?k19 ?a20 ?l20 ?c20 ?k20 ?a21 ?l21 ?c21 ?k21 ?a22 ?l22 ?c22 ?k22 ?a23 ?l23 ?c23 ?k23 ?a24 ?l24 ?c24 ?k24 ?a25 ?l25 ?c25 ?k25 ?a26 ?l26 ?c26 ?k26 ?a27 ?l27 ?c27 ?k27 ?a28 ?l28 ?c28 ?k28 ?a29 ?l29 ?c29 ?k29 ?a30 ?l30 ?c30 ?k30 ?a31 ?l31 ?c31 ?k31 ?a32 ?l32 ?c32 ?k32 ?a33 ?l33 ?c33 ?k33 ?a34 ?l34 ?c34 ?k34 ?a35 ?l35 ?c35 ?k35 ?a36 ?l36 ?c36 ?k36 ?a37 ?l37 ?c37 ?k37 ?z_abs ?z_enumerate ?z_len ?z_range ?z_tuple ?z_zip ?ka_FREE ?kl_FREE ?kl_FREE_0 ?kl_FREE_1 ?kl_FREE_2 ?ka_LACKED ?kl_LACKED ?kl_LACKED_0 ?kl_LACKED_1 ?kl_LACKED_2 ?ka_UNDONE ?kl_UNDONE ?kl_UNDONE_0 ?kl_UNDONE_1 ?kl_UNDONE_2
    (case a0 => k_is)
    (case l0 => k_is)
    (case c0 => k_is)
    (case k0 => k_is)
    (case a1 => k_is)
    (case l1 => k_is)
    (case c1 => k_is)
    (case k1 => k_is)
    (case a2 => k_is)
    (case l2 => k_is)
    (case c2 => k_is)
    (case k2 => k_is)
    (case a3 => k_is)
    (case l3 => k_is)
    (case c3 => k_is)
    (case k3 => k_is)
    (case a4 => k_is)
    (case l4 => k_is)
    (case c4 => k_is)
    (case k4 => k_is)
    (case a5 => k_is)
    (case l5 => k_is)
    (case c5 => k_is)
    (case k5 => k_is)
    (case a6 => k_is)
    (case l6 => k_is)
    (case c6 => k_is)
    (case k6 => k_is)
    (case a7 => k_is)
    (case l7 => k_is)
    (case c7 => k_is)
    (case k7 => k_is)
    (case a8 => k_is)
    (case l8 => k_is)
    (case c8 => k_is)
    (case k8 => k_is)
    (case a9 => k_is)
    (case l9 => k_is)
    (case c9 => k_is)
    (case k9 => k_is)
    (case a10 => k_is)
    (case l10 => k_is)
    (case c10 => k_is)
    (case k10 => k_is)
    (case a11 => k_is)
    (case l11 => k_is)
    (case c11 => k_is)
    (case k11 => k_is)
    (case a12 => k_is)
    (case l12 => k_is)
    (case c12 => k_is)
    (case k12 => k_is)
    (case a13 => k_is)
    (case l13 => k_is)
    (case c13 => k_is)
    (case k13 => k_is)
    (case a14 => k_is)
    (case l14 => k_is)
    (case c14 => k_is)
    (case k14 => k_is)
    (case a15 => k_is)
    (case l15 => k_is)
    (case c15 => k_is)
    (case k15 => k_is)
    (case a16 => k_is)
    (case l16 => k_is)
    (case c16 => k_is)
    (case k16 => k_is)
    (case a17 => k_is)
    (case l17 => k_is)
    (case c17 => k_is)
    (case k17 => k_is)
    (case a18 => k_is)
    (case l18 => k_is)
    (case c18 => k_is)
    (case k18 => k_is)
    (case a19 => k_is)
    (case l19 => k_is)
    (case c19 => k_is)
    (case k19 => k_is)
    (case a20 => k_is)
    (case l20 => k_is)
    (case c20 => k_is)
    (case k20 => k_is)
    (case a21 => k_is)
    (case l21 => k_is)
    (case c21 => k_is)
    (case k21 => k_is)
    (case a22 => k_is)
    (case l22 => k_is)
    (case c22 => k_is)
    (case k22 => k_is)
    (case a23 => k_is)
    (case l23 => k_is)
    (case c23 => k_is)
    (case k23 => k_is)
    (case a24 => k_is)
    (case l24 => k_is)
    (case c24 => k_is)
    (case k24 => k_is)
    (case a25 => k_is)
    (case l25 => k_is)
    (case c25 => k_is)
    (case k25 => k_is)
    (case a26 => k_is)
    (case l26 => k_is)
    (case c26 => k_is)
    (case k26 => k_is)
    (case a27 => k_is)
    (case l27 => k_is)
    (case c27 => k_is)
    (case k27 => k_is)
    (case a28 => k_is)
    (case l28 => k_is)
    (case c28 => k_is)
    (case k28 => k_is)
    (case a29 => k_is)
    (case l29 => k_is)
    (case c29 => k_is)
    (case k29 => k_is)
    (case a30 => k_is)
    (case l30 => k_is)
    (case c30 => k_is)
    (case k30 => k_is)
    (case a31 => k_is)
    (case l31 => k_is)
    (case c31 => k_is)
    (case k31 => k_is)
    (case a32 => k_is)
    (case l32 => k_is)
    (case c32 => k_is)
    (case k32 => k_is)
    (case a33 => k_is)
    (case l33 => k_is)
    (case c33 => k_is)
    (case k33 => k_is)
    (case a34 => k_is)
    (case l34 => k_is)
    (case c34 => k_is)
    (case k34 => k_is)
    (case a35 => k_is)
    (case l35 => k_is)
    (case c35 => k_is)
    (case k35 => k_is)
    (case a36 => k_is)
    (case l36 => k_is)
    (case c36 => k_is)
    (case k36 => k_is)
    (case a37 => k_is)
    (case l37 => k_is)
    (case c37 => k_is)
    (case k37 => k_is)
    (case z_abs => k_is)
    (case z_enumerate => k_is)
    (case z_len => k_is)
    (case z_range => k_is)
    (case z_tuple => k_is)
    (case z_zip => k_is)
    (case ka_FREE => k_is)
    (case kl_FREE => k_is)
    (case kl_FREE_0 => k_is)
    (case kl_FREE_1 => k_is)
    (case kl_FREE_2 => k_is)
    (case ka_LACKED => k_is)
    (case kl_LACKED => k_is)
    (case kl_LACKED_0 => k_is)
    (case kl_LACKED_1 => k_is)
    (case kl_LACKED_2 => k_is)
    (case ka_UNDONE => k_is)
    (case kl_UNDONE => k_is)
    (case kl_UNDONE_0 => k_is)
    (case kl_UNDONE_1 => k_is)
    (case kl_UNDONE_2 => k_is)

