import PyProof.Rows.All
import Wide.All
import OpenK.AllK
import Wide.FinOn
import Lean
import PyProof.EqAt
import PyProof.EqKinds
import PyProof.TupleCall
import PySem.Challenge.RW_sunstore_k07_lines_by_what_stands_above
set_option Elab.async false
set_option linter.all false
set_option maxRecDepth 100000
namespace L2
open PySem PySem.Spec PyProof.Rows
noncomputable abbrev Key := Sum Int Str
noncomputable def keyIs : Key -> Value -> Bool
 | .inl k, v => Value.isInt k v
 | .inr x, v => Value.isStrOf x v
noncomputable def keyH (w : World) : Key -> Int
 | .inl k => hashInt k
 | .inr x => hashStr w x
theorem keyIs_shape : ∀ {k : Key} {v : Value}, keyIs k v = true -> (∃ i t, k = Sum.inl i /\ v = Value.int i t) \/ (∃ x t, k = Sum.inr x /\ v = Value.str x t)
 | .inl i, v, h => by
  obtain ⟨t, e⟩ := Value.isInt_shape (k := i) (v := v) h
  exact .inl ⟨i, t, rfl, e⟩
 | .inr x, v, h => by
  obtain ⟨t, e⟩ := Value.isStrOf_shape (x := x) (v := v) h
  exact .inr ⟨x, t, rfl, e⟩
theorem key_ll (a b : Int) : decide ((Sum.inl a : Key) = Sum.inl b) = (a == b) := by
 by_cases e : a = b
 . subst e; simp
 . have h : ¬ (Sum.inl a : Key) = Sum.inl b := fun q => e (Sum.inl.inj q)
   rw [decide_eq_false h]
   exact (beq_eq_false_iff_ne.mpr e).symm
theorem key_rr (a b : Str) : decide ((Sum.inr a : Key) = Sum.inr b) = decide (a = b) := by
 by_cases e : a = b
 . subst e; simp
 . have h : ¬ (Sum.inr a : Key) = Sum.inr b := fun q => e (Sum.inr.inj q)
   rw [decide_eq_false h, decide_eq_false e]
theorem key_lr (a : Int) (b : Str) : decide ((Sum.inl a : Key) = Sum.inr b) = false := decide_eq_false (fun q => nomatch q)
theorem key_rl (a : Str) (b : Int) : decide ((Sum.inr a : Key) = Sum.inl b) = false := decide_eq_false (fun q => nomatch q)
noncomputable def mixKind (prog : Program) (w : World) : PySem.KeyKind prog w Key where
 is := keyIs
 hash := keyH w
 inj := fun v a b ha hb => by
  rcases keyIs_shape ha with ⟨i, t, rfl, rfl⟩ | ⟨x, t, rfl, rfl⟩
  . rcases keyIs_shape hb with ⟨j, u, rfl, e⟩ | ⟨y, u, rfl, e⟩
    . injection e with e1 _; rw [e1]
    . exact nomatch e
  . rcases keyIs_shape hb with ⟨j, u, rfl, e⟩ | ⟨y, u, rfl, e⟩
    . exact nomatch e
    . injection e with e1 _; rw [e1]
 byValue := fun k v h => by
  rcases keyIs_shape h with ⟨i, t, rfl, rfl⟩ | ⟨x, t, rfl, rfl⟩ <;> rfl
 pyHash := fun hv h => by
  rcases keyIs_shape hv with ⟨i, t, rfl, rfl⟩ | ⟨x, t, rfl, rfl⟩
  . exact wpAny_pyHash_int h
  . exact wpAny_pyHash_str h
 eqBool := fun hu hv h => by
  rcases keyIs_shape hu with ⟨i, t, rfl, rfl⟩ | ⟨x, t, rfl, rfl⟩
  . rcases keyIs_shape hv with ⟨j, u, rfl, rfl⟩ | ⟨y, u, rfl, rfl⟩
    . rw [key_ll] at h; exact wpAny_eqBool_int h
    . rw [key_lr] at h; exact SeqAt.EqAt.int_str i t y u _ _ _ _ h
  . rcases keyIs_shape hv with ⟨j, u, rfl, rfl⟩ | ⟨y, u, rfl, rfl⟩
    . rw [key_rl] at h; exact SeqAt.EqAt.str_int x t j u _ _ _ _ h
    . rw [key_rr] at h; exact wpAny_eqBool_str h
 «strs» := fun k x t v h => by
  rcases keyIs_shape h with ⟨i, u, rfl, e⟩ | ⟨y, u, rfl, e⟩
  . exact nomatch e
  . injection e with e1 _
    subst e1
    cases v <;> rfl
end L2
namespace L2
open PySem PySem.Spec PyProof.Rows
inductive V where
 | non | bl (b : Bool) | int (i : Int) | str (x : Str) | byt (b : Array UInt8) | flt (b : UInt64) | ref (a : Addr) | ty (n : String)
 deriving DecidableEq
noncomputable def RelV : V -> Value -> Prop
 | .non, u => u = Value.none
 | .bl b, u => u = Value.bool b
 | .int i, u => ∃ t, u = Value.int i t
 | .str x, u => ∃ t, u = Value.str x t
 | .byt b, u => ∃ t, u = Value.bytes b t
 | .flt b, u => ∃ t, u = Value.float b t
 | .ref a, u => u = Value.ref a
 | .ty n, u => u = Value.type n
noncomputable abbrev Vals : List V -> List Value -> Prop := Paired RelV
theorem Vals.length {xs : List V} {us : List Value} (r : Vals xs us) : xs.length = us.length := Paired.length r
theorem Vals.get : ∀ {xs : List V} {us : List Value} {i : Nat} {x : V}, Vals xs us -> xs[i]? = some x -> ∃ u, us[i]? = some u /\ RelV x u
 | _, _, _, _, .nil, e => by simp at e
 | _, _, 0, _, .cons r _, e => by simp at e; subst e; exact ⟨_, rfl, r⟩
 | _, _, i + 1, x, .cons _ t, e => by
  obtain ⟨u, h1, h2⟩ := Vals.get (i := i) (x := x) t (by simpa using e)
  exact ⟨u, by simpa using h1, h2⟩
theorem Vals.set {x : V} {u : Value} (r : RelV x u) : ∀ {xs : List V} {us : List Value} (i : Nat), Vals xs us -> Vals (xs.set i x) (us.set i u)
 | _, _, _, .nil => .nil
 | _, _, 0, .cons _ t => .cons r t
 | _, _, i + 1, .cons q t => .cons q (Vals.set r i t)
theorem Vals.append : ∀ {xs ys : List V} {us ws : List Value}, Vals xs us -> Vals ys ws -> Vals (xs ++ ys) (us ++ ws)
 | _, _, _, _, .nil, s => s
 | _, _, _, _, .cons r t, s => .cons r (Vals.append t s)
theorem Vals.take : ∀ {xs : List V} {us : List Value} (n : Nat), Vals xs us -> Vals (xs.take n) (us.take n)
 | _, _, 0, _ => .nil
 | _, _, _ + 1, .nil => .nil
 | _, _, n + 1, .cons r t => .cons r (Vals.take n t)
theorem Vals.drop : ∀ {xs : List V} {us : List Value} (n : Nat), Vals xs us -> Vals (xs.drop n) (us.drop n)
 | _, _, 0, r => r
 | _, _, _ + 1, .nil => .nil
 | _, _, n + 1, .cons _ t => Vals.drop n t
noncomputable def RelO : Option V -> Option Value -> Prop
 | some v, some u => RelV v u
 | none, none => True
 | _, _ => False
noncomputable def KV {κ : Type} : List (κ × V) -> List (κ × Value) -> Prop := Paired fun (p : κ × V) (q : κ × Value) => p.1 = q.1 /\ RelV p.2 q.2
noncomputable def kV : Key -> V
 | .inl i => .int i
 | .inr x => .str x
inductive HO where
 | lst (xs : List V)
 | tup (xs : List V)
 | dK (kvs : List (Key × V)) | dT (kvs : List (List Key × V))
 | set (S : Int -> Bool) (n : Nat)
 | ins (C dx : Addr) (fs : List (Str × V))
 | own (x : Addr)
 | xd (fs : List (Str × V))
 | met (f x : Addr)
 | rng (lo hi : Int)
 | frz (o : Obj) (u : HO)
 | tbl (ps : Array Value)
 | ext (φ : Heap -> Prop)
noncomputable abbrev Hp := Addr -> Option HO
noncomputable def upd (H : Hp) (a : Addr) (o : HO) : Hp := fun b => if b = a then some o else H b
theorem upd_same {H : Hp} {a : Addr} {o : HO} : upd H a o a = some o := by unfold upd; rw [if_pos rfl]
theorem upd_ne {H : Hp} {a b : Addr} {o : HO} (h : b ≠ a) : upd H a o b = H b := by unfold upd; rw [if_neg h]
theorem upd_upd {H : Hp} {a : Addr} {o u : HO} : upd (upd H a o) a u = upd H a u := by
 funext b; unfold upd; split <;> rfl
theorem ne_of_none {H : Hp} {a b : Addr} {o : HO} (h : H a = some o) (h' : H b = none) : a ≠ b := by
 intro e; subst e; rw [h] at h'; cases h'
section
variable (P : Program) (w : World)
noncomputable def ObjOk (H : Hp) (h : Heap) (a : Addr) : HO -> Prop
 | .lst xs => xs.length <= sizeLine /\ ∃ (its : List Value) (n : Nat), Vals xs its /\ h.get? a = some { cls := .type "list", data := .seq its.toArray n }
 | .tup xs => xs.length <= sizeLine /\ ∃ its : List Value, Vals xs its /\ IsTup h a its.toArray
 | .dK kvs => kvs.length <= sizeLine /\ (a == sysModules) = false /\ ∃ vs, KV kvs vs /\ h.DictOf (mixKind P w) a vs
 | .dT kvs => kvs.length <= sizeLine /\ (a == sysModules) = false /\ ∃ xs : List (List Key × Addr × Value),
   Paired (fun (p : List Key × V) (q : List Key × Addr × Value) => p.1 = q.1 /\ H q.2.1 = some (.tup (p.1.map kV)) /\ RelV p.2 q.2.2) kvs xs /\
   ∃ o es ep, h.get? a = some o /\ o.ExactDict /\ o.data = .dict es ep /\ es.toList = xs.map (entryOfKey (tupleKind (mixKind P w))) /\ (xs.map (·.1)).Nodup
 | .set S n => h.SetOf (intKind P w) a S n
 | .ins C dx fs => H dx = some (.own a) /\ fs.length <= 1000 /\ dx ≠ a /\ h.get? a = some (PySem.W.instObj C dx) /\
   ∃ mA, h.Ns1 dx mA /\ (∀ f, RelO (fs.lookup f) (mA f)) /\ PySem.Within mA (fs.map (·.1))
 | .own _ => ∃ o, h.get? a = some o
 | .xd fs => ∃ mA, h.Ns1 a mA /\ ∀ f, RelO (fs.lookup f) (mA f)
 | .rng lo hi => ∃ t u v, h.get? a = some { cls := .type "range", data := .fields #[.int lo t, .int hi u, .int 1 v] }
 | .frz o u => h.get? a = some o /\ ObjOk H h a u
 | .tbl ps => h.get? a = some { cls := .none, data := .fields ps }
 | .met f x => h.get? a = some (PySem.W.methodObj (.ref f) (.ref x))
 | .ext φ => φ h /\ (∃ o, h.get? a = some o) /\ ∀ h1 h2 : Heap, φ h1 -> (∀ o, h1.get? a = some o -> h2.get? a = some o) -> φ h2
noncomputable def HOk (H : Hp) (h : Heap) : Prop := ∀ a o, H a = some o -> ObjOk P w H h a o
end
section
variable {P : Program} {w : World} {H H' : Hp} {h h' : Heap} {a : Addr} {o : HO}
theorem ObjOk.lt (x : ObjOk P w H h a o) : a < h.objs.size := by
 cases o with
 | lst xs => obtain ⟨_, _, _, _, e⟩ := x; exact Heap.lt_size e
 | tup xs => obtain ⟨_, _, _, p⟩ := x; exact p.lt
 | dK kvs => obtain ⟨_, _, _, _, o, _, _, e, _⟩ := x; exact Heap.lt_size e
 | dT kvs => obtain ⟨_, _, _, _, o, _, _, e, _⟩ := x; exact Heap.lt_size e
 | set S n => obtain ⟨o, _, _, _, e, _⟩ := x; exact Heap.lt_size e
 | ins C dx fs => obtain ⟨_, _, _, e, _⟩ := x; exact Heap.lt_size e
 | own y => obtain ⟨_, e⟩ := x; exact Heap.lt_size e
 | xd fs => obtain ⟨_, ⟨_, _, _, e, _⟩, _⟩ := x; exact Heap.lt_size e
 | rng lo hi => obtain ⟨_, _, _, e⟩ := x; exact Heap.lt_size e
 | frz ob u => obtain ⟨e, _⟩ := x; exact Heap.lt_size e
 | tbl ps => exact Heap.lt_size (show h.get? a = some _ from x)
 | met f y => exact Heap.lt_size (show h.get? a = some _ from x)
 | ext φ => obtain ⟨_, ⟨_, e⟩, _⟩ := x; exact Heap.lt_size e
theorem Paired.mapP {α β : Type} {F G : α -> β -> Prop} : ∀ {l₁ : List α} {l₂ : List β}, Paired F l₁ l₂ -> (∀ a b, F a b -> G a b) -> Paired G l₁ l₂
 | _, _, .nil, _ => .nil
 | _, _, .cons r t, f => .cons (f _ _ r) (Paired.mapP t f)
theorem ObjOk.stay (x : ObjOk P w H h a o) (k : ∀ b u, (b = a \/ H b = some (.own a)) -> h.get? b = some u -> h'.get? b = some u)
  (ho : ∀ b, H b = some (.own a) -> H' b = some (.own a)) (ht : ∀ b xs, H b = some (.tup xs) -> H' b = some (.tup xs)) : ObjOk P w H' h' a o := by
 induction o with
 | lst xs => obtain ⟨z, its, n, r, e⟩ := x; exact ⟨z, its, n, r, k _ _ (.inl rfl) e⟩
 | tup xs => obtain ⟨z, its, r, ob, e, c⟩ := x; exact ⟨z, its, r, ob, k _ _ (.inl rfl) e, c⟩
 | dK kvs => obtain ⟨z, y, vs, r, ob, es, ep, e, c⟩ := x; exact ⟨z, y, vs, r, ob, es, ep, k _ _ (.inl rfl) e, c⟩
 | dT kvs =>
  obtain ⟨z, y, xs, r, ob, es, ep, e, c⟩ := x
  exact ⟨z, y, xs, Paired.mapP r fun p q z => ⟨z.1, ht _ _ z.2.1, z.2.2⟩, ob, es, ep, k _ _ (.inl rfl) e, c⟩
 | set S n => obtain ⟨ob, es, ep, t, e, c⟩ := x; exact ⟨ob, es, ep, t, k _ _ (.inl rfl) e, c⟩
 | ins C dx fs =>
  obtain ⟨d, z, ne, e, mA, ⟨od, es, ep, e2, c⟩, r⟩ := x
  exact ⟨ho _ d, z, ne, k _ _ (.inl rfl) e, mA, ⟨od, es, ep, k _ _ (.inr d) e2, c⟩, r⟩
 | own y => obtain ⟨ob, e⟩ := x; exact ⟨ob, k _ _ (.inl rfl) e⟩
 | xd fs => obtain ⟨mA, ⟨od, es, ep, e, c⟩, r⟩ := x; exact ⟨mA, ⟨od, es, ep, k _ _ (.inl rfl) e, c⟩, r⟩
 | rng lo hi => obtain ⟨t, u, v, e⟩ := x; exact ⟨t, u, v, k _ _ (.inl rfl) e⟩
 | frz ob u ih => obtain ⟨e, q⟩ := x; exact ⟨k _ _ (.inl rfl) e, ih q⟩
 | tbl ps =>
  have e : h.get? a = some { cls := .none, data := .fields ps } := x
  show h'.get? a = some { cls := .none, data := .fields ps }
  exact k a _ (.inl rfl) e
 | met f y =>
  have e : h.get? a = some (PySem.W.methodObj (.ref f) (.ref y)) := x
  show h'.get? a = some (PySem.W.methodObj (.ref f) (.ref y))
  exact k a _ (.inl rfl) e
 | ext φ => obtain ⟨p, ⟨o, e⟩, st⟩ := x; exact ⟨st _ _ p fun o q => k _ _ (.inl rfl) q, ⟨o, k _ _ (.inl rfl) e⟩, st⟩
theorem HOk.lt (x : HOk P w H h) (e : H a = some o) : a < h.objs.size := (x a o e).lt
theorem HOk.fresh (x : HOk P w H h) (e : h.objs.size <= a) : H a = none := by
 cases q : H a with
 | none => rfl
 | some u => exact absurd (Nat.lt_of_lt_of_le (x.lt q) e) (Nat.lt_irrefl _)
theorem HOk.kept (x : HOk P w H h) (k : ∀ b u, h.get? b = some u -> h'.get? b = some u) : HOk P w H h' := fun a o e =>
 (x a o e).stay (fun b u _ q => k b u q) (fun _ q => q) fun _ _ q => q
theorem HOk.laid (x : HOk P w H h) (k : ∀ b u, h.get? b = some u -> h'.get? b = some u) (hp : h.objs.size <= a) (new : ObjOk P w (upd H a o) h' a o) : HOk P w (upd H a o) h' := fun b u e => by
 have hn := x.fresh hp
 by_cases hb : b = a
 . subst hb; rw [upd_same] at e; cases e; exact new
 . rw [upd_ne hb] at e
   exact (x b u e).stay (fun c v _ q => k c v q) (fun c q => by rw [upd_ne (ne_of_none q hn)]; exact q) fun c xs q => by rw [upd_ne (ne_of_none q hn)]; exact q
end
noncomputable def Rd (H : Hp) (a : Addr) (u : HO) : Prop := H a = some u \/ ∃ o, H a = some (.frz o u)
theorem Rd.ok {P : Program} {w : World} {H : Hp} {h : Heap} {a : Addr} {u : HO} (r : Rd H a u) (x : HOk P w H h) : ObjOk P w H h a u := by
 rcases r with r | ⟨o, r⟩
 . exact x a u r
 . obtain ⟨_, q⟩ := x a _ r
   exact q
noncomputable def Mut : Option HO -> Prop
 | some (.lst _) => True
 | some (.dK _) => True
 | some (.dT _) => True
 | some (.set _ _) => True
 | some (.ins _ _ _) => True
 | some (.ext _) => True
 | _ => False
section
variable {P : Program} {w : World} {H : Hp} {h h' : Heap} {x e : Addr} {o' : HO}
theorem HOk.write (ok : HOk P w H h) (mu : Mut (H x)) (he : e = x \/ H e = some (.own x)) (k : ∀ b u, b ≠ e -> h.get? b = some u -> h'.get? b = some u) (heo : ∃ u, h'.get? e = some u)
  (new : ObjOk P w (upd H x o') h' x o') : HOk P w (upd H x o') h' := fun b u q => by
 have nown : ∀ c y, H c = some (.own y) -> c ≠ x := fun c y r z => by subst z; rw [r] at mu; exact mu
 have ntup : ∀ c xs, H c = some (.tup xs) -> c ≠ x := fun c xs r z => by subst z; rw [r] at mu; exact mu
 by_cases hb : b = x
 . subst hb; rw [upd_same] at q; cases q; exact new
 . rw [upd_ne hb] at q
   by_cases hbe : b = e
   . have q' : H b = some (.own x) := by
       rcases he with z | z
       . exact absurd (hbe.trans z) hb
       . rw [hbe]; exact z
     rw [q] at q'; cases q'
     obtain ⟨v, hv⟩ := heo
     exact ⟨v, by rw [hbe]; exact hv⟩
   . refine (ok b u q).stay (fun c v hc r => k c v ?_ r) (fun c r => by rw [upd_ne (nown c b r)]; exact r) fun c xs r => by rw [upd_ne (ntup c xs r)]; exact r
     rcases hc with rfl | hc
     . exact hbe
     . rintro rfl
       rcases he with z | z
       . exact nown c b hc z
       . rw [hc] at z; cases z; exact hb rfl
end
structure Un (fs ex : List Addr) (H H' : Hp) (h h' : Heap) : Prop where
 keep : ∀ b o, h.get? b = some o -> H b = none -> b ∉ fs -> b ∉ ex -> h'.get? b = some o
 slot : ∀ b o, h.get? b = some o -> H b = none -> b ∈ fs -> b ∉ ex -> ∃ sl, h'.get? b = some { o with slots := sl }
 free : ∀ b o, h.get? b = some o -> H b = none -> b ∉ ex -> H' b = none
 there : ∀ b o, h.get? b = some o -> b ∉ ex -> ∃ o', h'.get? b = some o'
 tups : ∀ b xs, H b = some (.tup xs) -> H' b = some (.tup xs)
 frzs : ∀ b o u, H b = some (.frz o u) -> H' b = some (.frz o u)
 tbls : ∀ b ps, H b = some (.tbl ps) -> ∃ more, H' b = some (.tbl (ps ++ more))
section
variable {fs fs' ex ex' : List Addr} {H H1 H2 : Hp} {h h1 h2 h' : Heap} {a x e : Addr} {o : HO}
theorem Un.any (u : Un fs ex H H1 h h1) {b : Addr} {ob : Obj} (q : h.get? b = some ob) (n : H b = none) (hx : b ∉ ex) : ∃ sl, h1.get? b = some { ob with slots := sl } := by
 by_cases hb : b ∈ fs
 . exact u.slot b ob q n hb hx
 . exact ⟨ob.slots, u.keep b ob q n hb hx⟩
theorem Un.kept (k : ∀ b u, h.get? b = some u -> h'.get? b = some u) : Un fs ex H H h h' :=
 ⟨fun b ob q _ _ _ => k b ob q, fun b ob q _ _ _ => ⟨ob.slots, k b ob q⟩, fun _ _ _ n _ => n, fun b ob q _ => ⟨ob, k b ob q⟩, fun _ _ q => q, fun _ _ _ q => q, fun _ ps q => ⟨#[], by rw [q]; simp⟩⟩
theorem Un.refl : Un fs ex H H h h := Un.kept fun _ _ q => q
theorem Un.laid (k : ∀ b u, h.get? b = some u -> h'.get? b = some u) (hp : h.objs.size <= a) (hn : H a = none) : Un fs ex H (upd H a o) h h' where
 keep := fun b u q _ _ _ => k b u q
 slot := fun b u q _ _ _ => ⟨u.slots, k b u q⟩
 free := fun b u q n _ => by rw [upd_ne (Nat.ne_of_lt (Nat.lt_of_lt_of_le (Heap.lt_size q) hp))]; exact n
 there := fun b u q _ => ⟨u, k b u q⟩
 tups := fun b xs q => by rw [upd_ne (ne_of_none q hn)]; exact q
 frzs := fun b u xs q => by rw [upd_ne (ne_of_none q hn)]; exact q
 tbls := fun b ps q => ⟨#[], by rw [upd_ne (ne_of_none q hn), q]; simp⟩
theorem Un.write (mu : Mut (H x)) (he : e = x \/ H e = some (.own x)) (k : ∀ b u, b ≠ e -> h.get? b = some u -> h'.get? b = some u) (heo : ∃ u, h'.get? e = some u) : Un fs ex H (upd H x o) h h' := by
 have hx : ∀ b, H b = none -> b ≠ x := fun b n z => by subst z; rw [n] at mu; exact mu
 have hb : ∀ b, H b = none -> b ≠ e := fun b n z => by
  subst z
  rcases he with r | r
  . exact hx b n r
  . rw [n] at r; cases r
 have hm : ∀ b u, H b = some u -> ¬ Mut (some u) -> b ≠ x := fun b u q nm z => by subst z; rw [q] at mu; exact nm mu
 refine ⟨fun b u q n _ _ => k b u (hb b n) q, fun b u q n _ _ => ⟨u.slots, k b u (hb b n) q⟩, fun b u q n _ => by rw [upd_ne (hx b n)]; exact n, fun b u q _ => ?_,
  fun b xs q => by rw [upd_ne (hm b _ q fun z => z)]; exact q, fun b u xs q => by rw [upd_ne (hm b _ q fun z => z)]; exact q, fun b ps q => ⟨#[], by rw [upd_ne (hm b _ q fun z => z), q]; simp⟩⟩
 by_cases hbe : b = e
 . subst hbe; exact heo
 . exact ⟨u, k b u hbe q⟩
end
noncomputable def trk (h : Heap) (H : Hp) : List Addr := (List.range h.objs.size).filter fun a => (H a).isSome
noncomputable def hidT (h : Heap) (H : Hp) : Heap := PySem.W.hideAll h (trk h H)
theorem hidT_size (h : Heap) (H : Hp) : (hidT h H).objs.size = h.objs.size := PySem.W.hideAll_size _ _
theorem hidT_get {h : Heap} {H : Hp} {b : Addr} {o : Obj} (e : h.get? b = some o) (n : H b = none) : (hidT h H).get? b = some o :=
 PySem.W.hideAll_get _ e fun hm => by
  have q : (H b).isSome = true := (List.mem_filter.mp hm).2
  rw [n] at q; simp at q
theorem of_hidT {h : Heap} {H : Hp} {b : Addr} {o : Obj} (e : (hidT h H).get? b = some o) : h.get? b = some o /\ H b = none := by
 have e' : h.get? b = some o := PySem.W.of_hideAll (trk h H) e
 refine ⟨e', ?_⟩
 cases q : H b with
 | none => rfl
 | some x =>
  have hm : b ∈ trk h H := List.mem_filter.mpr ⟨List.mem_range.mpr (Heap.lt_size e'), by simp [q]⟩
  have z : (hidT h H).get? b = none := PySem.W.hideAll_none (trk h H) hm
  rw [z] at e; cases e
noncomputable def allNews (g h : Heap) (L : Addr) : List (Addr × Obj) := (List.range h.objs.size).filterMap fun a => if a = L \/ (g.get? a).isSome = true then none else (h.get? a).map fun o => (a, o)
noncomputable def rest (g h : Heap) (L d : Addr) : List (Addr × Obj) := (allNews g h L).filter fun p => decide (p.1 ≠ d)
end L2
namespace L2
open PySem PySem.Spec PyProof.Rows
structure Mod (K : PySem.W.Frag) (mg : Str -> Option Value) (base : Heap) : Prop where
 kin : K.In base
 glob : base.Ns mainGlobals mg
 blt : ∃ mb, base.Ns builtinsNs mb /\ ∀ x : Str, x ≠ "__name__" -> mb x = bootBuiltins x
 nolimit : base.NoLimit
structure Cx where
 prog : Program
 w : World
 K : PySem.W.Frag
 mg : Str -> Option Value
 base : Heap
 A : Around
 N : List Str
 s₀ : Shared
 H₀ : Hp
 env : Env
 outer : List Env
 stack : List Env
 ex : List Addr
 fn : Str -> Bool
 calm : Bool
 pn : List (Addr × Obj)
 xe : Value -> Shared -> Prop
noncomputable def frs (l : List Env) : List Addr := l.filterMap (·.frame)
noncomputable abbrev Cx.fs (X : Cx) : List Addr := frs X.outer
noncomputable def Vis (sc : Scope) (x : Str) : Prop := sc.names.lookup x = some .local \/ sc.names.lookup x = some .cell \/ sc.names.lookup x = some .free
noncomputable def Loc (sc : Scope) (x : Str) : Prop := sc.names.lookup x = some .local \/ sc.names.lookup x = some .cell
noncomputable def Look (env : Env) (h : Heap) (m : Str -> Option Value) (x : Str) (u : Value) : Prop :=
 (env.kindOf x = some .local /\ m x = some u) \/ ((env.kindOf x = some .cell \/ env.kindOf x = some .free) /\ ∃ c, env.cells.lookup x = some c /\ h.IsCell c (some u))
structure Cx.Ok (X : Cx) : Prop where
 mod : Mod X.K X.mg X.base
 kind : X.env.scope.kind = .function
 glob : X.env.globals = mainGlobals
 blt : X.env.builtins = builtinsNs
 above : X.s₀.heap.objs.size <= X.env.locals
 inj : ∀ x y c, X.env.cells.lookup x = some c -> X.env.cells.lookup y = some c -> x = y
 has : ∀ x, (X.env.kindOf x = some .cell \/ X.env.kindOf x = some .free) -> ∃ c, X.env.cells.lookup x = some c
 cab : ∀ x c, X.fn x = true -> X.env.cells.lookup x = some c -> X.s₀.heap.objs.size <= c
 hd : X.calm = true -> X.A.handled = none
 frames : X.A.frames = some X.stack
 stk : X.stack = X.outer \/ (X.stack = X.env :: X.outer /\ X.env.frame = some X.env.locals)
 exf : ∀ b ∈ X.ex, b ≠ X.env.locals /\ ∀ x c, X.env.cells.lookup x = some c -> c ≠ b
 bs : ∀ b o, X.base.get? b = some o -> X.s₀.heap.get? b = some o /\ X.H₀ b = none
 bsz : X.base.objs.size <= X.s₀.heap.objs.size
 noex : ∀ b o, X.base.get? b = some o -> b ∉ X.ex
 exfs : ∀ b ∈ X.ex, b ∉ X.fs
 funs : X.s₀.heap.FunFrames X.base X.outer
 frf : ∀ b ∈ X.fs, X.H₀ b = none
structure Inv (X : Cx) (pins : List (Addr × Obj)) (σ : List (Option V)) (H : Hp) (s : Shared) : Prop where
 ok : X.Ok
 os : s.os = X.s₀.os
 bare : AllBare s.gens
 base : Un X.fs X.ex X.H₀ H X.s₀.heap s.heap
 loc : ∃ m, s.heap.Ns X.env.locals m /\ ∀ (i : Nat) (x : Str) (v : V), X.N[i]? = some x -> σ[i]? = some (some v) -> Vis X.env.scope x -> ∃ u, RelV v u /\ Look X.env s.heap m x u
 cell : ∀ x c, X.env.cells.lookup x = some c -> ∃ v, s.heap.IsCell c v
 free : H X.env.locals = none
 freeC : ∀ x c, X.env.cells.lookup x = some c -> H c = none
 pin : ∀ p ∈ X.pn ++ pins, s.heap.get? p.1 = some p.2 /\ H p.1 = none /\ p.1 ≠ X.env.locals /\ p.1 ∉ X.fs /\ ∀ v, p.2.data ≠ .cell v
 hok : HOk X.prog X.w H s.heap
 len : σ.length = X.N.length
section
variable {X : Cx} {pins : List (Addr × Obj)} {σ : List (Option V)} {H H' : Hp} {s : Shared} {h' : Heap}
theorem Cx.Ok.nofr (ok : X.Ok) {b : Addr} {o : Obj} (e : X.base.get? b = some o) : b ∉ X.fs := fun hb => by
 have := (ok.funs.mem hb).1
 rw [e] at this; cases this
theorem Inv.bs (I : Inv X pins σ H s) : ∀ b o, X.base.get? b = some o -> s.heap.get? b = some o /\ H b = none := fun b o e =>
 ⟨I.base.keep b o (I.ok.bs b o e).1 (I.ok.bs b o e).2 (I.ok.nofr e) (I.ok.noex b o e), I.base.free b o (I.ok.bs b o e).1 (I.ok.bs b o e).2 (I.ok.noex b o e)⟩
theorem Inv.bk (I : Inv X pins σ H s) : ∀ b o, X.base.get? b = some o -> s.heap.get? b = some o := fun b o e => (I.bs b o e).1
theorem Inv.mod (I : Inv X pins σ H s) : Mod X.K X.mg X.base := I.ok.mod
theorem Inv.kIn (I : Inv X pins σ H s) : X.K.In s.heap := I.ok.mod.kin.keeps I.bk
theorem Inv.fr (I : Inv X pins σ H s) : ∃ m, Fr X.base X.env.locals s.heap m :=
 let ⟨m, hn, _⟩ := I.loc
 ⟨m, hn, I.bk, Nat.le_trans I.ok.bsz I.ok.above⟩
theorem Inv.lt (I : Inv X pins σ H s) : X.env.locals < s.heap.objs.size := let ⟨_, hn, _⟩ := I.loc; hn.lt
theorem Inv.sz (I : Inv X pins σ H s) : X.s₀.heap.objs.size <= s.heap.objs.size := Nat.le_trans I.ok.above (Nat.le_of_lt I.lt)
theorem Inv.nofs (I : Inv X pins σ H s) {a : Addr} (h : s.heap.objs.size <= a) : a ∉ X.fs := fun hb => by
 obtain ⟨_, o, ho, _⟩ := I.ok.funs.mem hb
 exact absurd (Nat.lt_of_lt_of_le (Heap.lt_size ho) (Nat.le_trans I.sz h)) (Nat.lt_irrefl _)
theorem Inv.cne (I : Inv X pins σ H s) : ∀ x c, X.env.cells.lookup x = some c -> c ≠ X.env.locals := fun x c e z => by
 obtain ⟨v, o, ho, hd⟩ := I.cell x c e
 obtain ⟨m, ⟨o', es, ep, ho', hd', _⟩, _⟩ := I.loc
 rw [z, ho'] at ho; cases ho; rw [hd'] at hd; cases hd
theorem Inv.funs (I : Inv X pins σ H s) : s.heap.FunFrames X.base X.outer := by
 have all : ∀ (l : List Env), (∀ b ∈ frs l, b ∈ X.fs) -> X.s₀.heap.FunFrames X.base l -> s.heap.FunFrames X.base l := by
  intro l
  induction l with
  | nil => intro _ _; trivial
  | cons env r ih =>
   intro hs hl
   obtain ⟨hk, ⟨L, o, hf, hn, ho, hd⟩, hr⟩ := hl
   have hL : L ∈ X.fs := hs L (by unfold frs; rw [List.filterMap_cons, hf]; exact List.mem_cons_self)
   obtain ⟨sl, e⟩ := I.base.slot L o ho (I.ok.frf L hL) hL fun z => I.ok.exfs L z hL
   exact ⟨hk, ⟨L, _, hf, hn, e, hd⟩, ih (fun b hb => hs b (by unfold frs; rw [List.filterMap_cons, hf]; exact List.mem_cons_of_mem _ hb)) hr⟩
 exact all X.outer (fun _ hb => hb) I.ok.funs
theorem Inv.stack (I : Inv X pins σ H s) : s.heap.FunFrames X.base X.stack := by
 rcases I.ok.stk with e | ⟨e, hf⟩
 . rw [e]; exact I.funs
 . rw [e]
   obtain ⟨m, hn, _⟩ := I.loc
   refine .cons (by rw [I.ok.kind]; decide) hf hn ?_ I.funs
   exact Heap.get?_none_of_le (Nat.le_trans I.ok.bsz I.ok.above)
theorem Inv.stkSub (I : Inv X pins σ H s) : ∀ b ∈ frs X.stack, b ∈ X.env.locals :: X.fs := fun b hb => by
 rcases I.ok.stk with e | ⟨e, hf⟩
 . rw [e] at hb; exact List.mem_cons_of_mem _ hb
 . rw [e] at hb
   unfold frs at hb
   rw [List.filterMap_cons, hf] at hb
   exact hb
theorem Inv.stkFree (I : Inv X pins σ H s) : ∀ b ∈ frs X.stack, H b = none := fun b hb => by
 rcases List.mem_cons.mp (I.stkSub b hb) with e | hb
 . rw [e]; exact I.free
 . obtain ⟨_, o, ho, _⟩ := I.ok.funs.mem hb
   exact I.base.free b o ho (I.ok.frf b hb) fun z => I.ok.exfs b z hb
theorem Inv.step {g' : Array GenState} {t' : Nat} {d' : Drawn} {ch : List Addr} (I : Inv X pins σ H s)
  (hch : ∀ b ∈ ch, (b ∈ X.ex \/ X.s₀.heap.objs.size <= b) /\ b ≠ X.env.locals /\ (∀ x c, X.env.cells.lookup x = some c -> c ≠ b) /\ ∀ p ∈ X.pn ++ pins, p.1 ≠ b)
  (keep : ∀ b o, b ≠ X.env.locals -> b ∉ X.fs -> b ∉ ch -> s.heap.get? b = some o -> H b = none -> h'.get? b = some o)
  (slot : ∀ b o, b ≠ X.env.locals -> b ∈ X.fs -> b ∉ ch -> s.heap.get? b = some o -> H b = none -> ∃ sl, h'.get? b = some { o with slots := sl }) (free : ∀ b o, b ∉ ch -> s.heap.get? b = some o -> H b = none -> H' b = none)
  (there : ∀ b o, b ∉ ch -> s.heap.get? b = some o -> ∃ o', h'.get? b = some o')
  (tups : ∀ b xs, H b = some (.tup xs) -> H' b = some (.tup xs)) (frzs : ∀ b o u, H b = some (.frz o u) -> H' b = some (.frz o u)) (tbls : ∀ b ps, H b = some (.tbl ps) -> ∃ more, H' b = some (.tbl (ps ++ more)))
  (ns : ∀ m, s.heap.Ns X.env.locals m -> h'.Ns X.env.locals m) (hok : HOk X.prog X.w H' h') (hg : AllBare g') :
  Inv X pins σ H' { s with heap := h', gens := g', drawn := d', toks := t' } := by
 have neL : ∀ b o, X.s₀.heap.get? b = some o -> b ≠ X.env.locals := fun b o e => Nat.ne_of_lt (Nat.lt_of_lt_of_le (Heap.lt_size e) I.ok.above)
 have neC : ∀ b o, X.s₀.heap.get? b = some o -> b ∉ X.ex -> b ∉ ch := fun b o e hx hb => by
  rcases (hch b hb).1 with z | z
  . exact hx z
  . exact absurd (Nat.lt_of_lt_of_le (Heap.lt_size e) z) (Nat.lt_irrefl _)
 have cellK : ∀ x c, X.env.cells.lookup x = some c -> ∀ v, s.heap.IsCell c v -> h'.IsCell c v := fun x c e v ⟨o, ho, hd⟩ => by
  have nch : c ∉ ch := fun z => (hch c z).2.2.1 x c e rfl
  by_cases hc : c ∈ X.fs
  . obtain ⟨sl, q⟩ := slot c o (I.cne x c e) hc nch ho (I.freeC x c e)
    exact ⟨_, q, hd⟩
  . exact ⟨o, keep c o (I.cne x c e) hc nch ho (I.freeC x c e), hd⟩
 refine ⟨I.ok, I.os, hg, ⟨fun b o e n hb hx => ?_, fun b o e n hb hx => ?_, fun b o e n hx => ?_, fun b o e hx => ?_, fun b xs e => tups b xs (I.base.tups b xs e), fun b o xs e => frzs b o xs (I.base.frzs b o xs e), fun b ps e => ?_⟩, ?_, fun x c e => ?_, ?_, fun x c e => ?_, fun p hp => ?_, hok, I.len⟩
 . exact keep b o (neL b o e) hb (neC b o e hx) (I.base.keep b o e n hb hx) (I.base.free b o e n hx)
 . obtain ⟨sl, e1⟩ := I.base.slot b o e n hb hx
   obtain ⟨sl', e2⟩ := slot b _ (neL b o e) hb (neC b o e hx) e1 (I.base.free b o e n hx)
   exact ⟨sl', e2⟩
 . obtain ⟨o', e1⟩ := I.base.there b o e hx
   exact free b o' (neC b o e hx) e1 (I.base.free b o e n hx)
 . obtain ⟨o', e1⟩ := I.base.there b o e hx
   exact there b o' (neC b o e hx) e1
 . obtain ⟨m1, e1⟩ := I.base.tbls b ps e
   obtain ⟨m2, e2⟩ := tbls b _ e1
   exact ⟨m1 ++ m2, by rw [e2, Array.append_assoc]⟩
 . obtain ⟨m, hn, hl⟩ := I.loc
   refine ⟨m, ns m hn, fun i x v e1 e2 e3 => ?_⟩
   obtain ⟨u, r, l⟩ := hl i x v e1 e2 e3
   refine ⟨u, r, ?_⟩
   rcases l with l | ⟨k, c, e, z⟩
   . exact .inl l
   . exact .inr ⟨k, c, e, cellK x c e _ z⟩
 . obtain ⟨v, z⟩ := I.cell x c e
   exact ⟨v, cellK x c e v z⟩
 . obtain ⟨m, ⟨o, _, _, ho, _⟩, _⟩ := I.loc
   exact free _ o (fun z => (hch _ z).2.1 rfl) ho I.free
 . obtain ⟨v, o, ho, hd⟩ := I.cell x c e
   exact free c o (fun z => (hch c z).2.2.1 x c e rfl) ho (I.freeC x c e)
 . obtain ⟨e, n, ne, nf, d⟩ := I.pin p hp
   have nch : p.1 ∉ ch := fun z => (hch p.1 z).2.2.2 p hp rfl
   exact ⟨keep p.1 p.2 ne nf nch e n, free p.1 p.2 nch e n, ne, nf, d⟩
theorem Inv.un {t' : Nat} (I : Inv X pins σ H s) (u : Un X.fs [] H H' s.heap h') (hok : HOk X.prog X.w H' h') : Inv X pins σ H' { s with heap := h', toks := t' } := by
 obtain ⟨m, ⟨o, es, ep, ho, r⟩, _⟩ := id I.loc
 obtain ⟨sl, hL⟩ := u.any ho I.free (by simp)
 exact I.step (g' := s.gens) (d' := s.drawn) (ch := []) (fun _ z => nomatch z) (fun b o _ hb _ e n => u.keep b o e n hb (by simp)) (fun b o _ hb _ e n => u.slot b o e n hb (by simp)) (fun b o _ e n => u.free b o e n (by simp)) (fun b o _ e => u.there b o e (by simp)) u.tups u.frzs u.tbls (fun m' hm => by
  obtain ⟨o', es', ep', ho', r'⟩ := hm
  rw [ho] at ho'; cases ho'
  exact ⟨_, es', ep', hL, r'⟩) hok I.bare
theorem Inv.call {g' : Array GenState} {t' : Nat} {d' : Drawn} {ch : List Addr} (I : Inv X pins σ H s) (u : Un (frs X.stack) ch H H' s.heap h') (hok : HOk X.prog X.w H' h') (hg : AllBare g')
  (hch : ∀ b ∈ ch, (b ∈ X.ex \/ X.s₀.heap.objs.size <= b) /\ b ≠ X.env.locals /\ (∀ x c, X.env.cells.lookup x = some c -> c ≠ b) /\ ∀ p ∈ X.pn ++ pins, p.1 ≠ b) :
  Inv X pins σ H' { s with heap := h', gens := g', drawn := d', toks := t' } := by
 obtain ⟨m, ⟨o, es, ep, ho, r⟩, _⟩ := id I.loc
 obtain ⟨sl, hL⟩ := u.any ho I.free fun z => (hch _ z).2.1 rfl
 exact I.step (ch := ch) hch (fun b o hL hb hc e n => u.keep b o e n (fun z => (List.mem_cons.mp (I.stkSub b z)).elim hL hb) hc) (fun b o _ _ hc e n => u.any e n hc) (fun b o hc e n => u.free b o e n hc) (fun b o hc e => u.there b o e hc) u.tups u.frzs u.tbls (fun m' hm => by
  obtain ⟨o', es', ep', ho', r'⟩ := hm
  rw [ho] at ho'; cases ho'
  exact ⟨_, es', ep', hL, r'⟩) hok hg
theorem Inv.turned {t' : Nat} {it : Addr} (I : Inv X pins σ H s) (k : ∀ b o, b ≠ it -> s.heap.get? b = some o -> h'.get? b = some o) (hn : H it = none) (hL : it ≠ X.env.locals)
  (h1 : it ∈ X.ex \/ X.s₀.heap.objs.size <= it) (h2 : ∀ x c, X.env.cells.lookup x = some c -> c ≠ it) (h3 : ∀ p ∈ X.pn ++ pins, p.1 ≠ it) : Inv X pins σ H { s with heap := h', toks := t' } := by
 have nit : ∀ b u, H b = some u -> b ≠ it := fun b u e z => by rw [z, hn] at e; cases e
 refine I.step (g' := s.gens) (d' := s.drawn) (ch := [it]) (fun b hb => ?_) (fun b o _ _ hc e _ => k b o (fun z => hc (by simp [z])) e) (fun b o _ _ hc e _ => ⟨o.slots, k b o (fun z => hc (by simp [z])) e⟩) (fun _ _ _ _ n => n)
  (fun b o hc e => ⟨o, k b o (fun z => hc (by simp [z])) e⟩) (fun _ _ e => e) (fun _ _ _ e => e) (fun b ps e => ⟨#[], by rw [e]; simp⟩) (fun m hm => ?_) (fun b u e => ?_) I.bare
 . have e : b = it := by simpa using hb
   subst e
   exact ⟨h1, hL, h2, h3⟩
 . obtain ⟨o, es, ep, ho, r⟩ := hm
   exact ⟨o, es, ep, k _ o (Ne.symm hL) ho, r⟩
 . refine (I.hok b u e).stay (fun c v hc q => k c v ?_ q) (fun _ q => q) fun _ _ q => q
   rcases hc with z | z
   . rw [z]; exact nit b u e
   . exact nit c _ z
theorem Inv.tok (I : Inv X pins σ H s) (t : Nat) : Inv X pins σ H { s with toks := t } := I.un (h' := s.heap) (t' := t) Un.refl I.hok
theorem Inv.kept {t' : Nat} (I : Inv X pins σ H s) (k : ∀ b u, s.heap.get? b = some u -> h'.get? b = some u) : Inv X pins σ H { s with heap := h', toks := t' } := I.un (Un.kept k) (I.hok.kept k)
theorem Inv.laid {a : Addr} {o : HO} {t' : Nat} (I : Inv X pins σ H s) (k : ∀ b u, s.heap.get? b = some u -> h'.get? b = some u) (hp : s.heap.objs.size <= a) (new : ObjOk X.prog X.w (upd H a o) h' a o) :
  Inv X pins σ (upd H a o) { s with heap := h', toks := t' } := I.un (Un.laid k hp (I.hok.fresh hp)) (I.hok.laid k hp new)
theorem Inv.write {x e : Addr} {o : HO} {t' : Nat} (I : Inv X pins σ H s) (mu : Mut (H x)) (he : e = x \/ H e = some (.own x)) (k : ∀ b u, b ≠ e -> s.heap.get? b = some u -> h'.get? b = some u) (heo : ∃ u, h'.get? e = some u)
  (new : ObjOk X.prog X.w (upd H x o) h' x o) : Inv X pins σ (upd H x o) { s with heap := h', toks := t' } := I.un (Un.write mu he k heo) (I.hok.write mu he k heo new)
theorem Inv.weak {σ' : List (Option V)} (I : Inv X pins σ H s) (hl : σ'.length = σ.length) (w : ∀ (i : Nat) v, σ'[i]? = some (some v) -> σ[i]? = some (some v)) : Inv X pins σ' H s :=
 ⟨I.ok, I.os, I.bare, I.base, let ⟨m, hn, hl'⟩ := I.loc; ⟨m, hn, fun i x v e1 e2 e3 => hl' i x v e1 (w i v e2) e3⟩, I.cell, I.free, I.freeC, I.pin, I.hok, hl.trans I.len⟩
theorem Inv.pins_of {pins' : List (Addr × Obj)} (I : Inv X pins σ H s) (h : ∀ p ∈ pins', s.heap.get? p.1 = some p.2 /\ H p.1 = none /\ p.1 ≠ X.env.locals /\ p.1 ∉ X.fs /\ ∀ v, p.2.data ≠ .cell v) : Inv X pins' σ H s :=
 ⟨I.ok, I.os, I.bare, I.base, I.loc, I.cell, I.free, I.freeC, fun p hp => (List.mem_append.mp hp).elim (fun z => I.pin p (List.mem_append_left _ z)) (h p), I.hok, I.len⟩
theorem nodup_ix {N : List Str} (hN : N.Nodup) {i j : Nat} {x : Str} (a : N[i]? = some x) (b : N[j]? = some x) : i = j := by
 obtain ⟨h1, e1⟩ := List.getElem?_eq_some_iff.mp a
 obtain ⟨h2, e2⟩ := List.getElem?_eq_some_iff.mp b
 exact (List.getElem_inj hN).mp (e1.trans e2.symm)
theorem store_ok2 {M : Model} {A : Around} {E : Value -> Shared -> Prop} {i : Nat} {x : Str} {v : V} {u : Value} {Q : Unit -> Shared -> Prop} (I : Inv X pins σ H s) (hN : X.N.Nodup) (hi : X.N[i]? = some x) (hx : Loc X.env.scope x) (r : RelV v u)
  (h : ∀ s', Inv X pins (σ.set i (some v)) H s' -> (∃ a, Heap.SameBut a s.heap s'.heap /\ (a = X.env.locals \/ X.env.cells.lookup x = some a)) -> Q () s') (hf : X.fn x = true \/ X.env.scope.names.lookup x = some .local := by first | exact .inl rfl | exact .inr rfl | assumption) : wpAny M A (storeName X.env x u) Q E s := by
 obtain ⟨m, hn, hl⟩ := id I.loc
 have hcls : (X.env.scope.kind == .class || (X.env.scope.kind == .module && X.env.locals != X.env.globals)) = false := by rw [I.ok.kind]; rfl
 have hiσ : i < σ.length := by rw [I.len]; exact (List.getElem?_eq_some_iff.mp hi).1
 have cne := I.cne
 have tracked : ∀ {a : Addr} {h' : Heap}, (∃ o, s.heap.get? a = some o /\ H a = none) -> Heap.SameBut a s.heap h' -> HOk X.prog X.w H h' := fun {a h'} ha hs b ob e => by
  obtain ⟨_, _, hfree⟩ := ha
  refine (I.hok b ob e).stay (fun c w' hc q => (hs.2 c ?_).trans q) (fun _ q => q) fun _ _ q => q
  rintro rfl
  rcases hc with rfl | hc
  . rw [hfree] at e; cases e
  . rw [hfree] at hc; cases hc
 rcases hx with hk | hk
 . refine wpAny_storeName_local hk hn (fun h' hn' hs => ?_) hcls
   obtain ⟨oL, _, _, hoL, _⟩ := id hn
   refine h _ ⟨I.ok, I.os, I.bare, ⟨fun b o e n hb hx => ?_, fun b o e n hb hx => ?_, I.base.free, fun b o e hx => ?_, I.base.tups, I.base.frzs, I.base.tbls⟩, ⟨_, hn', fun j y v' e1 e2 e3 => ?_⟩, fun y c e => ?_, I.free, I.freeC, fun p hp => ?_, tracked ⟨oL, hoL, I.free⟩ hs, by simpa using I.len⟩ ⟨_, hs, .inl rfl⟩
   . exact (hs.2 b (Nat.ne_of_lt (Nat.lt_of_lt_of_le (Heap.lt_size e) I.ok.above))).trans (I.base.keep b o e n hb hx)
   . obtain ⟨sl, e1⟩ := I.base.slot b o e n hb hx
     exact ⟨sl, (hs.2 b (Nat.ne_of_lt (Nat.lt_of_lt_of_le (Heap.lt_size e) I.ok.above))).trans e1⟩
   . obtain ⟨o', e1⟩ := I.base.there b o e hx
     exact ⟨o', (hs.2 b (Nat.ne_of_lt (Nat.lt_of_lt_of_le (Heap.lt_size e) I.ok.above))).trans e1⟩
   . by_cases hj : j = i
     . subst hj
       rw [hi] at e1; cases e1
       rw [List.getElem?_set_self hiσ] at e2
       cases e2
       exact ⟨u, r, .inl ⟨hk, by simp⟩⟩
     . rw [List.getElem?_set_ne (Ne.symm hj)] at e2
       obtain ⟨u', r', q⟩ := hl j y v' e1 e2 e3
       refine ⟨u', r', ?_⟩
       rcases q with ⟨k, e⟩ | ⟨k, c, e, z⟩
       . refine .inl ⟨k, ?_⟩
         have : y ≠ x := fun e => hj (nodup_ix hN e1 (e ▸ hi))
         simp [this, e]
       . exact .inr ⟨k, c, e, z.sameBut hs (cne y c e)⟩
   . obtain ⟨w', z⟩ := I.cell y c e
     exact ⟨w', z.sameBut hs (cne y c e)⟩
   . obtain ⟨e, n, ne, nf, d⟩ := I.pin p hp
     exact ⟨(hs.2 p.1 ne).trans e, n, ne, nf, d⟩
 . have hfn : X.fn x = true := by
     rcases hf with z | z
     . exact z
     . rw [z] at hk; cases hk
   obtain ⟨c, hc⟩ := I.ok.has x (.inl hk)
   obtain ⟨w', z⟩ := I.cell x c hc
   refine wpAny_storeName_cell I.ok.kind hk hc z (fun h' hc' hs => ?_)
   obtain ⟨oc, hoc, hocd⟩ := id z
   refine h { s with heap := h' } ⟨I.ok, I.os, I.bare, ⟨fun b o e n hb hx => ?_, fun b o e n hb hx => ?_, I.base.free, fun b o e hx => ?_, I.base.tups, I.base.frzs, I.base.tbls⟩, ⟨m, hn.sameBut hs (Ne.symm (cne x c hc)), fun j y v' e1 e2 e3 => ?_⟩, fun y c' e => ?_, I.free, I.freeC, fun p hp => ?_, tracked ⟨oc, hoc, I.freeC x c hc⟩ hs, by simpa using I.len⟩ ⟨c, hs, .inr hc⟩
   . exact (hs.2 b (Nat.ne_of_lt (Nat.lt_of_lt_of_le (Heap.lt_size e) (I.ok.cab x c hfn hc)))).trans (I.base.keep b o e n hb hx)
   . obtain ⟨sl, e1⟩ := I.base.slot b o e n hb hx
     exact ⟨sl, (hs.2 b (Nat.ne_of_lt (Nat.lt_of_lt_of_le (Heap.lt_size e) (I.ok.cab x c hfn hc)))).trans e1⟩
   . obtain ⟨o', e1⟩ := I.base.there b o e hx
     exact ⟨o', (hs.2 b (Nat.ne_of_lt (Nat.lt_of_lt_of_le (Heap.lt_size e) (I.ok.cab x c hfn hc)))).trans e1⟩
   . by_cases hj : j = i
     . subst hj
       rw [hi] at e1; cases e1
       rw [List.getElem?_set_self hiσ] at e2
       cases e2
       exact ⟨u, r, .inr ⟨.inl hk, c, hc, hc'⟩⟩
     . rw [List.getElem?_set_ne (Ne.symm hj)] at e2
       obtain ⟨u', r', q⟩ := hl j y v' e1 e2 e3
       refine ⟨u', r', ?_⟩
       rcases q with q | ⟨k, c', e, z'⟩
       . exact .inl q
       . refine .inr ⟨k, c', e, z'.sameBut hs ?_⟩
         rintro rfl
         exact hj (nodup_ix hN e1 (I.ok.inj _ _ _ e hc ▸ hi))
   . by_cases hcc : c' = c
     . subst hcc; exact ⟨_, hc'⟩
     . obtain ⟨w2, z2⟩ := I.cell y c' e
       exact ⟨w2, z2.sameBut hs hcc⟩
   . obtain ⟨e, n, ne, nf, d⟩ := I.pin p hp
     refine ⟨(hs.2 p.1 ?_).trans e, n, ne, nf, d⟩
     intro q
     rw [q, hoc] at e
     have q' : oc = p.2 := Option.some.inj e
     exact d w' (by rw [<- q']; exact hocd)
theorem store_ok {M : Model} {A : Around} {E : Value -> Shared -> Prop} {i : Nat} {x : Str} {v : V} {u : Value} {Q : Unit -> Shared -> Prop} (I : Inv X pins σ H s) (hN : X.N.Nodup) (hi : X.N[i]? = some x) (hx : Loc X.env.scope x) (r : RelV v u)
  (h : ∀ s', Inv X pins (σ.set i (some v)) H s' -> Q () s') (hf : X.fn x = true \/ X.env.scope.names.lookup x = some .local := by first | exact .inl rfl | exact .inr rfl | assumption) : wpAny M A (storeName X.env x u) Q E s :=
 store_ok2 I hN hi hx r (fun s' I' _ => h s' I') hf
theorem Inv.call' {s' : Shared} {ch : List Addr} (I : Inv X pins σ H s) (ho : s'.os = s.os) (u : Un (frs X.stack) ch H H' s.heap s'.heap) (hok : HOk X.prog X.w H' s'.heap) (hg : AllBare s'.gens)
  (hch : ∀ b ∈ ch, (b ∈ X.ex \/ X.s₀.heap.objs.size <= b) /\ b ≠ X.env.locals /\ (∀ x c, X.env.cells.lookup x = some c -> c ≠ b) /\ ∀ p ∈ X.pn ++ pins, p.1 ≠ b) : Inv X pins σ H' s' := by
 obtain ⟨h', g', d', t', o'⟩ := s'
 have e : o' = s.os := ho
 subst e
 exact I.call (g' := g') (t' := t') (d' := d') u hok hg hch
end
noncomputable abbrev XK := Value -> Option Addr -> Hp -> Prop
noncomputable abbrev St := List (Option V)
noncomputable abbrev VK := V -> Hp -> Prop
noncomputable abbrev TE := St -> Hp -> VK -> Prop
noncomputable abbrev TT := St -> Hp -> (Bool -> Hp -> Prop) -> Prop
noncomputable abbrev TA := St -> Hp -> (List V -> Hp -> Prop) -> Prop
structure Ends where
 nx : St -> Hp -> Prop
 rt : VK
 bk : St -> Hp -> Prop := fun _ _ => False
 ct : St -> Hp -> Prop := fun _ _ => False
noncomputable abbrev TS := Ends -> St -> Hp -> Prop
noncomputable def EP (X : Cx) (pins : List (Addr × Obj)) (σ : St) (Q : VK) (u : Value) (s' : Shared) : Prop := ∃ v H', Inv X pins σ H' s' /\ RelV v u /\ Q v H'
noncomputable def TP (X : Cx) (pins : List (Addr × Obj)) (σ : St) (Q : Bool -> Hp -> Prop) (b : Bool) (s' : Shared) : Prop := ∃ H', Inv X pins σ H' s' /\ Q b H'
noncomputable def AP (X : Cx) (pins : List (Addr × Obj)) (σ : St) (Q : List V -> Hp -> Prop) (us : List Value) (s' : Shared) : Prop := ∃ vs H', Inv X pins σ H' s' /\ Vals vs us /\ Q vs H'
noncomputable def SP (X : Cx) (pins : List (Addr × Obj)) (D : Ends) (f : Flow) (s' : Shared) : Prop :=
 match f with
 | .next => ∃ σ' H', Inv X pins σ' H' s' /\ D.nx σ' H'
 | .brk => ∃ σ' H', Inv X pins σ' H' s' /\ D.bk σ' H'
 | .cont => ∃ σ' H', Inv X pins σ' H' s' /\ D.ct σ' H'
 | .ret u => ∃ v σ' H', Inv X pins σ' H' s' /\ RelV v u /\ D.rt v H'
noncomputable def PE (X : Cx) (e : Expr) (t : TE) : Prop :=
 ∀ (pins : List (Addr × Obj)) (s : Shared) (σ : St) (H : Hp) (Q : VK), Inv X pins σ H s -> t σ H Q -> wpAny (model X.prog X.w) X.A (eval e X.env) (EP X pins σ Q) X.xe s
noncomputable def PT (X : Cx) (e : Expr) (t : TT) : Prop :=
 ∀ (pins : List (Addr × Obj)) (s : Shared) (σ : St) (H : Hp) (Q : Bool -> Hp -> Prop), Inv X pins σ H s -> t σ H Q -> wpAny (model X.prog X.w) X.A (isTrue e X.env (eval e X.env)) (TP X pins σ Q) X.xe s
noncomputable def PW (X : Cx) (e : Expr) (t : TT) : Prop :=
 ∀ (whole : Sem Value) (pins : List (Addr × Obj)) (s : Shared) (σ : St) (H : Hp) (Q : Bool -> Hp -> Prop), Inv X pins σ H s -> t σ H Q -> wpAny (model X.prog X.w) X.A (isTrue e X.env whole) (TP X pins σ Q) X.xe s
theorem PW.pt {X : Cx} {e : Expr} {t : TT} (h : PW X e t) : PT X e t := h _
noncomputable def PA (X : Cx) (es : List Expr) (t : TA) : Prop :=
 ∀ (pos : Pos) (pins : List (Addr × Obj)) (s : Shared) (σ : St) (H : Hp) (Q : List V -> Hp -> Prop), Inv X pins σ H s -> t σ H Q -> wpAny (model X.prog X.w) X.A (spliced (backTo pos (starEach es X.env))) (AP X pins σ Q) X.xe s
noncomputable def PS (X : Cx) (st : Stmt) (t : TS) : Prop :=
 ∀ (pins : List (Addr × Obj)) (s : Shared) (σ : St) (H : Hp) (D : Ends), Inv X pins σ H s -> t D σ H -> wpAny (model X.prog X.w) X.A (exec st X.env) (SP X pins D) X.xe s
noncomputable def PSs (X : Cx) (st : List Stmt) (t : TS) : Prop :=
 ∀ (pins : List (Addr × Obj)) (s : Shared) (σ : St) (H : Hp) (D : Ends), Inv X pins σ H s -> t D σ H -> wpAny (model X.prog X.w) X.A (execs st X.env) (SP X pins D) X.xe s
theorem thn {α : Type} {t : Sem α} {Q Q' : α -> Shared -> Prop} {M : Model} {A : Around} {E : Value -> Shared -> Prop} {s : Shared} (h : wpAny M A t Q E s) (hQ : ∀ a s, Q a s -> Q' a s) : wpAny M A t Q' E s := wpAny_mono h hQ fun _ _ x => x
end L2
namespace L2
open PySem PySem.Spec PyProof.Rows
section
variable {X : Cx}
noncomputable def tVar (i : Nat) : TE := fun σ H Q => ∃ v, σ[i]? = some (some v) /\ Q v H
noncomputable def tC (v : V) : TE := fun _ H Q => Q v H
theorem pe_var {i : Nat} {x : Str} {pos : Pos} (hN : X.N[i]? = some x) (hv : Vis X.env.scope x) (hd : (x == ("__debug__" : Str)) = false := by decide) (hcd : (x == ("__classdict__" : Str)) = false := by decide) : PE X (.Name x pos) (tVar i) := by
 intro pins s σ H Q I h
 obtain ⟨v, e, h⟩ := h
 obtain ⟨m, hn, hl⟩ := I.loc
 obtain ⟨u, r, l⟩ := hl i x v hN e hv
 have fin : EP X pins σ Q u s := ⟨v, H, I, r, h⟩
 rcases l with ⟨hk, hm⟩ | ⟨hk, c, hc, hcell⟩
 . exact wpAny_Name (wpAny_loadName_local I.ok.kind hk hn hm fin) hd
 . rcases hk with hk | hk
   . exact wpAny_Name (wpAny_loadName_cell I.ok.kind hk hc hcell fin) hd
   . exact wpAny_Name (wpAny_loadName_free I.ok.kind hk hc hcell fin hcd) hd
theorem pe_int {i j pos} : PE X (.Constant (.int i) j pos) (tC (.int i)) := fun _ _ _ H _ I h => wpAny_Constant_int ⟨.int i, H, I.tok _, ⟨_, rfl⟩, h⟩
theorem pe_bl {b j pos} : PE X (.Constant (.bool b) j pos) (tC (.bl b)) := fun _ _ _ H _ I h => Constant_bool ⟨.bl b, H, I, rfl, h⟩
theorem pe_non {j pos} : PE X (.Constant .none j pos) (tC .non) := fun _ _ _ H _ I h => Constant_none ⟨.non, H, I, rfl, h⟩
theorem pe_str {x j pos} : PE X (.Constant (.str x) j pos) (tC (.str x)) := fun _ _ _ H _ I h => Calls.Constant_str ⟨.str x, H, I.tok _, ⟨_, rfl⟩, h⟩
noncomputable def Gl (X : Cx) (x : Str) : Prop := X.env.kindOf x = some .globalImplicit
theorem ld_glob {E : Value -> Shared -> Prop} {pins : List (Addr × Obj)} {s : Shared} {σ : St} {H : Hp} {x : Str} {u : Value} {pos : Pos} {Q : Value -> Shared -> Prop} (I : Inv X pins σ H s) (hg : Gl X x) (hm : X.mg x = some u) (h : Q u s)
  (hd : (x == ("__debug__" : Str)) = false := by decide) : wpAny (model X.prog X.w) X.A (eval (.Name x pos) X.env) Q E s :=
 Calls.Name_function_global I.ok.kind hg (Calls.loadGlobal_global (by rw [I.ok.glob]; exact I.mod.glob.keeps I.bk) hm h) hd
theorem ld_blt {E : Value -> Shared -> Prop} {pins : List (Addr × Obj)} {s : Shared} {σ : St} {H : Hp} {x : Str} {u : Value} {pos : Pos} {Q : Value -> Shared -> Prop} (I : Inv X pins σ H s) (hg : Gl X x) (hm : X.mg x = none) (hv : bootBuiltins x = some u) (h : Q u s)
  (hn : x ≠ "__name__" := by decide) (hd : (x == ("__debug__" : Str)) = false := by decide) : wpAny (model X.prog X.w) X.A (eval (.Name x pos) X.env) Q E s := by
 obtain ⟨mb, h1, h2⟩ := I.mod.blt
 exact Calls.Name_function_global I.ok.kind hg (Calls.loadGlobal_builtin (by rw [I.ok.glob]; exact I.mod.glob.keeps I.bk) hm (by rw [I.ok.blt]; exact h1.keeps I.bk) ((h2 x hn).trans hv) h) hd
theorem pe_glob {x : Str} {v : V} {u : Value} {pos : Pos} (hg : Gl X x) (hm : X.mg x = some u) (r : RelV v u) (hd : (x == ("__debug__" : Str)) = false := by decide) : PE X (.Name x pos) (tC v) :=
 fun _ _ _ H _ I h => ld_glob I hg hm ⟨v, H, I, r, h⟩ hd
theorem pe_bltn {x : Str} {v : V} {u : Value} {pos : Pos} (hg : Gl X x) (hm : X.mg x = none) (hv : bootBuiltins x = some u) (r : RelV v u) (hn : x ≠ "__name__" := by decide) (hd : (x == ("__debug__" : Str)) = false := by decide) : PE X (.Name x pos) (tC v) :=
 fun _ _ _ H _ I h => ld_blt I hg hm hv ⟨v, H, I, r, h⟩ hn hd
variable {a b : Expr} {ta tb : TE} {pos : Pos}
noncomputable def tB (t : TE) : TT := fun σ H Q => t σ H fun x H1 => ∃ c, x = .bl c /\ Q c H1
theorem pt_val {e : Expr} {t : TE} (h : PE X e t) (he : ∀ whole, isTrue e X.env whole = (do let v <- whole; standAt e.pos; holding [v] (truthy v)) := by intro _; rfl) : PT X e (tB t) := by
 intro pins s σ H Q I hw
 refine isTrue_plain (thn (h pins s σ H _ I hw) fun v s1 ⟨x, H1, I1, r1, q1⟩ => ?_) (he _)
 obtain ⟨d, rfl, q⟩ := q1
 cases r1
 exact wpAny_truthy_bool ⟨H1, I1, q⟩
variable {tA tB' : TT} {rest : List Expr}
noncomputable def tAnd (t u : TT) : TT := fun σ H Q => t σ H fun c H1 => if c = true then u σ H1 Q else Q false H1
noncomputable def tOr (t u : TT) : TT := fun σ H Q => t σ H fun c H1 => if c = true then Q true H1 else u σ H1 Q
noncomputable def tNot (t : TT) : TT := fun σ H Q => t σ H fun c H1 => Q (!c) H1
theorem pw_and1 (ha : PT X a tA) : PW X (.BoolOp .And [a] pos) tA := by
 intro wh pins s σ H Q I h
 refine isTrue_and (thn (ha pins s σ H Q I h) fun c s1 e => ?_)
 cases c with
 | true => exact isTrue_and_nil e
 | false => exact e
theorem pw_or1 (ha : PT X a tA) : PW X (.BoolOp .Or [a] pos) tA := by
 intro wh pins s σ H Q I h
 refine isTrue_or (thn (ha pins s σ H Q I h) fun c s1 e => ?_)
 cases c with
 | false => exact isTrue_or_nil e
 | true => exact e
theorem pw_and (ha : PT X a tA) (hb : PW X (.BoolOp .And (b :: rest) pos) tB') : PW X (.BoolOp .And (a :: b :: rest) pos) (tAnd tA tB') := by
 intro wh pins s σ H Q I h
 refine isTrue_and (thn (ha pins s σ H _ I h) fun c s1 ⟨H1, I1, q1⟩ => ?_)
 cases c with
 | true => exact hb wh pins s1 σ H1 Q I1 q1
 | false => exact ⟨H1, I1, q1⟩
theorem pw_or (ha : PT X a tA) (hb : PW X (.BoolOp .Or (b :: rest) pos) tB') : PW X (.BoolOp .Or (a :: b :: rest) pos) (tOr tA tB') := by
 intro wh pins s σ H Q I h
 refine isTrue_or (thn (ha pins s σ H _ I h) fun c s1 ⟨H1, I1, q1⟩ => ?_)
 cases c with
 | true => exact ⟨H1, I1, q1⟩
 | false => exact hb wh pins s1 σ H1 Q I1 q1
theorem pt_not (ha : PT X a tA) : PT X (.UnaryOp .Not a pos) (tNot tA) := by
 intro pins s σ H Q I h
 exact isTrue_not (ha pins s σ H (fun c H1 => Q (!c) H1) I h)
noncomputable def tAndV (ta tb : TE) : TE := fun σ H Q => ta σ H fun x H1 => ∃ c, x = .bl c /\ if c = true then tb σ H1 Q else Q (.bl false) H1
noncomputable def tOrV (ta tb : TE) : TE := fun σ H Q => ta σ H fun x H1 => ∃ c, x = .bl c /\ if c = true then Q (.bl true) H1 else tb σ H1 Q
noncomputable def tNotV (ta : TE) : TE := fun σ H Q => ta σ H fun x H1 => ∃ c, x = .bl c /\ Q (.bl (!c)) H1
theorem pe_one {op} {t : TE} (h : PE X a t) : PE X (.BoolOp op [a] pos) t := fun pins s σ H Q I hw => BoolOp_one (h pins s σ H Q I hw)
theorem pe_and (ha : PE X a ta) (hb : PE X (.BoolOp .And (b :: rest) pos) tb) : PE X (.BoolOp .And (a :: b :: rest) pos) (tAndV ta tb) := by
 intro pins s σ H Q I h
 refine BoolOp_and (thn (ha pins s σ H _ I h) fun v s1 ⟨x, H1, I1, r1, q1⟩ => ?_)
 obtain ⟨c, rfl, q1⟩ := q1
 cases r1
 refine wpAny_truthy_bool ?_
 cases c with
 | true => exact hb pins s1 σ H1 Q I1 q1
 | false => exact ⟨.bl false, H1, I1, rfl, q1⟩
noncomputable def tIf (t : TT) (ta tb : TE) : TE := fun σ H Q => t σ H fun c H1 => if c = true then ta σ H1 Q else tb σ H1 Q
theorem pe_ifExp {c : Expr} (hc : PT X c tA) (ha : PE X a ta) (hb : PE X b tb) : PE X (.IfExp c a b pos) (tIf tA ta tb) := by
 intro pins s σ H Q I h
 refine wpAny_IfExp (thn (hc pins s σ H _ I h) fun d s1 ⟨H1, I1, q1⟩ => ?_)
 cases d with
 | true => exact ha pins s1 σ H1 Q I1 q1
 | false => exact hb pins s1 σ H1 Q I1 q1
end
end L2
namespace L2
open PySem PySem.Spec PyProof.Rows
noncomputable def SqL (K : PySem.W.Frag) (H : Hp) (a : Addr) (xs : List V) : Prop :=
 Rd H a (.lst xs) \/
  ∃ (o : Obj) (its : Array Value) (n : Nat), K.lookup a = some o /\ o.cls = .type "list" /\ o.dict = none /\ o.data = .seq its n /\ its.size <= sizeLine /\ Vals xs its.toList
noncomputable def SqT (K : PySem.W.Frag) (H : Hp) (a : Addr) (xs : List V) : Prop :=
 Rd H a (.tup xs) \/
  ∃ (o : Obj) (its : Array Value) (n : Nat), K.lookup a = some o /\ o.cls = .type "tuple" /\ o.data = .seq its n /\ its.size <= sizeLine /\ Vals xs its.toList
noncomputable def absV : Value -> Option V
 | .none => some .non
 | .bool b => some (.bl b)
 | .int i _ => some (.int i)
 | .str x _ => some (.str x)
 | .bytes b _ => some (.byt b)
 | .float b _ => some (.flt b)
 | .ref a => some (.ref a)
 | .type n => some (.ty n)
 | _ => none
theorem RelV.abs {x : V} {u : Value} (r : RelV x u) : absV u = some x := by
 cases x with
 | non => cases r; rfl
 | bl _ => cases r; rfl
 | int _ => obtain ⟨t, rfl⟩ := r; rfl
 | str _ => obtain ⟨t, rfl⟩ := r; rfl
 | byt _ => obtain ⟨t, rfl⟩ := r; rfl
 | flt _ => obtain ⟨t, rfl⟩ := r; rfl
 | ref _ => cases r; rfl
 | ty _ => cases r; rfl
theorem RelV.inj {x y : V} {u : Value} (r : RelV x u) (q : RelV y u) : x = y := Option.some.inj (r.abs.symm.trans q.abs)
theorem Vals.inj : ∀ {xs ys : List V} {us : List Value}, Vals xs us -> Vals ys us -> xs = ys
 | _, _, _, .nil, .nil => rfl
 | _, _, _, .cons r t, .cons r' t' => by rw [r.inj r', Vals.inj t t']
section
variable {X : Cx} {pins : List (Addr × Obj)} {σ : St} {H : Hp} {s : Shared} {a : Addr} {xs ys : List V}
theorem SqL.of {K : PySem.W.Frag} (h : H a = some (.lst xs)) : SqL K H a xs := .inl (.inl h)
theorem SqT.of {K : PySem.W.Frag} (h : H a = some (.tup xs)) : SqT K H a xs := .inl (.inl h)
theorem Inv.list (I : Inv X pins σ H s) (h : SqL X.K H a xs) : ∃ its : List Value, Vals xs its /\ PlainL s.heap a its.toArray /\ xs.length <= sizeLine := by
 rcases h with h | ⟨o, its, n, hk, hc, hd, hs, hz, r⟩
 . obtain ⟨z, its, n, r, e⟩ := h.ok I.hok
   exact ⟨its, r, ⟨_, n, e, rfl, rfl, rfl⟩, z⟩
 . refine ⟨its.toList, r, ⟨o, n, I.kIn a o hk, hc, hd, by simpa using hs⟩, ?_⟩
   have e := r.length
   simp only [Array.length_toList] at e
   omega
theorem Inv.tuple (I : Inv X pins σ H s) (h : SqT X.K H a xs) : ∃ its : List Value, Vals xs its /\ IsTup s.heap a its.toArray /\ xs.length <= sizeLine := by
 rcases h with h | ⟨o, its, n, hk, hc, hs, hz, r⟩
 . obtain ⟨z, its, r, p⟩ := h.ok I.hok
   exact ⟨its, r, p, z⟩
 . refine ⟨its.toList, r, ⟨o, I.kIn a o hk, hc, n, by simpa using hs⟩, ?_⟩
   have e := r.length
   simp only [Array.length_toList] at e
   omega
theorem Inv.list_inj (I : Inv X pins σ H s) (h : SqL X.K H a xs) (h' : SqL X.K H a ys) : xs = ys := by
 obtain ⟨its, r, ⟨o, n, e, _, _, d⟩, _⟩ := I.list h
 obtain ⟨its', r', ⟨o', n', e', _, _, d'⟩, _⟩ := I.list h'
 rw [e] at e'; cases e'
 rw [d] at d'
 injection d' with d1 _
 have : its = its' := by simpa using congrArg Array.toList d1
 subst this
 exact r.inj r'
theorem Inv.tuple_inj (I : Inv X pins σ H s) (h : SqT X.K H a xs) (h' : SqT X.K H a ys) : xs = ys := by
 obtain ⟨its, r, ⟨o, e, _, n, d⟩, _⟩ := I.tuple h
 obtain ⟨its', r', ⟨o', e', _, n', d'⟩, _⟩ := I.tuple h'
 rw [e] at e'; cases e'
 rw [d] at d'
 injection d' with d1 _
 have : its = its' := by simpa using congrArg Array.toList d1
 subst this
 exact r.inj r'
end
noncomputable abbrev Cx.wish (X : Cx) (E : Value -> Shared -> Prop) : Cx := { X with xe := E }
noncomputable abbrev Cx.nox (X : Cx) : Cx := X.wish fun _ _ => False
theorem Cx.Ok.wish {X : Cx} (ok : X.Ok) (E : Value -> Shared -> Prop) : (X.wish E).Ok :=
 ⟨ok.mod, ok.kind, ok.glob, ok.blt, ok.above, ok.inj, ok.has, ok.cab, ok.hd, ok.frames, ok.stk, ok.exf, ok.bs, ok.bsz, ok.noex, ok.exfs, ok.funs, ok.frf⟩
theorem Cx.Ok.unwish {X : Cx} {E : Value -> Shared -> Prop} (ok : (X.wish E).Ok) : X.Ok :=
 ⟨ok.mod, ok.kind, ok.glob, ok.blt, ok.above, ok.inj, ok.has, ok.cab, ok.hd, ok.frames, ok.stk, ok.exf, ok.bs, ok.bsz, ok.noex, ok.exfs, ok.funs, ok.frf⟩
section
variable {X : Cx} {pins : List (Addr × Obj)} {σ : St} {H : Hp} {s : Shared} {E : Value -> Shared -> Prop}
theorem Inv.wish (I : Inv X pins σ H s) (E : Value -> Shared -> Prop) : Inv (X.wish E) pins σ H s := ⟨I.ok.wish E, I.os, I.bare, I.base, I.loc, I.cell, I.free, I.freeC, I.pin, I.hok, I.len⟩
theorem Inv.unwish (I : Inv (X.wish E) pins σ H s) : Inv X pins σ H s := ⟨I.ok.unwish, I.os, I.bare, I.base, I.loc, I.cell, I.free, I.freeC, I.pin, I.hok, I.len⟩
theorem SP.unwish {D : Ends} {f : Flow} {s' : Shared} (h : SP (X.wish E) pins D f s') : SP X pins D f s' := by
 cases f with
 | next => obtain ⟨σ', H', I, q⟩ := h; exact ⟨σ', H', I.unwish, q⟩
 | brk => obtain ⟨σ', H', I, q⟩ := h; exact ⟨σ', H', I.unwish, q⟩
 | cont => obtain ⟨σ', H', I, q⟩ := h; exact ⟨σ', H', I.unwish, q⟩
 | ret u => obtain ⟨v, σ', H', I, r, q⟩ := h; exact ⟨v, σ', H', I.unwish, r, q⟩
theorem PSs.nox {st : List Stmt} {t : TS} (h : PSs X.nox st t) : PSs X st t := fun pins s σ H D I hw =>
 wpAny_mono (h pins s σ H D (I.wish _) hw) (fun _ _ q => q.unwish) fun _ _ z => False.elim z
end
section
variable {X : Cx} {st : Stmt} {rest : List Stmt} {t u : TS} {e : Expr} {te : TE} {pos : Pos}
noncomputable def tNext : TS := fun D σ H => D.nx σ H
noncomputable def tSeq (t u : TS) : TS := fun D σ H => t { D with nx := u D } σ H
theorem pss_nil : PSs X [] tNext := fun _ _ σ H _ I h => wpAny_execs_nil ⟨σ, H, I, h⟩
theorem pss_cons (h1 : PS X st t) (h2 : PSs X rest u) : PSs X (st :: rest) (tSeq t u) := by
 intro pins s σ H D I h
 refine wpAny_execs_cons (thn (h1 pins s σ H { D with nx := u D } I h) fun f s1 q => ?_)
 cases f with
 | next =>
  obtain ⟨σ', H', I', q⟩ := q
  exact h2 pins s1 σ' H' D I' q
 | ret v => exact q
 | brk => exact q
 | cont => exact q
theorem pss_one (h1 : PS X st t) : PSs X [st] t := by
 intro pins s σ H D I h
 refine wpAny_execs_cons (thn (h1 pins s σ H D I h) fun f s1 q => ?_)
 cases f with
 | next => exact wpAny_execs_nil q
 | ret v => exact q
 | brk => exact q
 | cont => exact q
theorem Inv.quiet {pins : List (Addr × Obj)} {σ : St} {H : Hp} {s : Shared} (I : Inv X pins σ H s) : interactive X.env = false := by simp [interactive, I.ok.kind]
noncomputable def tDrop (te : TE) : TS := fun D σ H => te σ H fun _ H1 => D.nx σ H1
theorem ps_expr (he : PE X e te) (hs : swapsWith e none pos.line X.env = pure false := by rfl) : PS X (.Expr e pos) (tDrop te) := by
 intro pins s σ H D I h
 exact wpAny_Expr_any (thn (he pins s σ H _ I h) fun v s1 ⟨x, H1, I1, r1, q1⟩ => ⟨σ, H1, I1, q1⟩) I.quiet hs
noncomputable def tRet (te : TE) : TS := fun D σ H => te σ H D.rt
theorem ps_ret (he : PE X e te) : PS X (.Return (some e) pos) (tRet te) := by
 intro pins s σ H D I h
 exact wpAny_Return_some (thn (he pins s σ H _ I h) fun v s1 ⟨x, H1, I1, r1, q1⟩ => ⟨x, σ, H1, I1, r1, q1⟩)
noncomputable def tIfS (c : TT) (t u : TS) : TS := fun D σ H => c σ H fun b H1 => if b = true then t D σ H1 else u D σ H1
theorem ps_if {c : Expr} {a b : List Stmt} {tc : TT} (hc : PT X c tc) (ha : PSs X a t) (hb : PSs X b u) : PS X (.If c a b pos) (tIfS tc t u) := by
 intro pins s σ H D I h
 refine wpAny_If (thn (hc pins s σ H _ I h) fun d s1 ⟨H1, I1, q1⟩ => ?_)
 cases d with
 | true => exact ha pins s1 σ H1 D I1 q1
 | false => exact hb pins s1 σ H1 D I1 q1
noncomputable def tNever : TS := fun _ _ _ => False
theorem ps_never : PS X st tNever := fun _ _ _ _ _ _ h => h.elim
end
noncomputable abbrev TG := V -> St -> Hp -> (St -> Hp -> Prop) -> Prop
noncomputable abbrev TGs := List V -> St -> Hp -> (St -> Hp -> Prop) -> Prop
noncomputable def PG (X : Cx) (target : Expr) (t : TG) : Prop :=
 ∀ (pins : List (Addr × Obj)) (s : Shared) (σ : St) (H : Hp) (v : V) (u : Value) (Q : St -> Hp -> Prop), Inv X pins σ H s -> RelV v u -> t v σ H Q ->
  wpAny (model X.prog X.w) X.A (assign target X.env u) (fun _ s' => ∃ σ' H', Inv X pins σ' H' s' /\ Q σ' H') X.xe s
noncomputable def PGs (X : Cx) (ts : List Expr) (t : TGs) : Prop :=
 ∀ (pins : List (Addr × Obj)) (s : Shared) (σ : St) (H : Hp) (vs : List V) (us : List Value) (Q : St -> Hp -> Prop), Inv X pins σ H s -> Vals vs us -> t vs σ H Q ->
  wpAny (model X.prog X.w) X.A (assignInOrder ((assignEach ts X.env).map (·.2)) us) (fun _ s' => ∃ σ' H', Inv X pins σ' H' s' /\ Q σ' H') X.xe s
section
variable {X : Cx} {pos : Pos}
noncomputable def gName (i : Nat) : TG := fun v σ H Q => Q (σ.set i (some v)) H
theorem pg_name {i : Nat} {x : Str} (hN : X.N.Nodup) (hi : X.N[i]? = some x) (hx : Loc X.env.scope x) (hf : X.fn x = true \/ X.env.scope.names.lookup x = some .local := by first | exact .inl rfl | exact .inr rfl | assumption) : PG X (.Name x pos) (gName i) := by
 intro pins s σ H v u Q I r h
 exact wpAny_assign_Name (store_ok I hN hi hx r (fun s' I' => ⟨_, H, I', h⟩) hf)
noncomputable def gNil : TGs := fun vs σ H Q => vs = [] /\ Q σ H
noncomputable def gCons (t : TG) (u : TGs) : TGs := fun vs σ H Q => ∃ v r, vs = v :: r /\ t v σ H fun σ' H' => u r σ' H' Q
theorem pgs_nil : PGs X [] gNil := by
 intro pins s σ H vs us Q I r h
 obtain ⟨e, h⟩ := h
 subst e
 cases r
 exact assignInOrder_nil ⟨σ, H, I, h⟩
theorem pgs_cons {e : Expr} {es : List Expr} {t : TG} {u : TGs} (h1 : PG X e t) (h2 : PGs X es u)
  (hs : (assignEach (e :: es) X.env).map (·.2) = assign e X.env :: (assignEach es X.env).map (·.2) := by rfl) : PGs X (e :: es) (gCons t u) := by
 intro pins s σ H vs us Q I r h
 obtain ⟨v, vr, e1, h⟩ := h
 subst e1
 cases r with
 | cons r rr =>
  rw [hs]
  refine assignInOrder_cons (thn (h1 pins s σ H _ _ _ I r h) fun _ s1 ⟨σ1, H1, I1, q1⟩ => ?_)
  exact h2 pins s1 σ1 H1 _ _ Q I1 rr q1
noncomputable def gTup (K : PySem.W.Frag) (n : Nat) (t : TGs) : TG := fun v σ H Q => ∃ a xs, v = .ref a /\ SqT K H a xs /\ xs.length = n /\ t xs σ H Q
theorem pg_tup {es : List Expr} {k : Nat} {t : TGs} {n : Nat} (hc : X.calm = true) (h : PGs X es t)
  (hn : (assignEach es X.env).length = n := by rfl) (hst : (assignEach es X.env).findIdx? (·.1) = none := by rfl) : PG X (.Tuple es k pos) (gTup X.K n t) := by
 intro pins s σ H v u Q I r hw
 obtain ⟨a, xs, e1, hq, hl, hw⟩ := hw
 subst e1
 cases r
 obtain ⟨its, rv, ht, hz⟩ := I.tuple hq
 refine assign_Tuple_tuple (I.ok.hd hc) ht (by simp [hn, <- hl, rv.length]) hst fun h' hx => ?_
 have I1 : Inv X pins σ H { s with heap := h' } := I.kept (t' := s.toks) fun b o e => hx b o (Nat.ne_of_lt (Heap.lt_size e)) e
 exact h pins _ σ H xs _ Q I1 (by simpa using rv) hw
noncomputable def tAsg (te : TE) (g : TG) : TS := fun D σ H => te σ H fun x H1 => g x σ H1 D.nx
theorem ps_set {i : Nat} {x : Str} {e : Expr} {te : TE} {pos' : Pos} (hN : X.N.Nodup) (hi : X.N[i]? = some x) (hx : Loc X.env.scope x) (he : PE X e te) (hs : swapsWith e (some (.Name x pos')) pos.line X.env = pure false := by rfl) (hf : X.fn x = true \/ X.env.scope.names.lookup x = some .local := by first | exact .inl rfl | exact .inr rfl | assumption) :
  PS X (.Assign [.Name x pos'] e pos) (tAsg te (gName i)) := by
 intro pins s σ H D I h
 refine wpAny_Assign_Name (thn (he pins s σ H _ I h) fun v s1 ⟨y, H1, I1, r1, q1⟩ => ?_) hs
 exact store_ok I1 hN hi hx r1 (fun s2 I2 => ⟨_, H1, I2, q1⟩) hf
noncomputable def tPar (i j : Nat) (ta : TA) : TS := fun D σ H => ta σ H fun vs H1 => ∃ v w, vs = [v, w] /\ D.nx ((σ.set i (some v)).set j (some w)) H1
end
section
variable {X : Cx} {pos : Pos}
noncomputable def tWhile (c : TT) (tb : TS) : TS := fun D σ H => ∃ W : Nat -> St -> Hp -> Prop, (∃ m, W m σ H) /\ ∀ m σ H, W m σ H ->
 c σ H fun b H1 => if b = true then ∃ N : St -> Hp -> Prop, (∀ σ' H', N σ' H' -> ∃ m', m' < m /\ W m' σ' H') /\ tb { D with nx := N, ct := N, bk := D.nx } σ H1 else D.nx σ H1
theorem ps_while {c : Expr} {body : List Stmt} {tc : TT} {tb : TS} (hp : PassesOwn (model X.prog X.w) X.A X.env X.xe) (hc : PT X c tc) (hb : PSs X body tb) : PS X (.While c body [] pos) (tWhile tc tb) := by
 intro pins s σ H D I h
 obtain ⟨W, ⟨m0, w0⟩, turn⟩ := h
 refine wpAny_While (codeAny_whileLoop (fun n s' => ∃ σ' H', Inv X pins σ' H' s' /\ W n σ' H') ?_ m0 ⟨σ, H, I, w0⟩)
 rintro n s1 ⟨σ1, H1, I1, w1⟩
 refine wpAny_passesOwn hp (thn (hc pins s1 σ1 H1 _ I1 (turn n σ1 H1 w1)) fun b s2 ⟨H2, I2, q2⟩ => ?_)
 cases b with
 | true =>
  obtain ⟨N, hN, q2⟩ := q2
  rw [if_pos rfl]
  refine wpAny_passesOwn hp (thn (hb pins s2 σ1 H2 _ I2 q2) fun f s3 q3 => ?_)
  cases f with
  | next =>
   obtain ⟨σ3, H3, I3, n3⟩ := q3
   obtain ⟨m', hm, w3⟩ := hN σ3 H3 n3
   exact ⟨m', hm, σ3, H3, I3, w3⟩
  | cont =>
   obtain ⟨σ3, H3, I3, n3⟩ := q3
   obtain ⟨m', hm, w3⟩ := hN σ3 H3 n3
   exact ⟨m', hm, σ3, H3, I3, w3⟩
  | brk => exact q3
  | ret v => exact q3
 | false =>
  rw [if_neg Bool.false_ne_true]
  exact wpAny_execs_nil ⟨σ1, H2, I2, q2⟩
end
structure It where
 go : Nat -> Hp -> Prop
 yld : Nat -> Hp -> V -> Hp -> Prop
 stop : Nat -> Hp -> Prop
noncomputable def FpOk (X : Cx) (pins : List (Addr × Obj)) (H : Hp) (b : Addr) : Prop :=
 H b = none /\ b ≠ X.env.locals /\ b ∉ X.fs /\ (b ∈ X.ex \/ X.s₀.heap.objs.size <= b) /\ (∀ x c, X.env.cells.lookup x = some c -> c ≠ b) /\ ∀ p ∈ X.pn ++ pins, p.1 ≠ b
theorem Inv.fpOk {X : Cx} {pins : List (Addr × Obj)} {σ : St} {H H' : Hp} {s : Shared} {b : Addr} (I : Inv X pins σ H s) (hb : s.heap.objs.size <= b) (hn : H' b = none) : FpOk X pins H' b := by
 refine ⟨hn, Nat.ne_of_gt (Nat.lt_of_lt_of_le I.lt hb), I.nofs hb, .inr (Nat.le_trans I.sz hb), fun x c e z => ?_, fun p hp z => ?_⟩
 . obtain ⟨v, q⟩ := I.cell x c e
   exact absurd (Nat.lt_of_lt_of_le q.lt (by rw [z]; exact hb)) (Nat.lt_irrefl _)
 . exact absurd (Nat.lt_of_lt_of_le (Heap.lt_size (I.pin p hp).1) (by rw [z]; exact hb)) (Nat.lt_irrefl _)
structure Turn (P : Program) (w : World) (K : PySem.W.Frag) (tg : Expr) (J : It) (fp : List Addr) (it : Addr) (tn : Nat -> Heap -> Prop) : Prop where
 mem : it ∈ fp
 obj : ∀ i h, tn i h -> ∀ b ∈ fp, ∃ o, h.get? b = some o /\ ∀ v, o.data ≠ .cell v
 keep : ∀ i h h', tn i h -> (∀ b ∈ fp, ∀ o, h.get? b = some o -> h'.get? b = some o) -> tn i h'
 item : ∀ (X : Cx), X.prog = P -> X.w = w -> X.K = K -> X.calm = true -> ∀ (i : Nat) (pins : List (Addr × Obj)) (s : Shared) (σ : St) (H : Hp) (E : Value -> Shared -> Prop), Inv X pins σ H s -> (∀ b ∈ fp, FpOk X pins H b) -> tn i s.heap -> J.go i H ->
  wpAny (model P w) X.A (pyNext (.ref it)) (fun r s1 => ∃ u, r = some u /\
   wpAny (model P w) X.A (letOwnedTupleGo tg (.ref it) u) (fun _ s2 => ∃ x H', Inv X pins σ H' s2 /\ RelV x u /\ J.yld i H x H' /\ tn (i + 1) s2.heap /\ ∀ b ∈ fp, H' b = none) E s1) E s
 done : ∀ (X : Cx), X.prog = P -> X.w = w -> X.K = K -> X.calm = true -> ∀ (i : Nat) (pins : List (Addr × Obj)) (s : Shared) (σ : St) (H : Hp) (E : Value -> Shared -> Prop), Inv X pins σ H s -> (∀ b ∈ fp, FpOk X pins H b) -> tn i s.heap -> J.stop i H ->
  wpAny (model P w) X.A (pyNext (.ref it)) (fun r s1 => r = none /\ Inv X pins σ H s1) E s
 self : ∀ (A : Around) (i : Nat) (s : Shared) (Q : Value -> Shared -> Prop) (E : Value -> Shared -> Prop), tn i s.heap -> Q (.ref it) s -> wpAny (model P w) A (pyIter (.ref it)) Q E s
noncomputable abbrev TI := St -> Hp -> (It -> Hp -> Prop) -> Prop
noncomputable def PIE (X : Cx) (pins : List (Addr × Obj)) (σ : St) (tg : Expr) (R : It -> Hp -> Prop) (itv : Value) (s2 : Shared) : Prop :=
 ∃ (it : Addr) (fp : List Addr) (tn : Nat -> Heap -> Prop) (J : It) (H' : Hp), itv = .ref it /\ Inv X pins σ H' s2 /\ Turn X.prog X.w X.K tg J fp it tn /\ tn 0 s2.heap /\ (∀ b ∈ fp, FpOk X pins H' b) /\ R J H'
noncomputable def PI (X : Cx) (tg iter : Expr) (wi : TI) : Prop :=
 ∀ (pins : List (Addr × Obj)) (s : Shared) (σ : St) (H : Hp) (R : It -> Hp -> Prop), Inv X pins σ H s -> wi σ H R ->
  wpAny (model X.prog X.w) X.A (eval iter X.env) (fun v s1 => wpAny (model X.prog X.w) X.A (pyIter v) (PIE X pins σ tg R) X.xe s1) X.xe s
theorem go_of {M : Model} {A : Around} {E : Value -> Shared -> Prop} {s : Shared} {tg : Expr} {it : Addr} {u : Value} {o : Obj} {n : String} {vs : Array Value} {Q : Unit -> Shared -> Prop} (ho : s.heap.get? it = some o) (hc : o.cls = .type n) (hd : o.data = .fields vs)
  (hn : ["enumerate", "zip", "dict_itemiterator", "dict_reverseitemiterator", "odict_iterator", "itertools.zip_longest", "itertools.pairwise"].contains n = false) (hQ : Q () s) : wpAny M A (letOwnedTupleGo tg (.ref it) u) Q E s := by
 unfold letOwnedTupleGo
 cases tg <;> first
  | exact wpAny_pure hQ
  | (cases u <;> first
    | exact wpAny_pure hQ
    | (refine wpAny_bind (wpAny_load ho ?_)
       rw [hc, hd]
       show wpAny M A (if (["enumerate", "zip", "dict_itemiterator", "dict_reverseitemiterator", "odict_iterator", "itertools.zip_longest", "itertools.pairwise"].contains n && vs[0]? == some (rawInt _)) = true then _ else _) Q E s
       rw [if_neg (by intro h; rw [hn, Bool.false_and] at h; cases h)]
       exact wpAny_pure hQ))
noncomputable def Itl (K : PySem.W.Frag) (a : Addr) : It :=
 ⟨fun i H => ∃ xs x, SqL K H a xs /\ xs[i]? = some x, fun i H x H' => H' = H /\ ∀ xs, SqL K H a xs -> xs[i]? = some x, fun i H => ∃ xs, SqL K H a xs /\ xs.length <= i⟩
noncomputable def Itt (K : PySem.W.Frag) (a : Addr) : It :=
 ⟨fun i H => ∃ xs x, SqT K H a xs /\ xs[i]? = some x, fun i H x H' => H' = H /\ ∀ xs, SqT K H a xs -> xs[i]? = some x, fun i H => ∃ xs, SqT K H a xs /\ xs.length <= i⟩
noncomputable def Itr (lo : Int) (n : Nat) : It := ⟨fun i _ => i < n, fun i H x H' => H' = H /\ x = .int (lo + i), fun i _ => n <= i⟩
theorem turn_list {P : Program} {w : World} {K : PySem.W.Frag} {tg : Expr} (a it : Addr) : Turn P w K tg (Itl K a) [it] it (fun i h => h.IsListIter it a i) where
 mem := by simp
 obj := fun i h st b hb => by
  have e : b = it := by simpa using hb
  subst e
  obtain ⟨o, e, c, d⟩ := st
  exact ⟨o, e, fun v z => by rw [d] at z; cases z⟩
 keep := fun i h h' st k => st.at fun o e => k it (by simp) o e
 item := by
  intro X hP hw hK hc i pins s σ H E I hf st hg
  subst hP hw hK
  obtain ⟨xs, x, hq, hx⟩ := hg
  obtain ⟨its, rv, p, hz⟩ := I.list hq
  obtain ⟨u, hu, ru⟩ := rv.get hx
  obtain ⟨f0, f1, f2, f3, f4, f5⟩ := hf it (by simp)
  refine wpAny_pyNext_list_item st p.isList (x := u) (by simpa using hu) fun h' st' sb => ?_
  have I1 : Inv X pins σ H { s with heap := h' } := I.turned (t' := s.toks) (fun b o hb e => (sb.2 b hb).trans e) f0 f1 f3 f4 f5
  obtain ⟨o, e, c, d⟩ := id st'
  exact ⟨u, rfl, go_of (s := { s with heap := h' }) e c d (by decide) ⟨x, H, I1, ru, ⟨rfl, fun ys hy => by rw [I.list_inj hy hq]; exact hx⟩, st', fun b hb => (hf b hb).1⟩⟩
 done := by
  intro X hP hw hK hc i pins s σ H E I hf st hg
  subst hP hw hK
  obtain ⟨xs, hq, hx⟩ := hg
  obtain ⟨its, rv, p, hz⟩ := I.list hq
  obtain ⟨f0, f1, f2, f3, f4, f5⟩ := hf it (by simp)
  have hl := rv.length
  exact wpAny_pyNext_list_end (I.ok.hd hc) st p.isList (by simp; omega) fun h' eb => ⟨rfl, I.turned (t' := s.toks) (fun b o hb e => eb b o hb e) f0 f1 f3 f4 f5⟩
 self := fun _ _ _ _ _ st h => wpAny_pyIter_listiter st h
theorem turn_tuple {P : Program} {w : World} {K : PySem.W.Frag} {tg : Expr} (a it : Addr) : Turn P w K tg (Itt K a) [it] it (fun i h => h.IsTupleIter it a i) where
 mem := by simp
 obj := fun i h st b hb => by
  have e : b = it := by simpa using hb
  subst e
  obtain ⟨o, e, c, d⟩ := st
  exact ⟨o, e, fun v z => by rw [d] at z; cases z⟩
 keep := fun i h h' st k => st.at fun o e => k it (by simp) o e
 item := by
  intro X hP hw hK hc i pins s σ H E I hf st hg
  subst hP hw hK
  obtain ⟨xs, x, hq, hx⟩ := hg
  obtain ⟨its, rv, p, hz⟩ := I.tuple hq
  obtain ⟨u, hu, ru⟩ := rv.get hx
  obtain ⟨f0, f1, f2, f3, f4, f5⟩ := hf it (by simp)
  refine wpAny_pyNext_tuple_item st (show s.heap.IsTuple a its.toArray from p) (x := u) (by simpa using hu) fun h' st' sb => ?_
  have I1 : Inv X pins σ H { s with heap := h' } := I.turned (t' := s.toks) (fun b o hb e => (sb.2 b hb).trans e) f0 f1 f3 f4 f5
  obtain ⟨o, e, c, d⟩ := id st'
  exact ⟨u, rfl, go_of (s := { s with heap := h' }) e c d (by decide) ⟨x, H, I1, ru, ⟨rfl, fun ys hy => by rw [I.tuple_inj hy hq]; exact hx⟩, st', fun b hb => (hf b hb).1⟩⟩
 done := by
  intro X hP hw hK hc i pins s σ H E I hf st hg
  subst hP hw hK
  obtain ⟨xs, hq, hx⟩ := hg
  obtain ⟨its, rv, p, hz⟩ := I.tuple hq
  obtain ⟨f0, f1, f2, f3, f4, f5⟩ := hf it (by simp)
  have hl := rv.length
  exact wpAny_pyNext_tuple_end (I.ok.hd hc) st (show s.heap.IsTuple a its.toArray from p) (by simp; omega) fun h' eb => ⟨rfl, I.turned (t' := s.toks) (fun b o hb e => eb b o hb e) f0 f1 f3 f4 f5⟩
 self := fun _ _ _ _ _ st h => wpAny_pyIter_tupleiter st h
theorem turn_range {P : Program} {w : World} {K : PySem.W.Frag} {tg : Expr} (it : Addr) (lo : Int) (n : Nat) : Turn P w K tg (Itr lo n) [it] it (fun i h => IsRangeIter h it (lo + (i : Nat) * 1) ((n : Int) - (i : Nat)) 1) where
 mem := by simp
 obj := fun i h st b hb => by
  have e : b = it := by simpa using hb
  subst e
  exact ⟨_, st, fun v z => by
   have z' : Data.fields _ = Data.cell v := z
   cases z'⟩
 keep := fun i h h' st k => k it (by simp) _ st
 item := by
  intro X hP hw hK hc i pins s σ H E I hf st hg
  subst hP hw hK
  obtain ⟨f0, f1, f2, f3, f4, f5⟩ := hf it (by simp)
  have W := Walks.range (prog := X.prog) (w := X.w) (I.ok.hd hc) it lo 1 n
  refine W.item i s _ _ hg st fun v h' tk hv st' kk => ?_
  obtain ⟨t, rfl⟩ := hv
  have I1 : Inv X pins σ H { s with heap := h', toks := tk } := I.turned (fun b o hb e => kk b o (by simpa using hb) e) f0 f1 f3 f4 f5
  refine ⟨_, rfl, go_of (s := { s with heap := h', toks := tk }) (n := "range_iterator") st' rfl rfl (by decide) ⟨.int (lo + i), H, I1, ⟨t, ?_⟩, ⟨rfl, rfl⟩, st', fun b hb => (hf b hb).1⟩⟩
  rw [Int.mul_one]
 done := by
  intro X hP hw hK hc i pins s σ H E I hf st hg
  subst hP hw hK
  obtain ⟨f0, f1, f2, f3, f4, f5⟩ := hf it (by simp)
  exact wpAny_pyNext_range_end (I.ok.hd hc) st (by have : n <= i := hg; omega) fun h' eb => ⟨rfl, I.turned (t' := s.toks) (fun b o hb e => eb b o hb e) f0 f1 f3 f4 f5⟩
 self := fun _ _ _ _ _ st h => wpAny_pyIter_rangeiter st h
end L2
namespace L2
open PySem PySem.Spec PyProof.Rows
section
variable {X : Cx} {tg : Expr}
theorem range_it {pins : List (Addr × Obj)} {σ : St} {H : Hp} {s : Shared} {R : It -> Hp -> Prop} {E : Value -> Shared -> Prop} {lo hi : Int} {t u v : Tok} {tk : Nat} (I : Inv X pins σ H s) (h1 : -(2 ^ 62) <= lo) (h2 : lo < 2 ^ 62) (h3 : -(2 ^ 62) <= hi) (h4 : hi < 2 ^ 62)
  (q : R (Itr lo (hi - lo).toNat) H) : wpAny (model X.prog X.w) X.A (pyIter (.ref s.heap.objs.size)) (PIE X pins σ tg R) E { s with heap := s.heap.push { cls := .type "range", data := .fields #[.int lo t, .int hi u, .int 1 v] }, toks := tk } := by
 refine wpAny_pyIter_range (IsRange.new ..) (small_one h1 h2 h3 h4) ?_
 have I1 : Inv X pins σ H { s with heap := s.heap.push { cls := .type "range", data := .fields #[.int lo t, .int hi u, .int 1 v] }, toks := tk } := I.kept fun b o e => Heap.get?_push_of_some _ e
 refine ⟨(s.heap.push { cls := .type "range", data := .fields #[.int lo t, .int hi u, .int 1 v] }).objs.size, [(s.heap.push { cls := .type "range", data := .fields #[.int lo t, .int hi u, .int 1 v] }).objs.size], _, _, H, rfl,
  I1.kept (t' := tk) fun b o e => Heap.get?_push_of_some _ e, turn_range _ lo (hi - lo).toNat, ?_, fun b hb => ?_, q⟩
 . have e1 : lo + ((0 : Nat) : Int) * 1 = lo := by simp
   have e2 : (((hi - lo).toNat : Nat) : Int) - ((0 : Nat) : Int) = Builtin.Range.rangeSize lo hi 1 := by rw [rangeSize_one]; split <;> omega
   show IsRangeIter _ _ (lo + ((0 : Nat) : Int) * 1) ((((hi - lo).toNat : Nat) : Int) - ((0 : Nat) : Int)) 1
   rw [e1, e2]
   exact Heap.get?_push_size _ rfl
 . have e : b = (s.heap.push { cls := .type "range", data := .fields #[.int lo t, .int hi u, .int 1 v] }).objs.size := by simpa using hb
   subst e
   exact I1.fpOk (Nat.le_refl _) (I1.hok.fresh (Nat.le_refl _))
noncomputable def iRng1 (ta : TA) : TI := fun σ H R => ta σ H fun vs H1 => ∃ j : Int, vs = [.int j] /\ -(2 ^ 62) <= j /\ j < 2 ^ 62 /\ R (Itr 0 j.toNat) H1
theorem pi_range1 {a : Expr} {ta : TA} {p pos : Pos} (hg : Gl X "range") (hm : X.mg "range" = none) (ha : PA X [a] ta) (hs : starEach [a] X.env = [(false, eval a X.env)] := by rfl) : PI X tg (.Call (.Name "range" p) [a] [] pos) (iRng1 ta) := by
 intro pins s σ H R I h
 refine Call_ (ld_blt I hg hm boot_range (PyProof.Rows.callWith_type1 (thn (ha pos pins s σ H _ I h) fun us s1 ⟨vs, H1, I1, r1, q1⟩ => ?_) hs rfl))
 obtain ⟨j, e, q1, q2, q⟩ := q1
 subst e
 cases r1 with
 | cons r rr =>
  cases rr
  obtain ⟨t, rfl⟩ := r
  exact call_range_1 (range_it I1 (by omega) (by omega) q1 q2 (by simpa using q))
noncomputable def tFor (wi : TI) (g : TG) (tb : TS) : TS := fun D σ H => wi σ H fun J H1 => ∃ W : Nat -> Nat -> St -> Hp -> Prop, (∃ m, W 0 m σ H1) /\ ∀ i m σ H, W i m σ H ->
 (J.stop i H /\ D.nx σ H) \/ (J.go i H /\ ∃ N : St -> Hp -> Prop, (∀ σ' H', N σ' H' -> ∃ m', m' < m /\ W (i + 1) m' σ' H') /\ ∀ x H', J.yld i H x H' -> g x σ H' fun σ2 H2 => tb { D with nx := N, ct := N, bk := D.nx } σ2 H2)
noncomputable def pinsAt (fp : List Addr) (h : Heap) : List (Addr × Obj) := fp.filterMap fun b => (h.get? b).map fun o => (b, o)
theorem mem_pinsAt {fp : List Addr} {h : Heap} {b : Addr} {o : Obj} (hb : b ∈ fp) (e : h.get? b = some o) : (b, o) ∈ pinsAt fp h := List.mem_filterMap.mpr ⟨b, hb, by rw [e]; rfl⟩
theorem of_pinsAt {fp : List Addr} {h : Heap} {p : Addr × Obj} (hp : p ∈ pinsAt fp h) : p.1 ∈ fp /\ h.get? p.1 = some p.2 := by
 obtain ⟨b, hb, e⟩ := List.mem_filterMap.mp hp
 cases q : h.get? b with
 | none => rw [q] at e; cases e
 | some o =>
  rw [q] at e
  have e' : (b, o) = p := Option.some.inj e
  subst e'
  exact ⟨hb, q⟩
theorem Inv.pinned {pins : List (Addr × Obj)} {σ : St} {H : Hp} {s : Shared} {fp : List Addr} (I : Inv X pins σ H s) (hf : ∀ b ∈ fp, FpOk X pins H b) (ho : ∀ b ∈ fp, ∃ o, s.heap.get? b = some o /\ ∀ v, o.data ≠ .cell v) : Inv X (pins ++ pinsAt fp s.heap) σ H s :=
 I.pins_of fun p hp => (List.mem_append.mp hp).elim (fun z => I.pin p (List.mem_append_right _ z)) fun z => by
  obtain ⟨hb, e⟩ := of_pinsAt z
  obtain ⟨f0, f1, f2, _⟩ := hf p.1 hb
  obtain ⟨o, e', d⟩ := ho p.1 hb
  rw [e] at e'; cases e'
  exact ⟨e, f0, f1, f2, d⟩
theorem Inv.unpinned {pins pl : List (Addr × Obj)} {σ : St} {H : Hp} {s : Shared} (I : Inv X (pins ++ pl) σ H s) : Inv X pins σ H s := I.pins_of fun p hp => I.pin p (List.mem_append_right _ (List.mem_append_left _ hp))
theorem ps_for {iter : Expr} {body : List Stmt} {wi : TI} {g : TG} {tb : TS} {pos : Pos} (hp : PassesOwn (model X.prog X.w) X.A X.env X.xe) (hc : X.calm = true) (hi : PI X tg iter wi) (hg : PG X tg g) (hb : PSs X body tb)
  (hs : ∀ x, foldedSetIterable iter X.env x = pure x := by intro _; rfl) : PS X (.For tg iter body [] pos) (tFor wi g tb) := by
 intro pins s σ H D I h
 refine wpAny_For (thn (hi pins s σ H _ I h) fun v s1 h1 => thn h1 fun itv s2 h2 => ?_) hs
 obtain ⟨it, fp, tn, J, H2, e, I2, T, st2, f2, W, ⟨m0, w0⟩, turn⟩ := h2
 subst e
 have stat : ∀ {H' : Hp}, (∀ b ∈ fp, H' b = none) -> ∀ b ∈ fp, FpOk X pins H' b := fun hn b hb => ⟨hn b hb, (f2 b hb).2⟩
 refine codeAny_forLoop_any (fun n s' => ∃ i σ' H', Inv X pins σ' H' s' /\ tn i s'.heap /\ (∀ b ∈ fp, H' b = none) /\ W i n σ' H') ?_ m0 ⟨0, σ, H2, I2, st2, fun b hb => (f2 b hb).1, w0⟩
 rintro n s3 ⟨i, σ3, H3, I3, st3, fr3, w3⟩
 rcases turn i n σ3 H3 w3 with ⟨stop, qn⟩ | ⟨go, N, hN, step⟩
 . refine wpAny_passesOwn hp (thn (T.done X rfl rfl rfl hc i pins s3 σ3 H3 X.xe I3 (stat fr3) st3 stop) fun r s4 ⟨hr, I4⟩ => ?_)
   subst hr
   exact wpAny_execs_nil ⟨σ3, H3, I4, qn⟩
 . refine wpAny_passesOwn hp (thn (T.item X rfl rfl rfl hc i pins s3 σ3 H3 X.xe I3 (stat fr3) st3 go) fun r s4 ⟨u, hr, h4⟩ => ?_)
   subst hr
   refine wpAny_passesOwn hp (thn h4 fun _ s5 ⟨x, H5, I5, r5, y5, st5, fr5⟩ => ?_)
   have I5' := I5.pinned (stat fr5) (T.obj _ _ st5)
   refine wpAny_passesOwn hp (thn (hg _ s5 σ3 H5 x u _ I5' r5 (step x H5 y5)) fun _ s6 ⟨σ6, H6, I6, q6⟩ => ?_)
   refine wpAny_passesOwn hp (thn (hb _ s6 σ6 H6 _ I6 q6) fun f s7 q7 => ?_)
   have again : ∀ {σ7 : St} {H7 : Hp}, Inv X (pins ++ pinsAt fp s5.heap) σ7 H7 s7 -> N σ7 H7 -> ∃ m, m < n /\ ∃ i σ' H', Inv X pins σ' H' s7 /\ tn i s7.heap /\ (∀ b ∈ fp, H' b = none) /\ W i m σ' H' := fun {σ7 H7} I7 n7 => by
    obtain ⟨m', hm, w7⟩ := hN σ7 H7 n7
    refine ⟨m', hm, i + 1, σ7, H7, I7.unpinned, T.keep _ _ _ st5 fun b hb o e => (I7.pin (b, o) (List.mem_append_right _ (List.mem_append_right _ (mem_pinsAt hb e)))).1, fun b hb => ?_, w7⟩
    obtain ⟨o, e, d⟩ := T.obj _ _ st5 b hb
    exact (I7.pin (b, o) (List.mem_append_right _ (List.mem_append_right _ (mem_pinsAt hb e)))).2.1
   cases f with
   | next => obtain ⟨σ7, H7, I7, n7⟩ := q7; exact again I7 n7
   | cont => obtain ⟨σ7, H7, I7, n7⟩ := q7; exact again I7 n7
   | brk => obtain ⟨σ7, H7, I7, q7⟩ := q7; exact ⟨σ7, H7, I7.unpinned, q7⟩
   | ret v => obtain ⟨x7, σ7, H7, I7, r7, q7⟩ := q7; exact ⟨x7, σ7, H7, I7.unpinned, r7, q7⟩
end
end L2
namespace L2
open PySem PySem.Spec PyProof.Rows
noncomputable abbrev R2 := V -> V -> Hp -> VK -> Prop
noncomputable def OpR (X : Cx) (f : Value -> Value -> Sem Value) (r : R2) : Prop :=
 ∀ (pins : List (Addr × Obj)) (s : Shared) (σ : St) (H : Hp) (x y : V) (v u : Value) (Q : VK), Inv X pins σ H s -> RelV x v -> RelV y u -> r x y H Q ->
  wpAny (model X.prog X.w) X.A (f v u) (EP X pins σ Q) X.xe s
noncomputable def UnR (X : Cx) (f : Value -> Sem Value) (r : V -> Hp -> VK -> Prop) : Prop :=
 ∀ (pins : List (Addr × Obj)) (s : Shared) (σ : St) (H : Hp) (x : V) (v : Value) (Q : VK), Inv X pins σ H s -> RelV x v -> r x H Q ->
  wpAny (model X.prog X.w) X.A (f v) (EP X pins σ Q) X.xe s
noncomputable def CallR (X : Cx) (f : Value) (r : List V -> Hp -> VK -> Prop) : Prop :=
 ∀ (pins : List (Addr × Obj)) (s : Shared) (σ : St) (H : Hp) (xs : List V) (us : List Value) (Q : VK), Inv X pins σ H s -> Vals xs us -> r xs H Q ->
  wpAny (model X.prog X.w) X.A (call f us) (EP X pins σ Q) X.xe s
noncomputable def tOp (r : R2) (ta tb : TE) : TE := fun σ H Q => ta σ H fun x H1 => tb σ H1 fun y H2 => r x y H2 Q
noncomputable def tUn (r : V -> Hp -> VK -> Prop) (ta : TE) : TE := fun σ H Q => ta σ H fun x H1 => r x H1 Q
noncomputable def rI (C : Int -> Int -> Prop) (g : Int -> Int -> V) : R2 := fun x y H Q => ∃ i j, x = .int i /\ y = .int j /\ C i j /\ Q (g i j) H
noncomputable def rI0 (g : Int -> Int -> V) : R2 := fun x y H Q => ∃ i j, x = .int i /\ y = .int j /\ Q (g i j) H
noncomputable def rU (g : Int -> V) : V -> Hp -> VK -> Prop := fun x H Q => ∃ i, x = .int i /\ Q (g i) H
section
variable {X : Cx} {a b c : Expr} {ta tb tc : TE} {pos : Pos}
theorem binT (ha : PE X a ta) (hb : PE X b tb) {pins : List (Addr × Obj)} {s : Shared} {σ : St} {H : Hp} {R : V -> V -> Hp -> Prop} (I : Inv X pins σ H s)
  (h : ta σ H fun x H1 => tb σ H1 fun y H2 => R x y H2) {Q : Value -> Shared -> Prop} {f : Value -> Value -> Sem Value}
  (hf : ∀ v u s2 x y H2, Inv X pins σ H2 s2 -> RelV x v -> RelV y u -> R x y H2 -> wpAny (model X.prog X.w) X.A (f v u) Q X.xe s2) :
  wpAny (model X.prog X.w) X.A (eval a X.env) (fun v s₁ => wpAny (model X.prog X.w) X.A (eval b X.env) (fun u s₂ => wpAny (model X.prog X.w) X.A (f v u) Q X.xe s₂) X.xe s₁) X.xe s := by
 refine thn (ha pins s σ H _ I h) fun v s1 ⟨x, H1, I1, r1, q1⟩ => ?_
 refine thn (hb pins s1 σ H1 _ I1 q1) fun u s2 ⟨y, H2, I2, r2, q2⟩ => ?_
 exact hf v u s2 x y H2 I2 r1 r2 q2
theorem pe_op {op : Operator} {r : R2} (ho : OpR X (binaryOp op) r) (ha : PE X a ta) (hb : PE X b tb) : PE X (.BinOp a op b pos) (tOp r ta tb) := by
 intro pins s σ H Q I h
 exact wpAny_BinOp (binT ha hb I h fun v u s2 x y H2 I2 rx ry q => ho pins s2 σ H2 x y v u Q I2 rx ry q)
theorem pe_un {op : UnaryOp} {r : V -> Hp -> VK -> Prop} (ho : UnR X (unaryOp op) r) (ha : PE X a ta) : PE X (.UnaryOp op a pos) (tUn r ta) := by
 intro pins s σ H Q I h
 exact UnaryOp_ (thn (ha pins s σ H _ I h) fun v s1 ⟨x, H1, I1, r1, q1⟩ => ho pins s1 σ H1 x v Q I1 r1 q1)
theorem opI {f : Value -> Value -> Sem Value} {C : Int -> Int -> Prop} {g : Int -> Int -> Int}
  (rule : ∀ (i j : Int) (t u : Tok) (s : Shared) (Q : Value -> Shared -> Prop) (E : Value -> Shared -> Prop), C i j -> Q (.int (g i j) s.toks) { s with toks := s.toks + 1 } -> wpAny (model X.prog X.w) X.A (f (.int i t) (.int j u)) Q E s) :
  OpR X f (rI C fun i j => .int (g i j)) := by
 intro pins s σ H x y v u Q I rx ry h
 obtain ⟨i, j, rfl, rfl, hc, q⟩ := h
 obtain ⟨t, rfl⟩ := rx
 obtain ⟨t', rfl⟩ := ry
 exact rule i j t t' s _ _ hc ⟨.int (g i j), H, I.tok _, ⟨_, rfl⟩, q⟩
theorem opI0 {f : Value -> Value -> Sem Value} {g : Int -> Int -> Int}
  (rule : ∀ (i j : Int) (t u : Tok) (s : Shared) (Q : Value -> Shared -> Prop) (E : Value -> Shared -> Prop), Q (.int (g i j) s.toks) { s with toks := s.toks + 1 } -> wpAny (model X.prog X.w) X.A (f (.int i t) (.int j u)) Q E s) :
  OpR X f (rI0 fun i j => .int (g i j)) := by
 intro pins s σ H x y v u Q I rx ry h
 obtain ⟨i, j, rfl, rfl, q⟩ := h
 obtain ⟨t, rfl⟩ := rx
 obtain ⟨t', rfl⟩ := ry
 exact rule i j t t' s _ _ ⟨.int (g i j), H, I.tok _, ⟨_, rfl⟩, q⟩
theorem opB0 {f : Value -> Value -> Sem Value} {g : Int -> Int -> Bool}
  (rule : ∀ (i j : Int) (t u : Tok) (s : Shared) (Q : Value -> Shared -> Prop) (E : Value -> Shared -> Prop), Q (.bool (g i j)) s -> wpAny (model X.prog X.w) X.A (f (.int i t) (.int j u)) Q E s) :
  OpR X f (rI0 fun i j => .bl (g i j)) := by
 intro pins s σ H x y v u Q I rx ry h
 obtain ⟨i, j, rfl, rfl, q⟩ := h
 obtain ⟨t, rfl⟩ := rx
 obtain ⟨t', rfl⟩ := ry
 exact rule i j t t' s _ _ ⟨.bl (g i j), H, I, rfl, q⟩
noncomputable def CDiv (i j : Int) : Prop := 0 < j /\ j < 1073741824
noncomputable def CPow (i j : Int) : Prop := 0 <= j /\ j <= 1000000 /\ i.natAbs < 2 ^ 64
noncomputable def CMul (i j : Int) : Prop := (-(2 ^ 64) < i /\ i < 2 ^ 64) \/ (-(2 ^ 64) < j /\ j < 2 ^ 64)
theorem two_pow_nn (k : Nat) : (0 : Int) <= 2 ^ k := by
 rw [two_pow_cast]
 exact Int.natCast_nonneg _
theorem op_add : OpR X (binaryOp .Add) (rI0 fun i j => .int (i + j)) := opI0 fun _ _ _ _ _ _ _ q => add_int q
theorem op_sub : OpR X (binaryOp .Sub) (rI0 fun i j => .int (i - j)) := opI0 fun _ _ _ _ _ _ _ q => sub_int q
theorem op_modN : OpR X (binaryOp .Mod) (rI (fun _ j => j ≠ 0) fun i j => .int (i.fmod j)) := opI fun _ _ _ _ _ _ _ hc q => mod_int' hc q
theorem op_pow : OpR X (binaryOp .Pow) (rI CPow fun i j => .int (i ^ j.toNat)) := opI fun _ _ _ _ _ _ _ hc q => pow_int_small hc.1 hc.2.1 hc.2.2 q
theorem op_shr : OpR X (binaryOp .RShift) (rI (fun _ j => 0 <= j) fun i j => .int (i / 2 ^ j.toNat)) := opI fun i j _ _ _ _ _ hc q =>
 rshift_int hc (by rw [Int.fdiv_eq_ediv_of_nonneg i (two_pow_nn _)]; exact q)
theorem unI {f : Value -> Sem Value} {g : Int -> Int}
  (rule : ∀ (i : Int) (t : Tok) (s : Shared) (Q : Value -> Shared -> Prop) (E : Value -> Shared -> Prop), Q (.int (g i) s.toks) { s with toks := s.toks + 1 } -> wpAny (model X.prog X.w) X.A (f (.int i t)) Q E s) :
  UnR X f (rU fun i => .int (g i)) := by
 intro pins s σ H x v Q I rx h
 obtain ⟨i, rfl, q⟩ := h
 obtain ⟨t, rfl⟩ := rx
 exact rule i t s _ _ ⟨.int (g i), H, I.tok _, ⟨_, rfl⟩, q⟩
theorem un_neg : UnR X (unaryOp .USub) (rU fun i => .int (-i)) := unI fun _ _ _ _ _ q => neg_int q
end
noncomputable def scal : V -> V -> Bool
 | .non, .non => true | .non, .int _ => true | .int _, .non => true | .non, .bl _ => true | .bl _, .non => true | .non, .str _ => true | .str _, .non => true
 | .int _, .int _ => true | .bl _, .bl _ => true | .str _, .str _ => true | .byt _, .byt _ => true
 | .int _, .str _ => true | .str _, .int _ => true | .bl _, .str _ => true | .str _, .bl _ => true
 | _, _ => false
noncomputable def rEq : R2 := fun x y H Q => scal x y = true /\ Q (.bl (decide (x = y))) H
noncomputable def rNe : R2 := fun x y H Q => scal x y = true /\ Q (.bl (!decide (x = y))) H
theorem dec_int {i j : Int} : decide (V.int i = V.int j) = (i == j) := by
 rw [Bool.eq_iff_iff]
 simp
theorem dec_bl {i j : Bool} : decide (V.bl i = V.bl j) = (i == j) := by
 rw [Bool.eq_iff_iff]
 simp
theorem dec_str {i j : Str} : decide (V.str i = V.str j) = (i == j) := by
 rw [Bool.eq_iff_iff]
 simp
theorem dec_byt {i j : Array UInt8} : decide (V.byt i = V.byt j) = (i.toList == j.toList) := by
 rw [Bool.eq_iff_iff]
 cases i
 cases j
 simp
section
variable {X : Cx} {a b c : Expr} {ta tb tc : TE} {pos : Pos}
theorem fin_bl {pins : List (Addr × Obj)} {σ : St} {H : Hp} {s : Shared} {Q : VK} {k k' : Bool} (I : Inv X pins σ H s) (q : Q (.bl k) H) (e : k = k') : EP X pins σ Q (.bool k') s := by
 subst e
 exact ⟨.bl k, H, I, rfl, q⟩
theorem op_eq : OpR X (compareOp .Eq) rEq := by
 intro pins s σ H x y v u Q I rx ry h
 obtain ⟨hs, q⟩ := h
 cases x with
 | non =>
  cases rx
  cases y with
  | non => cases ry; exact PySem.EqNone.eq_none_none (fin_bl I q (by simp))
  | bl j => cases ry; exact PySem.EqNone.eq_none_bool (fin_bl I q (by simp))
  | int j => obtain ⟨t', rfl⟩ := ry; exact PySem.EqNone.eq_none_int (fin_bl I q (by simp))
  | str j => obtain ⟨t', rfl⟩ := ry; exact PySem.EqNone.eq_none_str (fin_bl I q (by simp))
  | _ => exact absurd (show false = true from hs) Bool.false_ne_true
 | bl i =>
  cases rx
  cases y with
  | non => cases ry; exact PySem.EqNone.eq_bool_none (fin_bl I q (by simp))
  | bl j => cases ry; exact eq_bool (fin_bl I q dec_bl)
  | str j => obtain ⟨t', rfl⟩ := ry; exact PySem.EqMixed.eq_bool_str (fin_bl I q (by simp))
  | _ => exact absurd (show false = true from hs) Bool.false_ne_true
 | int i =>
  obtain ⟨t, rfl⟩ := rx
  cases y with
  | non => cases ry; exact PySem.EqNone.eq_int_none (fin_bl I q (by simp))
  | int j => obtain ⟨t', rfl⟩ := ry; exact eq_int (fin_bl I q dec_int)
  | str j => obtain ⟨t', rfl⟩ := ry; exact PySem.EqMixed.eq_int_str (fin_bl I q (by simp))
  | _ => exact absurd (show false = true from hs) Bool.false_ne_true
 | str i =>
  obtain ⟨t, rfl⟩ := rx
  cases y with
  | non => cases ry; exact PySem.EqNone.eq_str_none (fin_bl I q (by simp))
  | bl j => cases ry; exact PySem.EqMixed.eq_str_bool (fin_bl I q (by simp))
  | int j => obtain ⟨t', rfl⟩ := ry; exact PySem.EqMixed.eq_str_int (fin_bl I q (by simp))
  | str j => obtain ⟨t', rfl⟩ := ry; exact eq_str (fin_bl I q dec_str)
  | _ => exact absurd (show false = true from hs) Bool.false_ne_true
 | byt i =>
  obtain ⟨t, rfl⟩ := rx
  cases y with
  | byt j => obtain ⟨t', rfl⟩ := ry; exact PySem.W.eq_bytes (fin_bl I q dec_byt)
  | _ => exact absurd (show false = true from hs) Bool.false_ne_true
 | _ => cases y <;> exact absurd (show false = true from hs) Bool.false_ne_true
theorem op_ne : OpR X (compareOp .NotEq) rNe := by
 intro pins s σ H x y v u Q I rx ry h
 obtain ⟨hs, q⟩ := h
 cases x with
 | non =>
  cases rx
  cases y with
  | non => cases ry; exact PySem.EqNone.ne_none_none (fin_bl I q (by simp))
  | bl j => cases ry; exact PySem.EqNone.ne_none_bool (fin_bl I q (by simp))
  | int j => obtain ⟨t', rfl⟩ := ry; exact PySem.EqNone.ne_none_int (fin_bl I q (by simp))
  | str j => obtain ⟨t', rfl⟩ := ry; exact PySem.EqNone.ne_none_str (fin_bl I q (by simp))
  | _ => exact absurd (show false = true from hs) Bool.false_ne_true
 | bl i =>
  cases rx
  cases y with
  | non => cases ry; exact PySem.EqNone.ne_bool_none (fin_bl I q (by simp))
  | bl j => cases ry; exact ne_bool (fin_bl I q (congrArg not dec_bl))
  | str j => obtain ⟨t', rfl⟩ := ry; exact PySem.EqMixed.ne_bool_str (fin_bl I q (by simp))
  | _ => exact absurd (show false = true from hs) Bool.false_ne_true
 | int i =>
  obtain ⟨t, rfl⟩ := rx
  cases y with
  | non => cases ry; exact PySem.EqNone.ne_int_none (fin_bl I q (by simp))
  | int j => obtain ⟨t', rfl⟩ := ry; exact ne_int (fin_bl I q (congrArg not dec_int))
  | str j => obtain ⟨t', rfl⟩ := ry; exact PySem.EqMixed.ne_int_str (fin_bl I q (by simp))
  | _ => exact absurd (show false = true from hs) Bool.false_ne_true
 | str i =>
  obtain ⟨t, rfl⟩ := rx
  cases y with
  | non => cases ry; exact PySem.EqNone.ne_str_none (fin_bl I q (by simp))
  | bl j => cases ry; exact PySem.EqMixed.ne_str_bool (fin_bl I q (by simp))
  | int j => obtain ⟨t', rfl⟩ := ry; exact PySem.EqMixed.ne_str_int (fin_bl I q (by simp))
  | str j => obtain ⟨t', rfl⟩ := ry; exact ne_str (fin_bl I q (congrArg not dec_str))
  | _ => exact absurd (show false = true from hs) Bool.false_ne_true
 | byt i =>
  obtain ⟨t, rfl⟩ := rx
  cases y with
  | byt j => obtain ⟨t', rfl⟩ := ry; exact PySem.W.ne_bytes (fin_bl I q (congrArg not dec_byt))
  | _ => exact absurd (show false = true from hs) Bool.false_ne_true
 | _ => cases y <;> exact absurd (show false = true from hs) Bool.false_ne_true
theorem op_lt : OpR X (compareOp .Lt) (rI0 fun i j => .bl (decide (i < j))) := opB0 fun _ _ _ _ _ _ _ q => lt_int q
theorem op_le : OpR X (compareOp .LtE) (rI0 fun i j => .bl (decide (i <= j))) := opB0 fun _ _ _ _ _ _ _ q => le_int q
theorem op_gt : OpR X (compareOp .Gt) (rI0 fun i j => .bl (decide (j < i))) := opB0 fun _ _ _ _ _ _ _ q => gt_int q
theorem op_ge : OpR X (compareOp .GtE) (rI0 fun i j => .bl (decide (j <= i))) := opB0 fun _ _ _ _ _ _ _ q => ge_int q
theorem op_in_str : OpR X (compareOp .In) (fun x y H Q => ∃ i j, x = .str i /\ y = .str j /\ Q (.bl (!(Builtin.Str.occurrences j i 0 j.length 1).isEmpty)) H) := by
 intro pins s σ H x y v u Q I rx ry h
 obtain ⟨i, j, rfl, rfl, q⟩ := h
 obtain ⟨t, rfl⟩ := rx
 obtain ⟨t', rfl⟩ := ry
 exact in_str (fin_bl I q rfl)
theorem op_isN : OpR X (compareOp .Is) (fun x y H Q => y = .non /\ Q (.bl (decide (x = .non))) H) := by
 intro pins s σ H x y v u Q I rx ry h
 obtain ⟨rfl, q⟩ := h
 cases ry
 refine is_none_gen (fin_bl I q ?_)
 cases x <;> first
  | (cases rx; rfl)
  | (obtain ⟨t, rfl⟩ := rx; rfl)
theorem op_notN : OpR X (compareOp .IsNot) (fun x y H Q => y = .non /\ Q (.bl (!decide (x = .non))) H) := by
 intro pins s σ H x y v u Q I rx ry h
 obtain ⟨rfl, q⟩ := h
 cases ry
 refine isnot_none_gen (fin_bl I q ?_)
 cases x <;> first
  | (cases rx; rfl)
  | (obtain ⟨t, rfl⟩ := rx; rfl)
theorem OpR.or {f : Value -> Value -> Sem Value} {r r' : R2} (h : OpR X f r) (h' : OpR X f r') : OpR X f (fun x y H Q => r x y H Q \/ r' x y H Q) := by
 intro pins s σ H x y v u Q I rx ry q
 rcases q with q | q
 . exact h pins s σ H x y v u Q I rx ry q
 . exact h' pins s σ H x y v u Q I rx ry q
theorem nomark (b : Expr) {op : CmpOp} (h : op ≠ .In := by decide) (h2 : op ≠ .NotIn := by decide) : behindInMarks op b = false := by
 have e1 : (op == CmpOp.In) = false := by cases op <;> first | rfl | exact absurd rfl h
 have e2 : (op == CmpOp.NotIn) = false := by cases op <;> first | rfl | exact absurd rfl h2
 cases b <;> simp [behindInMarks, e1, e2]
theorem pe_cmpR {op : CmpOp} {r : R2} (ho : OpR X (compareOp op) r) (ha : PE X a ta) (hb : PE X b tb) (hm : behindInMarks op b = false) : PE X (.Compare a [op] [b] pos) (tOp r ta tb) := by
 intro pins s σ H Q I h
 exact wpAny_Compare1 (binT ha hb I h fun v u s2 x y H2 I2 rx ry q => ho pins s2 σ H2 x y v u Q I2 rx ry q) hm
noncomputable def tTest (t : TE) : TT := fun σ H Q => t σ H fun x H' => ∃ k, x = .bl k /\ Q k H'
theorem pt_cmpR {op : CmpOp} {r : R2} (ho : OpR X (compareOp op) r) (ha : PE X a ta) (hb : PE X b tb) (hm : behindInMarks op b = false) : PT X (.Compare a [op] [b] pos) (tTest (tOp r ta tb)) := by
 intro pins s σ H Q I h
 refine wpAny_isTrue_Compare1 (thn (ha pins s σ H _ I h) fun v s1 ⟨x, H1, I1, r1, q1⟩ => thn (hb pins s1 σ H1 _ I1 q1) fun u s2 ⟨y, H2, I2, r2, q2⟩ =>
  thn (ho pins s2 σ H2 x y v u _ I2 r1 r2 q2) fun c s3 ⟨z, H3, I3, r3, k, e, q3⟩ => ?_) hm
 subst e
 cases r3
 exact wpAny_truthy_bool ⟨H3, I3, q3⟩
theorem line63 : (sizeLine : Nat) < 2 ^ 63 := by rw [sizeLine_eq]; decide
theorem op_add_str : OpR X (binaryOp .Add) (fun x y H Q => ∃ i j, x = .str i /\ y = .str j /\ i.length + j.length <= sizeLine /\ Q (.str (i ++ j)) H) := by
 intro pins s σ H x y v u Q I rx ry h
 obtain ⟨i, j, rfl, rfl, hz, q⟩ := h
 obtain ⟨t, rfl⟩ := rx
 obtain ⟨t', rfl⟩ := ry
 exact add_str (fun t' tk => ⟨.str (i ++ j), H, I.tok _, ⟨_, rfl⟩, q⟩) hz
theorem vals1 {x : V} {us : List Value} (r : Vals [x] us) : ∃ u, us = [u] /\ RelV x u := by
 cases r with
 | cons r1 r2 => cases r2; exact ⟨_, rfl, r1⟩
theorem vals2 {x y : V} {us : List Value} (r : Vals [x, y] us) : ∃ u w', us = [u, w'] /\ RelV x u /\ RelV y w' := by
 cases r with
 | cons r1 r2 =>
  cases r2 with
  | cons r3 r4 => cases r4; exact ⟨_, _, rfl, r1, r3⟩
theorem call_abs : CallR X (.builtin "abs") (fun xs H Q => ∃ i, xs = [.int i] /\ Q (.int (if i < 0 then -i else i)) H) := by
 intro pins s σ H xs us Q I r h
 obtain ⟨i, rfl, q⟩ := h
 obtain ⟨u, rfl, t, rfl⟩ := vals1 r
 exact call_abs_int fun u tk => ⟨.int (if i < 0 then -i else i), H, I.tok _, ⟨_, rfl⟩, q⟩
theorem call_max2 (hc : X.calm = true) : CallR X (.builtin "max") (fun xs H Q => ∃ i j, xs = [.int i, .int j] /\ Q (.int (if j > i then j else i)) H) := by
 intro pins s σ H xs us Q I r h
 obtain ⟨i, j, rfl, q⟩ := h
 obtain ⟨u, w', rfl, ⟨t, rfl⟩, ⟨t', rfl⟩⟩ := vals2 r
 refine max_two_ints (I.ok.hd hc) fun h' tk k => ⟨_, H, I.kept k, ?_, q⟩
 by_cases hj : j > i
 . rw [if_pos hj, if_pos hj]; exact ⟨_, rfl⟩
 . rw [if_neg hj, if_neg hj]; exact ⟨_, rfl⟩
theorem call_min2 (hc : X.calm = true) : CallR X (.builtin "min") (fun xs H Q => ∃ i j, xs = [.int i, .int j] /\ Q (.int (if j < i then j else i)) H) := by
 intro pins s σ H xs us Q I r h
 obtain ⟨i, j, rfl, q⟩ := h
 obtain ⟨u, w', rfl, ⟨t, rfl⟩, ⟨t', rfl⟩⟩ := vals2 r
 refine min_two_ints (I.ok.hd hc) fun h' tk k => ⟨_, H, I.kept k, ?_, q⟩
 by_cases hj : j < i
 . rw [if_pos hj, if_pos hj]; exact ⟨_, rfl⟩
 . rw [if_neg hj, if_neg hj]; exact ⟨_, rfl⟩
theorem call_int1 : CallR X (.type "int") (fun xs H Q => (∃ i, xs = [.int i] /\ Q (.int i) H) \/ ∃ k, xs = [.bl k] /\ Q (.int (if k then 1 else 0)) H) := by
 intro pins s σ H xs us Q I r h
 rcases h with ⟨i, rfl, q⟩ | ⟨k, rfl, q⟩
 . obtain ⟨u, rfl, t, rfl⟩ := vals1 r
   exact call_int_int ⟨.int i, H, I, ⟨_, rfl⟩, q⟩
 . obtain ⟨u, rfl, r1⟩ := vals1 r
   cases r1
   exact call_int_bool ⟨.int (if k then 1 else 0), H, I.tok _, ⟨_, rfl⟩, q⟩
theorem call_str_int : CallR X (.type "str") (fun xs H Q => ∃ i, xs = [.int i] /\ i.natAbs.log2 < 1920 /\ Q (.str (toString i)) H) := by
 intro pins s σ H xs us Q I r h
 obtain ⟨i, rfl, hz, q⟩ := h
 obtain ⟨u, rfl, t, rfl⟩ := vals1 r
 exact PySem.P.str_of_int hz ⟨.str _, H, I.tok _, ⟨_, rfl⟩, q⟩
end
end L2
namespace L2
open PySem PySem.Spec PyProof.Rows
structure ObjM (h : Heap) (x dx C : Addr) (mA : Str -> Option Value) : Prop where
 obj : h.get? x = some (PySem.W.instObj C dx)
 ns : h.Ns1 dx mA
 ne : dx ≠ x
section
variable {prog : Program} {w : World} {A : Around} {E : Value -> Shared -> Prop} {s : Shared} {K : PySem.W.Frag} {x dx C f : Addr} {mA : Str -> Option Value} {name : Str} {v : Value}
end
theorem RelO.some_of {v : V} {o : Option Value} (r : RelO (some v) o) : ∃ u, o = some u /\ RelV v u := by
 cases o with
 | none => exact (show False from r).elim
 | some u => exact ⟨u, rfl, r⟩
theorem handed_of {v : V} {u : Value} (r : RelV v u) : PySem.W.handedIn u = true := by
 cases v with
 | non => cases (show u = Value.none from r); rfl
 | bl b => cases (show u = Value.bool b from r); rfl
 | int i => obtain ⟨t, e⟩ := (show ∃ t, u = Value.int i t from r); cases e; rfl
 | str x => obtain ⟨t, e⟩ := (show ∃ t, u = Value.str x t from r); cases e; rfl
 | byt b => obtain ⟨t, e⟩ := (show ∃ t, u = Value.bytes b t from r); cases e; rfl
 | flt b => obtain ⟨t, e⟩ := (show ∃ t, u = Value.float b t from r); cases e; rfl
 | ref a => cases (show u = Value.ref a from r); rfl
 | ty n => cases (show u = Value.type n from r); rfl
section
variable {P : Program} {w : World} {H H' : Hp} {h h' : Heap} {a C dx : Addr} {fs fs' : List (Str × V)}
end
structure Cls (K : PySem.W.Frag) (C : Addr) : Prop where
 pg : PySem.W.plainGet K C Str.empty = true
 hd : PySem.W.hasDictIn K C = true
 po : PySem.W.plainOver K C = true
 sa : PySem.W.findIn K (.ref C) "__setattr__" = some (some (.builtin "object.__setattr__"))
structure Con (K : PySem.W.Frag) (C : Addr) (f : Str) (v : V) (u : Value) : Prop where
 at_ : PySem.W.findIn K (.ref C) f = some (some u)
 rel : RelV v u
 get : PySem.W.specialIn K u "__get__" = some none
 cp : PySem.W.copiedNames.contains f = false
structure Meth (K : PySem.W.Frag) (C : Addr) (m : Str) (f : Addr) : Prop where
 at_ : PySem.W.findIn K (.ref C) m = some (some (.ref f))
 fn : PySem.W.isFn K (.ref f) = true
 kp : PySem.W.keepIn K (.ref f) = true
section
variable {X : Cx} {pins : List (Addr × Obj)} {σ : St} {H : Hp} {s : Shared} {a C dx : Addr} {fs : List (Str × V)} {f : Str} {v : V} {A : Around} {E : Value -> Shared -> Prop}
theorem attr_of {prog : Program} {w : World} {env : Env} {e : Expr} {f : Str} {pos : Pos} {s : Shared} {Q : Value -> Shared -> Prop} (hb : attributeBase e f env (eval e env) = eval e env)
  (h : wpAny (model prog w) A (eval e env) (fun o s₁ => wpAny (model prog w) A (getAttr o f true) Q E s₁) E s) : wpAny (model prog w) A (eval (.Attribute e f pos) env) Q E s :=
 Attribute_any_ h (by rw [arm_eval_Attribute, hb])
end
section
variable {X : Cx} {o e value : Expr} {f : Str} {pos pos' tpos : Pos} {ta tv : TE}
end
section
variable {X : Cx} {pins : List (Addr × Obj)} {σ : St} {H : Hp} {s : Shared} {A : Around} {E : Value -> Shared -> Prop} {Q : Value -> Shared -> Prop} {c : Value} {b : Bool}
inductive TyOf (K : PySem.W.Frag) (H : Hp) : V -> Value -> Prop where
 | non : TyOf K H .non (.type "NoneType")
 | bl (x : Bool) : TyOf K H (.bl x) (.type "bool")
 | int (i : Int) : TyOf K H (.int i) (.type "int")
 | str (x : Str) : TyOf K H (.str x) (.type "str")
 | flt (x : UInt64) : TyOf K H (.flt x) (.type "float")
 | lst {a : Addr} {xs : List V} (e : H a = some (.lst xs)) : TyOf K H (.ref a) (.type "list")
 | frz {a : Addr} {o : Obj} {xs : List V} (e : H a = some (.frz o (.lst xs))) : TyOf K H (.ref a) (.type "list")
 | tup {a : Addr} {xs : List V} (e : H a = some (.tup xs)) : TyOf K H (.ref a) (.type "tuple")
 | dK {a : Addr} {kvs : List (Key × V)} (e : H a = some (.dK kvs)) : TyOf K H (.ref a) (.type "dict")
 | dT {a : Addr} {kvs : List (List Key × V)} (e : H a = some (.dT kvs)) : TyOf K H (.ref a) (.type "dict")
 | ins {a C dx : Addr} {fs : List (Str × V)} (e : H a = some (.ins C dx fs)) (cl : Cls K C) (ha : PySem.W.findIn K (.ref C) "__class__" = some (some (.builtin "object.__class__")))
   (hn : PySem.W.specialIn K (.builtin "object.__class__") "__get__" = some (some (.builtin "getset_descriptor.__get__"))) (htk : PySem.W.takesIn K (.builtin "object.__class__") = some true)
   (hm : PySem.W.mroIn K C (.type "object") = some true) : TyOf K H (.ref a) (.ref C)
end
end L2
namespace L2
open PySem PySem.Spec PyProof.Rows
structure Room (k : Nat) (A : Around) : Prop where
 hd : A.handled = none
 dp : A.depth + 3 * k + 5 < recursionLimit
 un : A.units + 16 * k + 200 < cLine
theorem Room.mono {j k : Nat} {A : Around} (r : Room k A) (h : j <= k) : Room j A := ⟨r.hd, by have := r.dp; omega, by have := r.un; omega⟩
theorem Room.deeper {k : Nat} {A : Around} (r : Room (k + 1) A) (env : Env) : Room k (A.deeper env) :=
 ⟨r.hd, by have := r.dp; show A.depth + 1 + 3 * k + 5 < _; omega, by have := r.un; show A.units + 3 + 16 * k + 200 < _; omega⟩
theorem make_depth {A : Around} {C : Addr} {us : List Value} {kw : List (Str × Value)} : (A.under (.builtin "type.__call__" ⟨.ref C :: us, kw⟩)).depth = A.depth + 1 := by
 first | rfl | simp [Around.under, Code.weight, Code.isCreation, Code.isGuard, Code.isCaller, Code.frames, Code.isFrame, guardIds]
theorem make_units {A : Around} {C : Addr} {us : List Value} {kw : List (Str × Value)} : (A.under (.builtin "type.__call__" ⟨.ref C :: us, kw⟩)).units = A.units + 1 := by
 first | rfl | simp [Around.under, Code.cUnits, Code.frames, Code.isFrame]
theorem Room.make {k : Nat} {A : Around} (r : Room (k + 1) A) (C : Addr) (us : List Value) (kw : List (Str × Value)) : Room k (A.under (.builtin "type.__call__" ⟨.ref C :: us, kw⟩)) :=
 ⟨r.hd, by have := r.dp; rw [make_depth]; omega, by have := r.un; rw [make_units]; omega⟩
theorem Room.depth {k : Nat} {A : Around} (r : Room k A) : A.depth < recursionLimit := by have := r.dp; omega
theorem Room.units {k : Nat} {A : Around} (r : Room k A) : A.units + 64 < cLine := by have := r.un; omega
noncomputable def tNil : TA := fun _ H Q => Q [] H
noncomputable def tCons (ta : TE) (tr : TA) : TA := fun σ H Q => ta σ H fun x H1 => tr σ H1 fun xs H2 => Q (x :: xs) H2
section
variable {X : Cx} {e : Expr} {es : List Expr} {te : TE} {t : TA} {pos : Pos}
theorem pa_nil : PA X [] tNil := fun _ _ _ _ H Q I h => Calls.spliced_nil ⟨[], H, I, .nil, h⟩
theorem pa_cons (ha : PE X e te) (hr : PA X es t) (hs : starEach (e :: es) X.env = (false, eval e X.env) :: starEach es X.env := by rfl) : PA X (e :: es) (tCons te t) := by
 intro pos pins s σ H Q I h
 rw [hs]
 show wpAny _ _ (spliced ((false, eval e X.env) :: backTo pos (starEach es X.env))) _ _ s
 refine Calls.spliced_cons (thn (ha pins s σ H _ I h) fun u s1 ⟨x, H1, I1, r1, q1⟩ => ?_)
 exact thn (hr pos pins s1 σ H1 _ I1 q1) fun us s2 ⟨xs, H2, I2, r2, q2⟩ => ⟨x :: xs, H2, I2, .cons r1 r2, q2⟩
noncomputable def tTup (t : TA) : TE := fun σ H Q => t σ H fun xs H1 => xs.length <= sizeLine /\ ∀ p, H1 p = none -> Q (.ref p) (upd H1 p (.tup xs))
noncomputable def tLst (t : TA) : TE := fun σ H Q => t σ H fun xs H1 => xs.length <= sizeLine /\ ∀ p, H1 p = none -> Q (.ref p) (upd H1 p (.lst xs))
theorem pe_tup {x1} (h : PA X es t) : PE X (.Tuple es x1 pos) (tTup t) := by
 intro pins s σ H Q I hq
 refine wpAny_Tuple_spliced (thn (h pos pins s σ H _ I hq) fun us s1 ⟨xs, H1, I1, r, z, q⟩ => ⟨by rw [<- r.length]; exact z, ?_⟩)
 have hf : H1 s1.heap.objs.size = none := I1.hok.fresh (Nat.le_refl _)
 refine ⟨.ref s1.heap.objs.size, upd H1 s1.heap.objs.size (.tup xs), I1.laid (t' := s1.toks) (fun b u e => Heap.get?_push_of_some _ e) (Nat.le_refl _) ?_, rfl, q _ hf⟩
 exact ⟨z, us, r, ⟨_, Heap.get?_push_size _ rfl, rfl, _, rfl⟩⟩
theorem pe_lst (h : PA X es t) : PE X (.List es pos) (tLst t) := by
 intro pins s σ H Q I hq
 refine wpAny_List_spliced (thn (h pos pins s σ H _ I hq) fun us s1 ⟨xs, H1, I1, r, z, q⟩ => ⟨by rw [<- r.length]; exact z, ?_⟩)
 have hf : H1 s1.heap.objs.size = none := I1.hok.fresh (Nat.le_refl _)
 refine ⟨.ref s1.heap.objs.size, upd H1 s1.heap.objs.size (.lst xs), I1.laid (t' := s1.toks) (fun b u e => Heap.get?_push_of_some _ e) (Nat.le_refl _) ?_, rfl, q _ hf⟩
 exact ⟨z, us, 0, r, Heap.get?_push_size _ rfl⟩
end
noncomputable abbrev Sp := List V -> Hp -> VK -> XK -> Prop
noncomputable abbrev CXT := List Env -> Hp -> Shared -> XK -> Value -> Shared -> Prop
structure Env0 (P : Program) (w : World) (K : PySem.W.Frag) (mg : Str -> Option Value) (base : Heap) (A : Around) (outer : List Env) (s : Shared) (H : Hp) : Prop where
 frames : A.frames = some outer
 mod : Mod K mg base
 bs : ∀ b o, base.get? b = some o -> s.heap.get? b = some o /\ H b = none
 bsz : base.objs.size <= s.heap.objs.size
 funs : s.heap.FunFrames base outer
 frf : ∀ b ∈ frs outer, H b = none
 hok : HOk P w H s.heap
 bare : AllBare s.gens
noncomputable def CE (outer : List Env) (P : Program) (w : World) (H : Hp) (s : Shared) (Q : VK) (u : Value) (s' : Shared) : Prop :=
 ∃ v H', s'.os = s.os /\ AllBare s'.gens /\ Un (frs outer) [] H H' s.heap s'.heap /\ HOk P w H' s'.heap /\ RelV v u /\ Q v H'
noncomputable def CR (CX : CXT) (outer : List Env) (P : Program) (w : World) (H : Hp) (s : Shared) (Q : VK) (E : XK) (r : Result) (s' : Shared) : Prop :=
 match r with
 | .ok (.ret u) => CE outer P w H s Q u s'
 | .ok _ => False
 | .error e => CX outer H s E e s'
structure FnOk (P : Program) (w : World) (K : PySem.W.Frag) (mg : Str -> Option Value) (base : Heap) (CX : CXT) (k : Nat) (f : Addr) (fd : FuncData) (ps : List Str) (sp : Sp) : Prop where
 len : ∀ vs H Q E, sp vs H Q E -> vs.length = ps.length
 run : ∀ (A : Around) (outer : List Env) (s : Shared) (H : Hp) (args : Args) (us : List Value) (vs : List V) (Q : VK) (E : XK), Room k A -> Env0 P w K mg base A outer s H -> BindsTo s fd args (ps.zip us) -> Vals vs us -> sp vs H Q E ->
  codeAny (model P w) A (.call (.ref f) args) (CR CX outer P w H s Q E) s
theorem FnOk.imp {P : Program} {w : World} {K : PySem.W.Frag} {mg : Str -> Option Value} {base : Heap} {CX : CXT} {k : Nat} {f : Addr} {fd : FuncData} {ps : List Str} {sp sp' : Sp} (F : FnOk P w K mg base CX k f fd ps sp)
  (h : ∀ vs H Q E, sp' vs H Q E -> sp vs H Q E) : FnOk P w K mg base CX k f fd ps sp' :=
 ⟨fun vs H Q E q => F.len vs H Q E (h _ _ _ _ q), fun A outer s H args us vs Q E hr he hb hv hs => F.run A outer s H args us vs Q E hr he hb hv (h _ _ _ _ hs)⟩
theorem Env0.make {P : Program} {w : World} {K : PySem.W.Frag} {mg : Str -> Option Value} {base : Heap} {A : Around} {outer : List Env} {s : Shared} {H : Hp} (e : Env0 P w K mg base A outer s H) (C : Addr) (us : List Value) (kw : List (Str × Value)) :
  Env0 P w K mg base (A.under (.builtin "type.__call__" ⟨.ref C :: us, kw⟩)) outer s H := ⟨by first | exact e.frames | (simpa [Around.under, Code.envs, Code.isFrame, pushEnvs] using e.frames), e.mod, e.bs, e.bsz, e.funs, e.frf, e.hok, e.bare⟩
section
variable {X : Cx} {pins : List (Addr × Obj)} {σ : St} {H : Hp} {s s' : Shared}
theorem Inv.env0 (I : Inv X pins σ H s) : Env0 X.prog X.w X.K X.mg X.base X.A X.stack s H :=
 ⟨I.ok.frames, I.ok.mod, I.bs, Nat.le_trans I.ok.bsz I.sz, I.stack, I.stkFree, I.hok, I.bare⟩
theorem Inv.after {Q : VK} {u : Value} (I : Inv X pins σ H s) (h : CE X.stack X.prog X.w H s Q u s') : EP X pins σ Q u s' := by
 obtain ⟨v, H', os, bare, un, hok, r, q⟩ := h
 obtain ⟨hh, g, d, t, os'⟩ := s'
 obtain rfl : os' = s.os := os
 exact ⟨v, H', I.call (h' := hh) (g' := g) (d' := d) (t' := t) (ch := []) un hok bare (fun b z => absurd z (by simp)), r, q⟩
end
noncomputable def tCall (sp : Sp) (dvs : List V) (E : XK) (t : TA) : TE := fun σ H Q => t σ H fun vs H1 => sp (vs ++ dvs) H1 Q E
noncomputable def Binds (K : PySem.W.Frag) (fd : FuncData) (ps : List Str) (ds : List Value) : Prop :=
 ∀ (s : Shared) (us : List Value), K.In s.heap -> (us ++ ds).length = ps.length -> BindsTo s fd ⟨us, []⟩ (ps.zip (us ++ ds))
theorem Binds.all {K : PySem.W.Frag} {fd : FuncData} {ps : List Str} (h : ∀ us : List Value, us.length = ps.length -> bindArgs fd ⟨us, []⟩ = pure (ps.zip us)) : Binds K fd ps [] := fun s us _ hl => by
 rw [List.append_nil] at hl ⊢
 exact .of_eq (h us hl)
noncomputable def Passes (CX : CXT) (X : Cx) (E : XK) : Prop := ∀ (pins : List (Addr × Obj)) (σ : St) (H : Hp) (s : Shared) (e : Value) (s' : Shared), Inv X pins σ H s -> CX X.stack H s E e s' -> X.xe e s'
section
variable {X : Cx} {CX : CXT} {k : Nat} {f C : Addr} {fd : FuncData} {ps : List Str} {sp : Sp} {dvs : List V} {ds : List Value} {E : XK} {x m : Str} {p pos apos : Pos} {e o : Expr} {es : List Expr} {ta : TE} {t : TA}
theorem run_fn {pins : List (Addr × Obj)} {σ : St} {H : Hp} {s : Shared} {Q : VK} {us : List Value} {vs : List V} (F : FnOk X.prog X.w X.K X.mg X.base CX k f fd ps sp) (hr : Room k X.A) (hb : Binds X.K fd ps ds) (hd : Vals dvs ds) (hx : Passes CX X E)
  (I : Inv X pins σ H s) (r : Vals vs us) (h : sp (vs ++ dvs) H Q E) : wpAny (model X.prog X.w) X.A (call (.ref f) us) (EP X pins σ Q) X.xe s := by
 have r2 : Vals (vs ++ dvs) (us ++ ds) := r.append hd
 have hl : (us ++ ds).length = ps.length := by rw [<- r2.length]; exact F.len _ _ _ _ h
 refine wpAny_call (codeAny_mono (F.run X.A X.stack s H ⟨us, []⟩ (us ++ ds) (vs ++ dvs) Q E hr I.env0 (hb s us I.kIn hl) r2 h) fun r s' hq => ?_)
 cases r with
 | error e => exact hx pins σ H s e s' I hq
 | ok fl =>
  cases fl with
  | ret u => exact I.after hq
  | next => exact False.elim hq
  | brk => exact False.elim hq
  | cont => exact False.elim hq
theorem pe_call (F : FnOk X.prog X.w X.K X.mg X.base CX k f fd ps sp) (hr : Room k X.A) (hg : Gl X x) (hm : X.mg x = some (.ref f)) (hk : PySem.W.keepIn X.K (.ref f) = true) (hb : Binds X.K fd ps ds) (hd : Vals dvs ds) (hx : Passes CX X E)
  (ha : PA X (e :: es) t) (hdb : (x == ("__debug__" : Str)) = false := by decide) (he : starEach (e :: es) X.env = (false, eval e X.env) :: starEach es X.env := by rfl) (hpl : (backTo pos (starEach es X.env)).any (·.1) = false := by rfl) :
  PE X (.Call (.Name x p) (e :: es) [] pos) (tCall sp dvs E t) := by
 intro pins s σ H Q I h
 refine wpAny_Call_Name_kw (ld_glob I hg hm ?_ hdb)
 refine PySem.W.callWith_K (h₀ := X.base) I.ok.mod.kin hk (thn (ha pos pins s σ H _ I h) fun us s1 ⟨vs, H1, I1, r, q⟩ => ⟨I1.kIn, ?_⟩) he hpl
 exact run_fn F hr hb hd hx I1 r q
structure Mk (K : PySem.W.Frag) (C f : Addr) : Prop where
 makes : PySem.W.makesIn K C = true
 init : PySem.W.findIn K (.ref C) "__init__" = some (some (.ref f))
 fn : PySem.W.isFn K (.ref f) = true
 kp : PySem.W.keepIn K (.ref C) = true
end
section
variable {X : Cx} {CX : CXT} {k : Nat} {f C : Addr} {fd : FuncData} {ps ks : List Str} {sp : Sp} {E : XK} {x m : Str} {p pos apos kpos : Pos} {e o : Expr} {es : List Expr} {kws : List Keyword} {te ta : TE} {t tk : TA} {nm : Option Str}
structure KBinds (K : PySem.W.Frag) (fd : FuncData) (ps ks : List Str) (g : List Value -> List Value -> List Value) (gV : List V -> List V -> List V) : Prop where
 to : ∀ (s : Shared) (us ws : List Value), K.In s.heap -> (g us ws).length = ps.length -> BindsTo s fd ⟨us, ks.zip ws⟩ (ps.zip (g us ws))
 rel : ∀ {vs : List V} {us : List Value} {zs : List V} {ws : List Value}, Vals vs us -> Vals zs ws -> Vals (gV vs zs) (g us ws)
variable {g : List Value -> List Value -> List Value} {gV : List V -> List V -> List V}
end
structure FnScope (N P : List Str) (sc : Scope) : Prop where
 kind : sc.kind = .function
 co : sc.isCoroutine = false
 gen : sc.isGenerator = false
 nd : N.Nodup
 pre : N.take P.length = P
 par : ∀ x ∈ P, sc.names.lookup x = some .local \/ sc.names.lookup x = some .cell
 nofree : ∀ y ∈ sc.names, y.2 ≠ .free
theorem bindL_out {kindOf : Str -> Option NameKind} {x : Str} : ∀ {binds : List (Str × Value)} {m : Str -> Option Value}, (∀ v, (x, v) ∉ binds) -> bindL kindOf binds m x = m x
 | [], _, _ => rfl
 | (n, v) :: r, m, h => by
  unfold bindL
  rw [bindL_out fun w hw => h w (List.mem_cons_of_mem _ hw)]
  split
  . have : x ≠ n := by rintro rfl; exact h v List.mem_cons_self
    simp [this]
  . rfl
theorem bindC_out {kindOf : Str -> Option NameKind} {x : Str} : ∀ {binds : List (Str × Value)} {m : Str -> Option Value}, (∀ v, (x, v) ∉ binds) -> bindC kindOf binds m x = m x
 | [], _, _ => rfl
 | (n, v) :: r, m, h => by
  unfold bindC
  rw [bindC_out fun w hw => h w (List.mem_cons_of_mem _ hw)]
  split
  . rfl
  . have : x ≠ n := by rintro rfl; exact h v List.mem_cons_self
    simp [this]
theorem bindL_get {kindOf : Str -> Option NameKind} {x : Str} {v : Value} : ∀ {P : List Str} {vs : List Value} {i : Nat} {m : Str -> Option Value}, P.Nodup -> P[i]? = some x -> vs[i]? = some v -> kindOf x = some .local ->
  bindL kindOf (P.zip vs) m x = some v
 | [], _, _, _, _, h, _, _ => by simp at h
 | _ :: _, [], _, _, _, _, h, _ => by simp at h
 | p :: P, w :: vs, 0, m, nd, h1, h2, hk => by
  simp at h1 h2; subst h1; subst h2
  show bindL kindOf ((p, w) :: P.zip vs) m p = _
  unfold bindL
  rw [bindL_out fun v hv => (List.nodup_cons.mp nd).1 (List.of_mem_zip hv).1, if_pos hk]
  simp
 | p :: P, w :: vs, i + 1, m, nd, h1, h2, hk => by
  show bindL kindOf ((p, w) :: P.zip vs) m x = _
  unfold bindL
  exact bindL_get (i := i) (List.nodup_cons.mp nd).2 (by simpa using h1) (by simpa using h2) hk
theorem bindC_get {kindOf : Str -> Option NameKind} {x : Str} {v : Value} : ∀ {P : List Str} {vs : List Value} {i : Nat} {m : Str -> Option Value}, P.Nodup -> P[i]? = some x -> vs[i]? = some v -> kindOf x ≠ some .local ->
  bindC kindOf (P.zip vs) m x = some v
 | [], _, _, _, _, h, _, _ => by simp at h
 | _ :: _, [], _, _, _, _, h, _ => by simp at h
 | p :: P, w :: vs, 0, m, nd, h1, h2, hk => by
  simp at h1 h2; subst h1; subst h2
  show bindC kindOf ((p, w) :: P.zip vs) m p = _
  unfold bindC
  rw [bindC_out fun v hv => (List.nodup_cons.mp nd).1 (List.of_mem_zip hv).1, if_neg hk]
  simp
 | p :: P, w :: vs, i + 1, m, nd, h1, h2, hk => by
  show bindC kindOf ((p, w) :: P.zip vs) m x = _
  unfold bindC
  exact bindC_get (i := i) (List.nodup_cons.mp nd).2 (by simpa using h1) (by simpa using h2) hk
noncomputable def start (N : List Str) (vs : List V) : St := vs.map some ++ List.replicate (N.length - vs.length) none
noncomputable def cxOf (CX : CXT) (P : Program) (w : World) (K : PySem.W.Frag) (mg : Str -> Option Value) (base : Heap) (N : List Str) (qual : Str) (scope : Scope) (f : Addr) (cd : Value) (A : Around) (outer : List Env) (s : Shared) (H : Hp) (E : XK) : Cx where
 prog := P
 w := w
 K := K
 mg := mg
 base := base
 A := A.deeper (envOfC qual scope s.heap.objs.size f cd)
 N := N
 s₀ := s
 H₀ := H
 env := envOfC qual scope s.heap.objs.size f cd
 outer := outer
 stack := envOfC qual scope s.heap.objs.size f cd :: outer
 ex := []
 calm := true
 fn := fun _ => true
 pn := []
 xe := fun e s' => wpAny (model P w) (A.deeper (envOfC qual scope s.heap.objs.size f cd)) (leaving (envOfC qual scope s.heap.objs.size f cd) e) (fun _ s'' => CX outer H s E e s'') (fun e' s'' => CX outer H s E e' s'') s'
theorem cell_has {sc : Scope} {n : Nat} {x : Str} (h : sc.names.lookup x = some .cell) : ∃ c, (cellsFrom n sc.names []).lookup x = some c := by
 have q := PySem.W.cellsFrom_some sc.names n [] (.inl h)
 exact Option.isSome_iff_exists.mp q
theorem inv_start {CX : CXT} {P : Program} {w : World} {K : PySem.W.Frag} {mg : Str -> Option Value} {base : Heap} {N ps : List Str} {qual : Str} {scope : Scope} {f : Addr} {cd : Value} {A : Around} {outer : List Env} {s s1 : Shared} {H : Hp} {E : XK} {us : List Value} {vs : List V}
  (S : FnScope N ps scope) (hd : A.handled = none) (e0 : Env0 P w K mg base A outer s H) (hl : vs.length = ps.length) (r : Vals vs us)
  (x : InCallC s s.heap.objs.size (bindL (envOfC qual scope s.heap.objs.size f cd).kindOf (ps.zip us) fun _ => none) (cellsFrom (s.heap.objs.size + 1) scope.names []) (bindC (envOfC qual scope s.heap.objs.size f cd).kindOf (ps.zip us) fun _ => none) s1) :
  Inv (cxOf CX P w K mg base N qual scope f cd A outer s H E) [] (start N vs) H s1 := by
 have hpl : ps.length <= N.length := by have := congrArg List.length S.pre; rw [List.length_take] at this; omega
 obtain ⟨h1, tk, rfl, hk⟩ := x.done
 have noA : ∀ b : Addr, b ∉ (cxOf CX P w K mg base N qual scope f cd A outer s H E).ex := fun b z => absurd (show b ∈ ([] : List Addr) from z) (by simp)
 refine ⟨⟨e0.mod, S.kind, rfl, rfl, Nat.le_refl _, fun y z c h1 h2 => ?_, fun y hy => ?_, fun y c _ h => ?_, fun _ => hd, Around.frames_deeper e0.frames, .inr ⟨rfl, rfl⟩, fun b z => absurd z (noA b), e0.bs, e0.bsz, fun b _ _ => noA b, fun b z => absurd z (noA b), e0.funs, e0.frf⟩,
  rfl, e0.bare, Un.kept hk, ⟨_, x.toInCall.ns, fun i y v h1 h2 h3 => ?_⟩, fun y c h => ⟨_, x.cell y c h⟩, e0.hok.fresh (Nat.le_refl _), fun y c h => ?_, fun p hp => absurd (show p ∈ ([] : List (Addr × Obj)) from hp) (by simp), e0.hok.kept hk, ?_⟩
 . exact name_of_addr x.apart (PySem.mem_of_lookup h1) (PySem.mem_of_lookup h2)
 . have hy : scope.names.lookup y = some .cell \/ scope.names.lookup y = some .free := hy
   rcases hy with hy | hy
   . exact cell_has hy
   . exact absurd rfl (S.nofree _ (PySem.mem_of_lookup hy))
 . exact Nat.le_of_lt (x.above y c (PySem.mem_of_lookup h))
 . have hi : i < vs.length := by
     unfold start at h2
     by_cases hi : i < vs.length
     . exact hi
     . rw [List.getElem?_append_right (by simpa using hi)] at h2
       rw [List.getElem?_replicate] at h2
       split at h2 <;> cases h2
   have ha : vs[i]? = some v := by
    unfold start at h2
    rw [List.getElem?_append_left (by simpa using hi), List.getElem?_map] at h2
    cases e : vs[i]? with
    | none => rw [e] at h2; cases h2
    | some a => rw [e] at h2; cases h2; rfl
   obtain ⟨u, hu, rv⟩ := r.get ha
   have hp : ps[i]? = some y := by
    rw [<- S.pre, List.getElem?_take_of_lt (by omega)]; exact h1
   have ndP : ps.Nodup := by rw [<- S.pre]; exact S.nd.sublist (List.take_sublist _ _)
   refine ⟨u, rv, ?_⟩
   rcases S.par y (List.mem_of_getElem? hp) with k | k
   . exact .inl ⟨k, bindL_get ndP hp hu k⟩
   . obtain ⟨c, e⟩ := cell_has (n := s.heap.objs.size + 1) k
     refine .inr ⟨.inl k, c, e, ?_⟩
     have q := x.cell y c e
     rw [bindC_get ndP hp hu (by show scope.names.lookup y ≠ _; rw [k]; decide)] at q
     exact q
 . exact e0.hok.fresh (Nat.le_of_lt (x.above y c (PySem.mem_of_lookup h)))
 . unfold start
   show _ = N.length
   rw [List.length_append, List.length_map, List.length_replicate]
   omega
theorem fn_of {CX : CXT} {P : Program} {w : World} {K : PySem.W.Frag} {mg : Str -> Option Value} {base : Heap} {k : Nat} {f : Addr} {name qual : Str} {params : Arguments} {body : List Stmt} {scope : Scope} {dV kV doc pm cdv ct oc : Value} {an od : Option Addr}
  {osl : Array (Option Value)} {N ps : List Str} {sp : Sp} (lk : K.lookup f = some ⟨oc, od, .func (PySem.W.fnOf name qual params body scope dV kV doc pm an cdv ct), osl⟩) (hcd : PySem.W.codeIn K cdv qual = true) (S : FnScope N ps scope)
  (len : ∀ vs H Q E, sp vs H Q E -> vs.length = ps.length)
  (hbody : ∀ (A : Around) (outer : List Env) (s : Shared) (H : Hp) (vs : List V) (Q : VK) (E : XK), Room k (A.deeper (envOfC qual scope s.heap.objs.size f cdv)) -> sp vs H Q E ->
   ∃ t, PSs (cxOf CX P w K mg base N qual scope f cdv A outer s H E) body t /\ t { nx := fun _ H' => Q .non H', rt := Q } (start N vs) H) :
  FnOk P w K mg base CX (k + 1) f (PySem.W.fnOf name qual params body scope dV kV doc pm an cdv ct) ps sp := by
 refine ⟨len, fun A outer s H args us vs Q E hr e0 hb r hsp => ?_⟩
 have hl := len _ _ _ _ hsp
 have KX : K.In s.heap := e0.mod.kin.keeps fun b o e => (e0.bs b o e).1
 have lim : s.heap.NoLimit := e0.mod.nolimit.keeps fun b o e => (e0.bs b o e).1
 have hkind : ∀ y ∈ ps.zip us, scope.names.lookup y.1 = some .local \/ (scope.names.lookup y.1 = some .cell /\ ((cellsFrom (s.heap.objs.size + 1) scope.names []).lookup y.1).isSome = true) := fun ⟨n, v⟩ hy => by
  rcases S.par n (List.of_mem_zip hy).1 with q | q
  . exact .inl q
  . exact .inr ⟨q, PySem.W.cellsFrom_some _ _ _ (.inl q)⟩
 refine codeAny_call_function hr.depth (KX _ _ lk) rfl S.co S.gen rfl (PySem.W.codeRec_of KX hcd) (hb _ _ _ _ ?_)
 refine wpAny_newFunctionEnv_cells S.kind hkind fun env he s1 x => ?_
 subst he
 refine ⟨lim.keeps x.toInCall.keep, codeAny_func ?_⟩
 obtain ⟨t, ht, hq⟩ := hbody A outer s H vs Q E (hr.deeper _) hsp
 have I : Inv (cxOf CX P w K mg base N qual scope f cdv A outer s H E) [] (start N vs) H s1 := inv_start S hr.hd e0 hl r x
 refine wpAny_mono (ht [] s1 (start N vs) H _ I hq) (fun fl s' hs => ?_) fun e s' hs => hs
 have fin : ∀ {σ' : St} {H' : Hp} {v : V} {u : Value}, Inv (cxOf CX P w K mg base N qual scope f cdv A outer s H E) [] σ' H' s' -> RelV v u -> Q v H' -> CE outer P w H s Q u s' :=
  fun {σ' H' v u} J rv q => ⟨v, H', J.os, J.bare, J.base, J.hok, rv, q⟩
 cases fl with
 | ret u =>
  obtain ⟨v, σ', H', J, rv, q⟩ := hs
  exact fin J rv q
 | next =>
  obtain ⟨σ', H', J, q⟩ := hs
  exact fin (v := V.non) (u := Value.none) J rfl q
 | brk =>
  obtain ⟨_, _, _, q⟩ := hs
  exact False.elim q
 | cont =>
  obtain ⟨_, _, _, q⟩ := hs
  exact False.elim q
end L2
namespace L2
open PySem PySem.Spec PyProof.Rows
section
variable {X : Cx} {x : Str} {p pos : Pos} {e : Expr} {es : List Expr} {t : TA} {id T : String} {r : List V -> Hp -> VK -> Prop}
noncomputable def tCB (r : List V -> Hp -> VK -> Prop) (t : TA) : TE := fun σ H Q => t σ H fun vs H1 => r vs H1 Q
theorem pe_callB (hc : CallR X (.builtin id) r) (hg : Gl X x) (hm : X.mg x = none) (hv : bootBuiltins x = some (.builtin id)) (ha : PA X (e :: es) t) (hn : x ≠ "__name__" := by decide) (hdb : (x == ("__debug__" : Str)) = false := by decide)
  (he : starEach (e :: es) X.env = (false, eval e X.env) :: starEach es X.env := by rfl) (hpl : (backTo pos (starEach es X.env)).any (·.1) = false := by rfl) : PE X (.Call (.Name x p) (e :: es) [] pos) (tCB r t) := by
 intro pins s σ H Q I h
 refine wpAny_Call_Name_kw (ld_blt I hg hm hv ?_ hn hdb)
 exact PyProof.Rows.callWith_builtin1 (thn (ha pos pins s σ H _ I h) fun us s1 ⟨vs, H1, I1, r1, q1⟩ => hc pins s1 σ H1 vs us Q I1 r1 q1) he hpl
theorem pe_callTy (hc : CallR X (.type T) r) (hg : Gl X x) (hm : X.mg x = none) (hv : bootBuiltins x = some (.type T)) (ha : PA X (e :: es) t) (hn : x ≠ "__name__" := by decide) (hdb : (x == ("__debug__" : Str)) = false := by decide)
  (he : starEach (e :: es) X.env = (false, eval e X.env) :: starEach es X.env := by rfl) (hpl : (backTo pos (starEach es X.env)).any (·.1) = false := by rfl) : PE X (.Call (.Name x p) (e :: es) [] pos) (tCB r t) := by
 intro pins s σ H Q I h
 refine wpAny_Call_Name_kw (ld_blt I hg hm hv ?_ hn hdb)
 exact PyProof.Rows.callWith_type1 (thn (ha pos pins s σ H _ I h) fun us s1 ⟨vs, H1, I1, r1, q1⟩ => hc pins s1 σ H1 vs us Q I1 r1 q1) he hpl
end
end L2
namespace HT
open PySem PyProof.Rows
section
open PySem.SeqAt
open PySem.AutoSeq1 (wpAny_loadPart')
open PySem.MeetsSeq PySem.MeetsSeq2 PySem.MeetsSeq3
end
section
variable {prog : Program} {w : World} {A : Around} {E : Value -> Shared -> Prop} {s : Shared}
theorem cat_tup {t b : Addr} {vs ws : List Value} {Q : Value -> Shared -> Prop} (ht : IsTup s.heap t vs.toArray) (hb : IsTup s.heap b ws.toArray) (hv : vs ≠ [])
  (h1 : ws = [] -> Q (.ref t) s) (h2 : ws ≠ [] -> Q (.ref s.heap.objs.size) { s with heap := s.heap.push { cls := .type "tuple", data := .seq (vs ++ ws).toArray } })
  (hsz : vs.length + ws.length <= sizeLine) : wpAny (model prog w) A (binaryOp .Add (.ref t) (.ref b)) Q E s := by
 obtain ⟨⟨cls, dd, data, sl⟩, ho, hc, n, hd⟩ := id ht
 obtain ⟨⟨cls2, dd2, data2, sl2⟩, ho2, hc2, n2, hd2⟩ := id hb
 simp only at hc hd hc2 hd2
 subst hc hd hc2 hd2
 have e : vs.toArray ++ ws.toArray = (vs ++ ws).toArray := by simp
 by_cases hw : ws = []
 . exact concat_meets ⟨_, ho, rfl⟩ ⟨_, ho2, rfl⟩ noFill_tuple_add seq_tuple_add PySem.F.slot_tuple_add PySem.F.entry_tuple_add (PySem.F.args_tuple_add_2 _ _)
     (tuple_addW1 t b vs.toArray ws.toArray n n2 dd dd2 sl sl2 (by simpa using hv) (by simp [hw])) ⟨ho, ho2, h1 hw⟩
 . refine concat_meets ⟨_, ho, rfl⟩ ⟨_, ho2, rfl⟩ noFill_tuple_add seq_tuple_add PySem.F.slot_tuple_add PySem.F.entry_tuple_add (PySem.F.args_tuple_add_2 _ _)
     (tuple_addW2 t b vs.toArray ws.toArray n n2 dd dd2 sl sl2 (by simpa using hv) (by simpa using hw) (by rw [List.size_toArray, List.size_toArray]; exact hsz)) ⟨ho, ho2, ?_⟩
   rw [e]
   exact h2 hw
noncomputable def sIx (n d : Nat) : Option Int -> Nat
 | none => d
 | some v => if v < 0 then (v + (n : Int)).toNat else min v.toNat n
theorem sIx_nat (n d k : Nat) : sIx n d (some (k : Int)) = min k n := by
 show (if (k : Int) < 0 then ((k : Int) + (n : Int)).toNat else min (k : Int).toNat n) = min k n
 rw [if_neg (by omega), Int.toNat_natCast]
theorem sIx_le (n d : Nat) (hd : d <= n) (o : Option Int) : sIx n d o <= n := by
 cases o with
 | none => exact hd
 | some v =>
  show (if v < 0 then (v + (n : Int)).toNat else min v.toNat n) <= n
  by_cases hv : v < 0
  . rw [if_pos hv]; omega
  . rw [if_neg hv]; exact Nat.min_le_right _ _
theorem clip_eq (v : Int) (n d : Nat) : (if v < 0 then max (v + (n : Int)) 0 else min v (n : Int)) = ((sIx n d (some v) : Nat) : Int) := by
 show (if v < 0 then max (v + (n : Int)) 0 else min v (n : Int)) = (((if v < 0 then (v + (n : Int)).toNat else min v.toNat n) : Nat) : Int)
 by_cases hv : v < 0
 . simp only [if_pos hv]; omega
 . simp only [if_neg hv]; omega
theorem adjust_gen (lo hi : Option Int) (n : Nat) : Builtin.Slice.sliceAdjust lo hi 1 (n : Int) = (((sIx n 0 lo : Nat) : Int), ((sIx n n hi : Nat) : Int)) := by
 have h1 : ¬ ((1 : Int) < 0) := by omega
 unfold Builtin.Slice.sliceAdjust
 simp only [h1, if_false]
 refine Prod.ext ?_ ?_
 . cases lo with
   | none => rfl
   | some v => exact clip_eq v n 0
 . cases hi with
   | none => rfl
   | some v => exact clip_eq v n n
theorem places_gen (i j : Nat) : Builtin.Slice.slicePlaces (i : Int) (j : Int) 1 = j - i := by
 unfold Builtin.Slice.slicePlaces
 have h1 : (1 : Int) > 0 := by omega
 simp only [h1, if_true, Int.ediv_one]
 split <;> omega
theorem slicePart_ {v : Value} {o : Option Int} {Q : Option Int -> Shared -> Prop} (p : IsPart v o) (h : Q o s) : wpAny (model prog w) A (Builtin.Slice.slicePartIndex v) Q E s := by
 cases p with
 | none => exact slicePart_none h
 | int i t => exact slicePart_int h
theorem sliceApplied_gen {sl : Addr} {vl vu : Value} {lo hi : Option Int} {n : Nat} {Q : Int × Int × Nat -> Shared -> Prop} (hs : s.heap.IsSliceOf sl vl vu .none) (pl : IsPart vl lo) (pu : IsPart vu hi)
  (h : Q (((sIx n 0 lo : Nat) : Int), 1, sIx n n hi - sIx n 0 lo) s) : wpAny (model prog w) A (Builtin.Slice.sliceApplied (.ref sl) (pure (n : Int))) Q E s := by
 obtain ⟨os, hos, hcs, hds⟩ := id hs
 unfold Builtin.Slice.sliceApplied Builtin.Slice.sliceFields
 refine wpAny_bind (wpAny_bind (wpAny_field hos hds (x := vl) rfl (wpAny_bind (wpAny_field hos hds (x := vu) rfl (wpAny_bind (wpAny_field hos hds (x := .none) rfl (wpAny_pure ?_)))))))
 refine wpAny_bind (slicePart_none ?_)
 show wpAny _ _ (if ((1 : Int) == 0) = true then _ else _) _ _ s
 rw [if_neg (by decide)]
 refine wpAny_bind (slicePart_ pl (wpAny_bind (slicePart_ pu (wpAny_bind (wpAny_pure ?_)))))
 show wpAny _ _ (match Builtin.Slice.sliceAdjust lo hi 1 (n : Int) with | (lo, hi) => pure (lo, (1 : Int), Builtin.Slice.slicePlaces lo hi 1)) _ _ s
 rw [adjust_gen lo hi n]
 show wpAny _ _ (pure (((sIx n 0 lo : Nat) : Int), (1 : Int), Builtin.Slice.slicePlaces ((sIx n 0 lo : Nat) : Int) ((sIx n n hi : Nat) : Int) 1)) _ _ s
 rw [places_gen]
 exact wpAny_pure h
theorem pick_gen (xs : Array Value) (i k : Nat) : ((List.range k).filterMap fun (m : Nat) => xs[((i : Int) + (m : Int) * 1).toNat]?).toArray = ((xs.toList.drop i).take k).toArray := by
 have e : (fun (m : Nat) => xs[((i : Int) + (m : Int) * 1).toNat]?) = fun m => xs[i + m]? := by
  funext m
  have : ((i : Int) + (m : Int) * 1).toNat = i + m := by omega
  rw [this]
 rw [e]
 have := pick_run xs i k
 rw [List.filterMap_map] at this
 have e2 : ((fun x => xs[x]?) ∘ fun x => i + x) = fun m => xs[i + m]? := rfl
 rw [e2] at this
 rw [this]
theorem getItem_tuple_cut {t sl : Addr} {items : Array Value} {vl vu : Value} {lo hi : Option Int} {Q : Value -> Shared -> Prop} (ht : IsTup s.heap t items) (hs : s.heap.IsSliceOf sl vl vu .none) (pl : IsPart vl lo) (pu : IsPart vu hi)
  (hw : ¬ (sIx items.size 0 lo = 0 /\ sIx items.size items.size hi = items.size))
  (h : Q (.ref s.heap.objs.size) { s with heap := s.heap.push { cls := .type "tuple", data := .seq ((items.toList.drop (sIx items.size 0 lo)).take (sIx items.size items.size hi - sIx items.size 0 lo)).toArray } })
  (hsz : items.size <= sizeLine) : wpAny (model prog w) A (getItem (.ref t) (.ref sl)) Q E s := by
 have htake : sizeOk (.seq ((items.toList.drop (sIx items.size 0 lo)).take (sIx items.size items.size hi - sIx items.size 0 lo)).toArray) := by
  show ((items.toList.drop (sIx items.size 0 lo)).take (sIx items.size items.size hi - sIx items.size 0 lo)).toArray.size <= sizeLine
  rw [List.size_toArray, List.length_take, List.length_drop, Array.length_toList]
  omega
 have hj : sIx items.size items.size hi <= items.size := sIx_le _ _ (Nat.le_refl _) hi
 obtain ⟨os, hos, hcs, hds⟩ := id hs
 have hTs : s.TypeIs (.ref sl) "slice" := ⟨os, hos, hcs⟩
 unfold getItem
 try with_reducible refine wpAny_holding ?_
 first | refine wpAny_bind (wpAny_pure ?_) | skip
 refine wpAny_bind (wpAny_sequenceKey ht.typeIs (by decide) ?_)
 refine wpAny_bind (wpAny_callSpecial?_slot (name := Str.ofString "__getitem__") ht.typeIs PyProof.Rows.slot_tuple_getitem
  (wpAny_call_entry PyProof.Rows.slot_tuple_getitem ht.typeIs entry_tuple_getitem ?_ (args_tuple_getitem _ _)))
 show wpAny _ _ (Builtin.Tuple.tupleItemsOf (.ref t) >>= _) _ _ s
 refine wpAny_bind (tupleItemsOf_ ht ?_)
 refine wpAny_bind (wpAny_typeOf hTs ?_)
 rw [if_pos (by decide)]
 refine wpAny_bind (sliceApplied_gen hs pl pu ?_)
 have hno : ¬ ((((sIx items.size 0 lo : Nat) : Int) == 0 && (1 : Int) == 1 && (sIx items.size items.size hi - sIx items.size 0 lo) == items.size) = true) := by
  intro q
  rw [Bool.and_eq_true, Bool.and_eq_true] at q
  have q1 : ((sIx items.size 0 lo : Nat) : Int) = 0 := eq_of_beq q.1.1
  have q2 : sIx items.size items.size hi - sIx items.size 0 lo = items.size := eq_of_beq q.2
  exact hw ⟨by omega, by omega⟩
 show wpAny _ _ (if (((sIx items.size 0 lo : Nat) : Int) == 0 && (1 : Int) == 1 && (sIx items.size items.size hi - sIx items.size 0 lo) == items.size) = true then _ else _) _ _ s
 rw [if_neg hno, pick_gen]
 first
  | exact wpAny_bind (m := Builtin.Tuple.tupleExact _) (wpAny_newObj_type (wpAny_pure ⟨_, rfl, wpAny_pure h⟩) htake)
  | exact wpAny_bind (m := Builtin.Tuple.tupleExact _) (wpAny_newObj_type (wpAny_bind (wpAny_pure (wpAny_pure ⟨_, rfl, wpAny_pure h⟩))) htake)
  | exact wpAny_bind (wpAny_bind (m := Builtin.Tuple.tupleExact _) (wpAny_newObj_type (wpAny_pure (wpAny_pure ⟨_, rfl, wpAny_pure h⟩)) htake))
  | exact wpAny_bind (wpAny_bind (m := Builtin.Tuple.tupleExact _) (wpAny_newObj_type (wpAny_pure ⟨_, rfl, wpAny_pure h⟩) htake))
end
end HT
namespace L2
open PySem PySem.Spec PyProof.Rows
noncomputable abbrev TO := St -> Hp -> (Option Int -> Hp -> Prop) -> Prop
noncomputable def PO (X : Cx) (e : Option Expr) (t : TO) : Prop :=
 ∀ (pins : List (Addr × Obj)) (s : Shared) (σ : St) (H : Hp) (Q : Option Int -> Hp -> Prop), Inv X pins σ H s -> t σ H Q ->
  wpAny (model X.prog X.w) X.A (evalPart e X.env) (fun u s' => ∃ o H', Inv X pins σ H' s' /\ IsPart u o /\ Q o H') X.xe s
noncomputable def tNoPart : TO := fun _ H Q => Q none H
noncomputable def tPart (t : TE) : TO := fun σ H Q => t σ H fun x H1 => ∃ i, x = .int i /\ Q (some i) H1
section
variable {X : Cx} {e : Expr} {te : TE} {lo hi : Option Expr} {tl th : TO} {pos p2 : Pos}
theorem po_none : PO X none tNoPart := by
 intro pins s σ H Q I h
 rw [evalPart_none]
 exact wpAny_pure ⟨none, H, I, .none, h⟩
theorem po_some (h : PE X e te) : PO X (some e) (tPart te) := by
 intro pins s σ H Q I hw
 rw [evalPart_some]
 refine thn (h pins s σ H _ I hw) fun u s1 ⟨x, H1, I1, r1, q1⟩ => ?_
 obtain ⟨i, rfl, q⟩ := q1
 obtain ⟨t, rfl⟩ := r1
 exact ⟨some i, H1, I1, .int i t, q⟩
noncomputable def SlR (X : Cx) (r : V -> Option Int -> Option Int -> Hp -> VK -> Prop) : Prop :=
 ∀ (pins : List (Addr × Obj)) (s : Shared) (σ : St) (H : Hp) (x : V) (v vl vu : Value) (lo hi : Option Int) (sl : Addr) (Q : VK), Inv X pins σ H s -> RelV x v -> s.heap.IsSliceOf sl vl vu .none -> IsPart vl lo -> IsPart vu hi -> r x lo hi H Q ->
  ∃ T id, typeLookup (.type T) "__getitem__" = pure (some (.builtin id)) /\ s.TypeIs v T /\ wpAny (model X.prog X.w) X.A (getItem v (.ref sl)) (EP X pins σ Q) X.xe s
theorem SlR.or {r r' : V -> Option Int -> Option Int -> Hp -> VK -> Prop} (h : SlR X r) (h' : SlR X r') : SlR X (fun x lo hi H Q => r x lo hi H Q \/ r' x lo hi H Q) := by
 intro pins s σ H x v vl vu lo hi sl Q I rx hs pl pu q
 rcases q with q | q
 . exact h pins s σ H x v vl vu lo hi sl Q I rx hs pl pu q
 . exact h' pins s σ H x v vl vu lo hi sl Q I rx hs pl pu q
noncomputable def tSl (r : V -> Option Int -> Option Int -> Hp -> VK -> Prop) (te : TE) (tl th : TO) : TE := fun σ H Q => te σ H fun x H1 => tl σ H1 fun l H2 => th σ H2 fun u H3 => r x l u H3 Q
theorem pe_slice {r : V -> Option Int -> Option Int -> Hp -> VK -> Prop} (hr : SlR X r) (he : PE X e te) (hl : PO X lo tl) (hu : PO X hi th) : PE X (.Subscript e (.Slice lo hi none p2) pos) (tSl r te tl th) := by
 intro pins s σ H Q I h
 refine Subscript_ (thn (he pins s σ H _ I h) fun v s1 ⟨x, H1, I1, r1, q1⟩ => ?_)
 refine wpAny_Slice (thn (hl pins s1 σ H1 _ I1 q1) fun vl s2 ⟨l, H2, I2, pl, q2⟩ => thn (hu pins s2 σ H2 _ I2 q2) fun vu s3 ⟨u, H3, I3, pu, q3⟩ => ?_)
 rw [evalPart_none]
 refine wpAny_pure ?_
 have I4 : Inv X pins σ H3 { s3 with heap := s3.heap.push { cls := .type "slice", data := .fields #[vl, vu, .none] } } := I3.kept (t' := s3.toks) fun b ob q => Heap.get?_push_of_some _ q
 obtain ⟨T, id, hT, ht, hg⟩ := hr pins { s3 with heap := s3.heap.push { cls := .type "slice", data := .fields #[vl, vu, .none] } } σ H3 x v vl vu l u s3.heap.objs.size Q I4 r1 (Heap.IsSliceOf.new ..) pl pu q3
 show wpAny (model X.prog X.w) X.A (subscriptTail e (.Slice lo hi none p2) v (.ref s3.heap.objs.size)) (EP X pins σ Q) X.xe { s3 with heap := s3.heap.push { cls := .type "slice", data := .fields #[vl, vu, .none] } }
 exact tail_any (ops := [.ref s3.heap.objs.size, v]) ht hT hg (by with_unfolding_all rfl)
noncomputable def cutV (xs : List V) (lo hi : Option Int) : List V := (xs.drop (HT.sIx xs.length 0 lo)).take (HT.sIx xs.length xs.length hi - HT.sIx xs.length 0 lo)
theorem cutV_length (xs : List V) (lo hi : Option Int) : (cutV xs lo hi).length <= xs.length := by
 unfold cutV
 rw [List.length_take, List.length_drop]
 omega
noncomputable def rSlT (K : PySem.W.Frag) : V -> Option Int -> Option Int -> Hp -> VK -> Prop := fun x lo hi H Q => ∃ a xs, x = .ref a /\ SqT K H a xs /\
 ¬ (HT.sIx xs.length 0 lo = 0 /\ HT.sIx xs.length xs.length hi = xs.length) /\ ∀ p, H p = none -> Q (.ref p) (upd H p (.tup (cutV xs lo hi)))
theorem sl_tup : SlR X (rSlT X.K) := by
 intro pins s σ H x v vl vu lo hi sl Q I rx hs pl pu h
 obtain ⟨a, xs, rfl, hx, hw, q⟩ := h
 cases rx
 obtain ⟨its, r, ht, hz⟩ := I.tuple hx
 have hlen : its.toArray.size = xs.length := by rw [List.size_toArray]; exact r.length.symm
 refine ⟨"tuple", _, PyProof.Rows.slot_tuple_getitem.lookup, ht.typeIs, ?_⟩
 refine HT.getItem_tuple_cut ht hs pl pu (by rw [hlen]; exact hw) ?_ (by rw [hlen]; exact hz)
 rw [hlen]
 refine ⟨.ref s.heap.objs.size, _, I.laid (t' := s.toks) (o := .tup (cutV xs lo hi)) (fun b ob q => Heap.get?_push_of_some _ q) (Nat.le_refl _) ?_, rfl, q _ (I.hok.fresh (Nat.le_refl _))⟩
 exact ⟨Nat.le_trans (cutV_length xs lo hi) hz, _, (r.drop (HT.sIx xs.length 0 lo)).take (HT.sIx xs.length xs.length hi - HT.sIx xs.length 0 lo), IsTup.new _ _⟩
noncomputable def rCatT (K : PySem.W.Frag) : R2 := fun x y H Q => ∃ a b xs ys, x = .ref a /\ y = .ref b /\ SqT K H a xs /\ SqT K H b ys /\ xs ≠ [] /\ xs.length + ys.length <= sizeLine /\
 (ys = [] -> Q (.ref a) H) /\ (ys ≠ [] -> ∀ p, H p = none -> Q (.ref p) (upd H p (.tup (xs ++ ys))))
theorem Vals.nil_iff {xs : List V} {us : List Value} (r : Vals xs us) : us = [] ↔ xs = [] := by
 cases r with
 | nil => simp
 | cons _ _ => simp
theorem op_catT : OpR X (binaryOp .Add) (rCatT X.K) := by
 intro pins s σ H x y v u Q I rx ry h
 obtain ⟨a, b, xs, ys, rfl, rfl, ha, hb, hx, hz, q1, q2⟩ := h
 cases rx
 cases ry
 obtain ⟨its, r1, p1, _⟩ := I.tuple ha
 obtain ⟨its2, r2, p2, _⟩ := I.tuple hb
 refine HT.cat_tup p1 p2 (fun z => hx (r1.nil_iff.mp z)) (fun z => ⟨.ref a, H, I, rfl, q1 (r2.nil_iff.mp z)⟩) (fun z => ?_) (by rw [<- r1.length, <- r2.length]; exact hz)
 refine ⟨.ref s.heap.objs.size, _, I.laid (t' := s.toks) (o := .tup (xs ++ ys)) (fun b ob q => Heap.get?_push_of_some _ q) (Nat.le_refl _) ?_, rfl, q2 (fun w => z (r2.nil_iff.mpr w)) _ (I.hok.fresh (Nat.le_refl _))⟩
 exact ⟨by rw [List.length_append]; exact hz, _, r1.append r2, IsTup.new _ _⟩
end
end L2
namespace L2
open PySem PySem.Spec PyProof.Rows
noncomputable def ixN (n : Nat) (i : Int) : Option Nat := if 0 <= i then (if i < n then some i.toNat else none) else if -(n : Int) <= i then some (i + n).toNat else none
noncomputable def atI {α : Type} (xs : List α) (i : Int) : Option α := (ixN xs.length i).bind fun j => xs[j]?
theorem ixN_seq {n : Nat} {i : Int} {j : Nat} (h : ixN n i = some j) : seqIndex? i n = some j /\ j < n /\ -(n : Int) <= i /\ i < n := by
 unfold ixN at h
 by_cases h0 : 0 <= i
 . rw [if_pos h0] at h
   by_cases h1 : i < n
   . rw [if_pos h1] at h
     have e : i.toNat = j := Option.some.inj h
     exact ⟨by rw [seqIndex_of h0 h1, e], by omega, by omega, h1⟩
   . rw [if_neg h1] at h; cases h
 . rw [if_neg h0] at h
   by_cases h1 : -(n : Int) <= i
   . rw [if_pos h1] at h
     have e : (i + n).toNat = j := Option.some.inj h
     exact ⟨by rw [seqIndex_neg (by omega) h1, e], by omega, h1, by omega⟩
   . rw [if_neg h1] at h; cases h
theorem atI_get {α : Type} {xs : List α} {i : Int} {v : α} (h : atI xs i = some v) : ∃ j, seqIndex? i xs.length = some j /\ xs[j]? = some v /\ j < xs.length /\ -(xs.length : Int) <= i /\ i < xs.length := by
 unfold atI at h
 cases e : ixN xs.length i with
 | none => rw [e] at h; cases h
 | some j =>
  rw [e] at h
  obtain ⟨h1, h2, h3, h4⟩ := ixN_seq e
  exact ⟨j, h1, h, h2, h3, h4⟩
noncomputable def PlainIx (b : Expr) : Prop := ∀ o i, subscripted b false o i = operate [o, i] (getItem o i)
noncomputable def IxR (X : Cx) (r : R2) : Prop :=
 ∀ (value slice : Expr) (pins : List (Addr × Obj)) (s : Shared) (σ : St) (H : Hp) (x y : V) (v u : Value) (Q : VK), Inv X pins σ H s -> RelV x v -> RelV y u -> r x y H Q ->
  subscripted slice false v u = operate [v, u] (getItem v u) -> wpAny (model X.prog X.w) X.A (subscriptTail value slice v u) (EP X pins σ Q) X.xe s
noncomputable def MtR (X : Cx) (id : String) (r : V -> List V -> Hp -> VK -> Prop) : Prop :=
 ∀ (pins : List (Addr × Obj)) (s : Shared) (σ : St) (H : Hp) (x : V) (xs : List V) (v : Value) (us : List Value) (Q : VK), Inv X pins σ H s -> RelV x v -> Vals xs us -> r x xs H Q ->
  wpAny (model X.prog X.w) X.A (call (.builtin id) (v :: us)) (EP X pins σ Q) X.xe s
section
variable {X : Cx} {a b : Expr} {ta tb : TE} {pos : Pos}
theorem IxR.or {r r' : R2} (h : IxR X r) (h' : IxR X r') : IxR X (fun x y H Q => r x y H Q \/ r' x y H Q) := by
 intro value slice pins s σ H x y v u Q I rx ry q hs
 rcases q with q | q
 . exact h value slice pins s σ H x y v u Q I rx ry q hs
 . exact h' value slice pins s σ H x y v u Q I rx ry q hs
theorem pe_ix {r : R2} (hr : IxR X r) (ha : PE X a ta) (hb : PE X b tb) (hs : PlainIx b) : PE X (.Subscript a b pos) (tOp r ta tb) := by
 intro pins s σ H Q I h
 exact Subscript_ (binT ha hb I h fun v u s2 x y H2 I2 rx ry q => hr a b pins s2 σ H2 x y v u Q I2 rx ry q (hs _ _))
noncomputable def rIxL (K : PySem.W.Frag) : R2 := fun x y H Q => ∃ p xs i v, x = .ref p /\ y = .int i /\ SqL K H p xs /\ atI xs i = some v /\ Q v H
noncomputable def rIxT (K : PySem.W.Frag) : R2 := fun x y H Q => ∃ p xs i v, x = .ref p /\ y = .int i /\ SqT K H p xs /\ atI xs i = some v /\ Q v H
noncomputable def rIxS : R2 := fun x y H Q => ∃ z i c, x = .str z /\ y = .int i /\ z.length <= sizeLine /\ atI z.cps.toList i = some c /\ Q (.str ⟨#[c]⟩) H
theorem ix_list : IxR X (rIxL X.K) := by
 intro value slice pins s σ H x y v u Q I rx ry h hs
 obtain ⟨p, xs, i, z, rfl, rfl, hq, he, q⟩ := h
 cases rx
 obtain ⟨t, rfl⟩ := ry
 obtain ⟨its, r, pl, hz⟩ := I.list hq
 obtain ⟨j, h1, h2, h3, h4, h5⟩ := atI_get he
 obtain ⟨w, ew, rw'⟩ := r.get h2
 have hl := r.length
 have hn := line63
 have fin : EP X pins σ Q w s := ⟨z, H, I, rw', q⟩
 by_cases h0 : 0 <= i
 . have hj : i.toNat = j := by
     rw [seqIndex_of h0 h5] at h1
     exact Option.some.inj h1
   exact item_listR pl.isList h0 (by omega) (by rw [hj]; simpa using ew) fin hs
 . have hj : (i + (its.toArray.size : Int)).toNat = j := by
     rw [seqIndex_neg (by omega) h4] at h1
     rw [List.size_toArray, <- hl]
     exact Option.some.inj h1
   exact subscriptTail_builtinR (x := w) pl.isList.typeIs slot_list_getitem.lookup
    (wpAny_getItem_list_neg (Q := fun r s' => r = w /\ EP X pins σ Q r s') pl.isList (by omega) (by rw [List.size_toArray] <;> omega) (by omega) (by rw [hj]; simpa using ew) ⟨rfl, fin⟩) hs
theorem ix_tup : IxR X (rIxT X.K) := by
 intro value slice pins s σ H x y v u Q I rx ry h hs
 obtain ⟨p, xs, i, z, rfl, rfl, hq, he, q⟩ := h
 cases rx
 obtain ⟨t, rfl⟩ := ry
 obtain ⟨its, r, pl, hz⟩ := I.tuple hq
 obtain ⟨j, h1, h2, h3, h4, h5⟩ := atI_get he
 obtain ⟨w, ew, rw'⟩ := r.get h2
 have hl := r.length
 have hn := line63
 have fin : EP X pins σ Q w s := ⟨z, H, I, rw', q⟩
 exact subscriptTail_builtinR (x := w) pl.typeIs slot_tuple_getitem.lookup
  (getItem_tuple (j := j) (Q := fun r s' => r = w /\ EP X pins σ Q r s') pl (by omega) (by omega) (by rw [List.size_toArray, <- hl]; exact h1) (by simpa using ew) ⟨rfl, fin⟩) hs
theorem ix_str : IxR X rIxS := by
 intro value slice pins s σ H x y v u Q I rx ry h hs
 obtain ⟨z, i, c, rfl, rfl, hz, he, q⟩ := h
 obtain ⟨t, rfl⟩ := rx
 obtain ⟨t', rfl⟩ := ry
 obtain ⟨j, h1, h2, h3, h4, h5⟩ := atI_get he
 have hl : z.cps.toList.length = z.length := by simp [Str.length]
 rw [hl] at h1 h4 h5
 have hn := line63
 exact tail_any (typeIs_str s z t) slot_str_getitem.lookup (getItem_str (c := c) (by
  have e1 : decide (i < -(2 ^ 63 : Int)) = false := decide_eq_false (by omega)
  have e2 : decide (i >= 2 ^ 63) = false := decide_eq_false (by omega)
  rw [e1, e2, Bool.or_false]) (by rw [h1]; simpa using h2) ⟨.str ⟨#[c]⟩, H, I.tok _, ⟨_, rfl⟩, q⟩) hs
noncomputable def rIx (K : PySem.W.Frag) : R2 := fun x y H Q => rIxL K x y H Q \/ rIxT K x y H Q \/ rIxS x y H Q
theorem ix_seq : IxR X (rIx X.K) := ix_list.or (ix_tup.or ix_str)
theorem slice_bounds (lo hi : Option Int) (n : Nat) : (sliceBounds lo hi none n).1 = ((HT.sIx n 0 lo : Nat) : Int) /\ (sliceBounds lo hi none n).2.1 = ((HT.sIx n n hi : Nat) : Int) /\ (sliceBounds lo hi none n).2.2 = 1 := by
 refine ⟨?_, ?_, rfl⟩
 . cases lo with
   | none => simp [sliceBounds, HT.sIx]
   | some i =>
    simp only [sliceBounds, HT.sIx, Option.getD_none, show (1 : Int) > 0 by decide, if_true]
    by_cases h : i < 0
    . simp only [h, if_true] <;> omega
    . simp only [h, if_false] <;> omega
 . cases hi with
   | none => simp [sliceBounds, HT.sIx]
   | some i =>
    simp only [sliceBounds, HT.sIx, Option.getD_none, show (1 : Int) > 0 by decide, if_true]
    by_cases h : i < 0
    . simp only [h, if_true] <;> omega
    . simp only [h, if_false] <;> omega
theorem slicePick_cut (its : List Value) (lo hi : Option Int) : slicePick its.toArray lo hi none = ((its.drop (HT.sIx its.length 0 lo)).take (HT.sIx its.length its.length hi - HT.sIx its.length 0 lo)).toArray := by
 obtain ⟨h1, h2, h3⟩ := slice_bounds lo hi its.toArray.size
 unfold slicePick
 rw [h1, h2, h3]
 simp only [sliceRange_one, pick_run, List.size_toArray] <;> rfl
noncomputable def rSlL (K : PySem.W.Frag) : V -> Option Int -> Option Int -> Hp -> VK -> Prop := fun x lo hi H Q => ∃ a xs, x = .ref a /\ SqL K H a xs /\ ∀ p, H p = none -> Q (.ref p) (upd H p (.lst (cutV xs lo hi)))
theorem sl_list : SlR X (rSlL X.K) := by
 intro pins s σ H x v vl vu lo hi sl Q I rx hs pl pu h
 obtain ⟨a, xs, rfl, hx, q⟩ := h
 cases rx
 obtain ⟨its, r, ht, hz⟩ := I.list hx
 have hlen := r.length
 refine ⟨"list", _, slot_list_getitem.lookup, ht.isList.typeIs, ?_⟩
 refine wpAny_getItem_list_slice ht.isList hs pl pu .none (by simp) ?_ (by rw [List.size_toArray] <;> omega)
 rw [slicePick_cut, <- hlen]
 refine ⟨.ref s.heap.objs.size, _, I.laid (t' := s.toks) (o := .lst (cutV xs lo hi)) (fun b ob q => Heap.get?_push_of_some _ q) (Nat.le_refl _) ?_, rfl, q _ (I.hok.fresh (Nat.le_refl _))⟩
 exact ⟨Nat.le_trans (cutV_length xs lo hi) hz, _, 0, (r.drop (HT.sIx xs.length 0 lo)).take (HT.sIx xs.length xs.length hi - HT.sIx xs.length 0 lo), Heap.get?_push_size _ rfl⟩
noncomputable def flatV : V -> Bool
 | .non => true
 | .bl _ => true
 | .int _ => true
 | .str _ => true
 | _ => false
noncomputable def eqV : V -> V -> Bool
 | .non, .non => true
 | .bl a, .bl b => a == b
 | .bl a, .int b => (if a then 1 else 0) == b
 | .int a, .bl b => a == (if b then 1 else 0)
 | .int a, .int b => a == b
 | .str a, .str b => a == b
 | _, _ => false
theorem eqAt_V {A : Around} {s : Shared} {y x : V} {u v : Value} (ry : RelV y u) (rx : RelV x v) (fy : flatV y = true) (fx : flatV x = true) : SeqAt.EqAt A s u v (eqV y x) := by
 cases y with
 | non =>
  cases ry
  cases x with
  | non => cases rx; exact SeqAt.EqAt.same _
  | bl b => cases rx; exact SeqAt.EqAt.none_bool b
  | int b => obtain ⟨t, rfl⟩ := rx; exact SeqAt.EqAt.none_int b t
  | str b => obtain ⟨t, rfl⟩ := rx; exact SeqAt.EqAt.none_str b t
  | _ => exact absurd (show false = true from fx) Bool.false_ne_true
 | bl a =>
  cases ry
  cases x with
  | non => cases rx; exact SeqAt.EqAt.bool_none a
  | bl b => cases rx; exact SeqAt.EqAt.bool_bool a b
  | int b => obtain ⟨t, rfl⟩ := rx; exact SeqAt.EqAt.bool_int a b t
  | str b => obtain ⟨t, rfl⟩ := rx; exact SeqAt.EqAt.bool_str a b t
  | _ => exact absurd (show false = true from fx) Bool.false_ne_true
 | int a =>
  obtain ⟨t', rfl⟩ := ry
  cases x with
  | non => cases rx; exact SeqAt.EqAt.int_none a t'
  | bl b => cases rx; exact SeqAt.EqAt.int_bool a t' b
  | int b => obtain ⟨t, rfl⟩ := rx; exact SeqAt.EqAt.int_int a t' b t
  | str b => obtain ⟨t, rfl⟩ := rx; exact SeqAt.EqAt.int_str a t' b t
  | _ => exact absurd (show false = true from fx) Bool.false_ne_true
 | str a =>
  obtain ⟨t', rfl⟩ := ry
  cases x with
  | non => cases rx; exact SeqAt.EqAt.str_none a t'
  | bl b => cases rx; exact SeqAt.EqAt.str_bool a t' b
  | int b => obtain ⟨t, rfl⟩ := rx; exact SeqAt.EqAt.str_int a t' b t
  | str b => obtain ⟨t, rfl⟩ := rx; exact SeqAt.EqAt.str_str a t' b t
  | _ => exact absurd (show false = true from fx) Bool.false_ne_true
 | _ => exact absurd (show false = true from fy) Bool.false_ne_true
noncomputable def eqU (x : V) (u : Value) : Bool := match u with
 | .none => eqV .non x
 | .bool b => eqV (.bl b) x
 | .int i _ => eqV (.int i) x
 | .str z _ => eqV (.str z) x
 | _ => false
theorem eqU_of {x y : V} {u : Value} (r : RelV y u) (f : flatV y = true) : eqU x u = eqV y x := by
 cases y with
 | non => cases r; rfl
 | bl b => cases r; rfl
 | int i => obtain ⟨t, rfl⟩ := r; rfl
 | str z => obtain ⟨t, rfl⟩ := r; rfl
 | _ => exact absurd (show false = true from f) Bool.false_ne_true
theorem any_eqU {x : V} : ∀ {xs : List V} {us : List Value}, Vals xs us -> xs.all flatV = true -> us.any (eqU x) = xs.any fun y => eqV y x
 | _, _, .nil, _ => rfl
 | y :: xs, u :: us, .cons r t, f => by
  rw [List.all_cons, Bool.and_eq_true] at f
  rw [List.any_cons, List.any_cons, eqU_of r f.1, any_eqU t f.2]
theorem mem_eqAt {A : Around} {s : Shared} {x : V} {v : Value} (rx : RelV x v) (fx : flatV x = true) : ∀ {xs : List V} {us : List Value}, Vals xs us -> xs.all flatV = true -> ∀ u ∈ us, SeqAt.EqAt A s u v (eqU x u)
 | _, _, .nil, _ => fun u hu => by cases hu
 | y :: xs, u :: us, .cons r t, f => fun u' hu => by
  rw [List.all_cons, Bool.and_eq_true] at f
  rcases List.mem_cons.mp hu with rfl | hu
  . rw [eqU_of r f.1]; exact eqAt_V r rx f.1 fx
  . exact mem_eqAt rx fx t f.2 u' hu
noncomputable def inV (x : V) (xs : List V) : Bool := xs.any fun y => eqV y x
noncomputable def rIn (K : PySem.W.Frag) (neg : Bool) : R2 := fun x y H Q => ∃ p xs, y = .ref p /\ (SqL K H p xs \/ SqT K H p xs) /\ flatV x = true /\ xs.all flatV = true /\ Q (.bl (if neg then !inV x xs else inV x xs)) H
theorem op_in_seq : OpR X (compareOp .In) (rIn X.K false) := by
 intro pins s σ H x y v u Q I rx ry h
 obtain ⟨p, xs, rfl, hq, fx, fs, q⟩ := h
 cases ry
 rcases hq with hq | hq
 . obtain ⟨its, r, pl, hz⟩ := I.list hq
   refine SeqAt.in_listAt (eqU x) pl.isList (fun w hw => mem_eqAt rx fx r fs w (by simpa using hw)) ⟨.bl _, H, I, rfl, ?_⟩
   rw [show its.toArray.any (eqU x) = its.any (eqU x) by simp, any_eqU r fs]
   exact q
 . obtain ⟨its, r, pl, hz⟩ := I.tuple hq
   refine SeqAt.in_tupleAt (eqU x) pl (fun w hw => mem_eqAt rx fx r fs w (by simpa using hw)) ⟨.bl _, H, I, rfl, ?_⟩
   rw [show its.toArray.any (eqU x) = its.any (eqU x) by simp, any_eqU r fs]
   exact q
theorem op_notIn_seq : OpR X (compareOp .NotIn) (rIn X.K true) := by
 intro pins s σ H x y v u Q I rx ry h
 obtain ⟨p, xs, rfl, hq, fx, fs, q⟩ := h
 cases ry
 rcases hq with hq | hq
 . obtain ⟨its, r, pl, hz⟩ := I.list hq
   refine SeqAt.notIn_listAt (eqU x) pl.isList (fun w hw => mem_eqAt rx fx r fs w (by simpa using hw)) ⟨.bl _, H, I, rfl, ?_⟩
   rw [show its.toArray.any (eqU x) = its.any (eqU x) by simp, any_eqU r fs]
   exact q
 . obtain ⟨its, r, pl, hz⟩ := I.tuple hq
   refine SeqAt.notIn_tupleAt (eqU x) pl (fun w hw => mem_eqAt rx fx r fs w (by simpa using hw)) ⟨.bl _, H, I, rfl, ?_⟩
   rw [show its.toArray.any (eqU x) = its.any (eqU x) by simp, any_eqU r fs]
   exact q
theorem op_notIn_str : OpR X (compareOp .NotIn) (fun x y H Q => ∃ i j, x = .str i /\ y = .str j /\ Q (.bl (!(!(Builtin.Str.occurrences j i 0 j.length 1).isEmpty))) H) := by
 intro pins s σ H x y v u Q I rx ry h
 obtain ⟨i, j, rfl, rfl, q⟩ := h
 obtain ⟨t, rfl⟩ := rx
 obtain ⟨t', rfl⟩ := ry
 exact notIn_str ⟨.bl _, H, I, rfl, q⟩
theorem call_len_seq : CallR X (.builtin "len") (fun xs H Q => ∃ p ys, xs = [.ref p] /\ (SqL X.K H p ys \/ SqT X.K H p ys) /\ Q (.int ys.length) H) := by
 intro pins s σ H xs us Q I r h
 obtain ⟨p, ys, rfl, hq, q⟩ := h
 obtain ⟨u, rfl, rx⟩ := vals1 r
 cases rx
 have hn := line63
 rcases hq with hq | hq
 . obtain ⟨its, r', pl, hz⟩ := I.list hq
   have hlen := r'.length
   exact Calls.call_len_list pl.isList (by simp only [List.size_toArray] <;> omega) ⟨.int ys.length, H, I.tok _, ⟨s.toks + 1, by rw [List.size_toArray, hlen]⟩, q⟩
 . obtain ⟨its, r', pl, hz⟩ := I.tuple hq
   have hlen := r'.length
   exact len_tuple pl (by simp only [List.size_toArray] <;> omega) ⟨.int ys.length, H, I.tok _, ⟨s.toks + 1, by rw [List.size_toArray, hlen]⟩, q⟩
theorem call_len_str : CallR X (.builtin "len") (fun xs H Q => ∃ z, xs = [.str z] /\ z.length <= sizeLine /\ Q (.int z.length) H) := by
 intro pins s σ H xs us Q I r h
 obtain ⟨z, rfl, hz, q⟩ := h
 obtain ⟨u, rfl, t, rfl⟩ := vals1 r
 have hn := line63
 exact len_str (by omega) ⟨.int z.length, H, I.tok _, ⟨_, rfl⟩, q⟩
theorem CallR.or {f : Value} {r r' : List V -> Hp -> VK -> Prop} (h : CallR X f r) (h' : CallR X f r') : CallR X f (fun xs H Q => r xs H Q \/ r' xs H Q) := by
 intro pins s σ H xs us Q I rs q
 rcases q with q | q
 . exact h pins s σ H xs us Q I rs q
 . exact h' pins s σ H xs us Q I rs q
theorem call_list_of : CallR X (.type "list") (fun xs H Q => ∃ p ys, xs = [.ref p] /\ (SqL X.K H p ys \/ SqT X.K H p ys) /\ ∀ l, H l = none -> Q (.ref l) (upd H l (.lst ys))) := by
 intro pins s σ H xs us Q I r h
 obtain ⟨p, ys, rfl, hq, q⟩ := h
 obtain ⟨u, rfl, rx⟩ := vals1 r
 cases rx
 have fin : ∀ (its : List Value), Vals ys its -> ys.length <= sizeLine -> ∀ (h' : Heap) (c' : Nat), (∀ b o', s.heap.get? b = some o' -> h'.get? b = some o') ->
   h'.get? s.heap.objs.size = some { cls := .type "list", dict := none, data := .seq its.toArray c', slots := #[] } -> EP X pins σ Q (.ref s.heap.objs.size) { s with heap := h' } := fun its r' hz h' c' kp e =>
  ⟨.ref s.heap.objs.size, _, I.laid (t' := s.toks) kp (Nat.le_refl _) (show ObjOk X.prog X.w _ h' _ (.lst ys) from ⟨hz, its, c', r', e⟩), rfl, q _ (I.hok.fresh (Nat.le_refl _))⟩
 rcases hq with hq | hq
 . obtain ⟨its, r', pl, hz⟩ := I.list hq
   have hlen := r'.length
   obtain ⟨o, ho, hc, n, hd⟩ := pl.isList
   exact call_list_seq p (.inl rfl) ho hc hd (fun h' c' kp e => fin its r' hz h' c' kp e) (by simp only [List.size_toArray] <;> omega)
 . obtain ⟨its, r', pl, hz⟩ := I.tuple hq
   have hlen := r'.length
   obtain ⟨o, ho, hc, n, hd⟩ := pl
   exact call_list_seq p (.inr rfl) ho hc hd (fun h' c' kp e => fin its r' hz h' c' kp e) (by simp only [List.size_toArray] <;> omega)
theorem call_tuple_of : CallR X (.type "tuple") (fun xs H Q => ∃ p ys, xs = [.ref p] /\ ((SqL X.K H p ys /\ ∀ l, H l = none -> Q (.ref l) (upd H l (.tup ys))) \/ (SqT X.K H p ys /\ Q (.ref p) H))) := by
 intro pins s σ H xs us Q I r h
 obtain ⟨p, ys, rfl, h⟩ := h
 obtain ⟨u, rfl, rx⟩ := vals1 r
 cases rx
 rcases h with ⟨hq, q⟩ | ⟨hq, q⟩
 . obtain ⟨its, r', pl, hz⟩ := I.list hq
   have hlen := r'.length
   refine call_tuple_list pl.isList (fun h' kp => ?_) (by simp only [List.size_toArray] <;> omega)
   have I1 : Inv X pins σ H { s with heap := h' } := I.kept (t' := s.toks) kp
   have I2 : Inv X pins σ (upd H h'.objs.size (.tup ys)) { s with heap := h'.push { cls := .type "tuple", data := .seq its.toArray } } :=
    I1.laid (t' := s.toks) (fun b o e => Heap.get?_push_of_some _ e) (Nat.le_refl _) (show ObjOk X.prog X.w _ _ _ (.tup ys) from ⟨hz, its, r', IsTup.new _ _⟩)
   exact ⟨.ref h'.objs.size, _, I2, rfl, q _ (I1.hok.fresh (Nat.le_refl _))⟩
 . obtain ⟨its, r', pl, hz⟩ := I.tuple hq
   exact call_tuple_same pl ⟨.ref p, H, I, rfl, q⟩
noncomputable def tyV (K : PySem.W.Frag) (T : String) (x : V) (H : Hp) : Prop := match x with
 | .str _ => T = "str"
 | .int _ => T = "int"
 | .ref p => (T = "list" /\ ∃ xs, SqL K H p xs) \/ (T = "tuple" /\ ∃ o, K.lookup p = some o /\ o.cls = .type "tuple" /\ o.dict = none) \/
   (T = "dict" /\ ((∃ kvs, H p = some (.dK kvs)) \/ ∃ kvs, H p = some (.dT kvs))) \/ (T = "set" /\ ∃ S n, H p = some (.set S n))
 | _ => False
theorem tyV_is {pins : List (Addr × Obj)} {σ : St} {H : Hp} {s : Shared} {T : String} {x : V} {v : Value} (I : Inv X pins σ H s) (r : RelV x v) (ty : tyV X.K T x H) :
  s.TypeIs v T /\ ∀ a, v = .ref a -> ∃ ob, s.heap.get? a = some ob /\ ob.dict = none := by
 cases x with
 | str z =>
  obtain ⟨t, rfl⟩ := r
  cases (show T = "str" from ty)
  exact ⟨typeIs_str s z t, fun _ e => nomatch e⟩
 | int i =>
  obtain ⟨t, rfl⟩ := r
  cases (show T = "int" from ty)
  exact ⟨typeIs_int s i t, fun _ e => nomatch e⟩
 | ref p =>
  cases r
  rcases ty with ⟨rfl, xs, hq⟩ | ⟨rfl, o, hk, hc, hd⟩ | ⟨rfl, hk⟩ | ⟨rfl, S, n, hk⟩
  . obtain ⟨its, _, pl, _⟩ := I.list hq
    refine ⟨pl.isList.typeIs, fun a e => ?_⟩
    cases e
    obtain ⟨o, n, e, c, hd, _⟩ := pl
    exact ⟨o, e, hd⟩
  . refine ⟨⟨o, I.kIn p o hk, hc⟩, fun a e => ?_⟩
    cases e
    exact ⟨o, I.kIn _ o hk, hd⟩
  . have z : ∃ o, s.heap.get? p = some o /\ o.ExactDict := by
      rcases hk with ⟨kvs, hk⟩ | ⟨kvs, hk⟩
      . obtain ⟨_, _, _, _, o, _, _, e, ex, _⟩ := I.hok p _ hk
        exact ⟨o, e, ex⟩
      . obtain ⟨_, _, _, _, o, _, _, e, ex, _⟩ := I.hok p _ hk
        exact ⟨o, e, ex⟩
    obtain ⟨o, e, ex⟩ := z
    refine ⟨⟨o, e, ex.1⟩, fun a e2 => ?_⟩
    cases e2
    exact ⟨o, e, ex.2.1⟩
  . obtain ⟨o, _, _, _, e, ex, _⟩ := I.hok p _ hk
    refine ⟨⟨o, e, ex.1⟩, fun a e2 => ?_⟩
    cases e2
    exact ⟨o, e, ex.2.1⟩
 | _ => exact False.elim ty
noncomputable def tBM0 (K : PySem.W.Frag) (T : String) (r : V -> List V -> Hp -> VK -> Prop) (to : TE) : TE := fun σ H Q => to σ H fun x H1 => tyV K T x H1 /\ r x [] H1 Q
noncomputable def tBM (K : PySem.W.Frag) (T : String) (r : V -> List V -> Hp -> VK -> Prop) (to : TE) (t : TA) : TE := fun σ H Q => to σ H fun x H1 => tyV K T x H1 /\ t σ H1 fun xs H2 => r x xs H2 Q
variable {o e : Expr} {es : List Expr} {to : TE} {t : TA} {name : Str} {apos cpos : Pos} {T id : String} {r : V -> List V -> Hp -> VK -> Prop}
theorem pe_bm0 (pa : PlainAttrs T) (slot : Slot T name id) (hty : typeOf (.builtin id) = pure (.type "method_descriptor")) (hm : MtR X id r) (ho : PE X o to)
  (hbase : attributeBase o name X.env (eval o X.env) = eval o X.env := by rfl) (hline : (apos.endLine == cpos.line) = true := by rfl) : PE X (.Call (.Attribute o name apos) [] [] cpos) (tBM0 X.K T r to) := by
 intro pins s σ H Q I h
 refine wpAny_Call_method0_late hbase hline (thn (ho pins s σ H _ I h) fun v s1 ⟨x, H1, I1, r1, ty, q1⟩ => ?_)
 obtain ⟨h1, h2⟩ := tyV_is I1 r1 ty
 exact ⟨T, id, pa, slot, hty, h1, h2, Calls.callWith_builtin rfl (PySem.evalArgs_none (hm pins s1 σ H1 x [] v [] Q I1 r1 .nil q1))⟩
theorem pe_bm (pa : PlainAttrs T) (slot : Slot T name id) (hty : typeOf (.builtin id) = pure (.type "method_descriptor")) (hm : MtR X id r) (ho : PE X o to) (ha : PA X (e :: es) t)
  (hbase : attributeBase o name X.env (eval o X.env) = eval o X.env := by rfl)
  (hfew : ((backTo cpos (starEach (e :: es) X.env)).all (fun x => !x.1) && (backToKw cpos (keywordEach [] X.env)).all (fun x => x.1.isSome)
   && decide ((e :: es).length + ([] : List Keyword).length + (if ([] : List Keyword).isEmpty then 0 else 1) < 30)) = true := by rfl)
  (hline : (apos.endLine == cpos.line) = true := by rfl) (hs : starEach (e :: es) X.env = (false, eval e X.env) :: starEach es X.env := by rfl) (hplain : (backTo cpos (starEach es X.env)).any (·.1) = false := by rfl) :
  PE X (.Call (.Attribute o name apos) (e :: es) [] cpos) (tBM X.K T r to t) := by
 intro pins s σ H Q I h
 refine wpAny_Call_method_late hbase hfew hline rfl (thn (ho pins s σ H _ I h) fun v s1 ⟨x, H1, I1, r1, ty, q1⟩ => ?_)
 obtain ⟨h1, h2⟩ := tyV_is I1 r1 ty
 refine ⟨T, id, pa, slot, hty, h1, h2, ?_⟩
 have hA := ha cpos pins s1 σ H1 _ I1 q1
 rw [hs] at hA ⊢
 refine Calls.callWith_builtin (by show (false || (backTo cpos (starEach es X.env)).any (·.1)) = false; rw [hplain] <;> rfl) (Calls.evalArgs_plain ?_)
 exact thn hA fun us s2 ⟨vs, H2, I2, r2, q2⟩ => hm pins s2 σ H2 x vs v us Q I2 r1 r2 q2
/- xs.append(e), list.index on a module's tuple .. are MtR facts of 06m -/
end
end L2
namespace L2
open PySem PySem.Spec PyProof.Rows
noncomputable def MtM (X : Cx) (id : String) (r : V -> List V -> Hp -> VK -> Prop) : Prop :=
 ∀ (pins : List (Addr × Obj)) (s : Shared) (σ : St) (H : Hp) (x : V) (xs : List V) (v : Value) (us : List Value) (Q : VK), Inv X pins σ H s -> RelV x v -> Vals xs us -> r x xs H Q ->
  wpAny (model X.prog X.w) X.A (call (.builtin id) (v :: us)) (EP X pins σ Q) X.xe s
theorem Vals.one : ∀ {x : V} {us : List Value}, Vals [x] us -> ∃ u, us = [u] /\ RelV x u
 | _, _, .cons r .nil => ⟨_, rfl, r⟩
theorem Vals.zero : ∀ {us : List Value}, Vals [] us -> us = []
 | _, .nil => rfl
theorem Vals.reverse {xs : List V} {us : List Value} (h : Vals xs us) : Vals xs.reverse us.reverse := by
 induction h with
 | nil => exact .nil
 | cons r t ih => rw [List.reverse_cons, List.reverse_cons]; exact Vals.append ih (.cons r .nil)
section
variable {X : Cx} {pins : List (Addr × Obj)} {σ : St} {H : Hp} {s : Shared} {l b : Addr} {xs ys zs : List V}
theorem Inv.lset {its its' : List Value} {n : Nat} {f : Array Value -> Array Value} {t' : Nat} (I : Inv X pins σ H s) (hH : H l = some (.lst xs))
  (e : s.heap.get? l = some { cls := .type "list", data := .seq its.toArray n }) (hf : f its.toArray = its'.toArray) (hv : Vals ys its') (hz : ys.length <= sizeLine) :
  Inv X pins σ (upd H l (.lst ys)) { s with heap := s.heap.update l (Obj.mapSeq f), toks := t' } := by
 have q := PySem.IsL.update e f
 rw [hf] at q
 refine I.write (x := l) (e := l) (by rw [hH]; exact trivial) (.inl rfl) (fun b' u hb hu => (Heap.get?_update_other s.heap (Obj.mapSeq f) (Ne.symm hb)).trans hu) ⟨_, q⟩ ?_
 exact ⟨hz, its', _, hv, q⟩
theorem Inv.lnew {its : List Value} {t' : Nat} (I : Inv X pins σ H s) (hv : Vals ys its) (hz : ys.length <= sizeLine) :
  Inv X pins σ (upd H s.heap.objs.size (.lst ys)) { s with heap := s.heap.push { cls := .type "list", data := .seq its.toArray }, toks := t' } :=
 I.laid (fun _ _ q => Heap.get?_push_of_some _ q) (Nat.le_refl _) ⟨hz, its, 0, hv, Heap.get?_push_size _ rfl⟩
theorem Inv.fresh (I : Inv X pins σ H s) : H s.heap.objs.size = none := I.hok.fresh (Nat.le_refl _)
theorem Inv.lstM (I : Inv X pins σ H s) (hH : H l = some (.lst xs)) : xs.length <= sizeLine /\ ∃ (its : List Value) (n : Nat), Vals xs its /\ xs.length = its.length /\ s.heap.get? l = some { cls := .type "list", data := .seq its.toArray n } := by
 obtain ⟨z, its, n, r, e⟩ := I.hok l _ hH
 exact ⟨z, its, n, r, r.length, e⟩
end
section
variable {X : Cx}
noncomputable def rAppend : V -> List V -> Hp -> VK -> Prop := fun x vs H Q => ∃ l xs y, x = .ref l /\ vs = [y] /\ H l = some (.lst xs) /\ xs.length < sizeLine /\ Q .non (upd H l (.lst (xs ++ [y])))
theorem mt_append : MtM X "list.append" rAppend := by
 intro pins s σ H x vs v us Q I rx rv h
 obtain ⟨l, xs, y, rfl, rfl, hH, hz, q⟩ := h
 cases rx
 obtain ⟨u, rfl, ru⟩ := rv.one
 obtain ⟨z, its, n, r, hl, e⟩ := I.lstM hH
 refine call_meets F.slot_list_append ⟨_, e, rfl⟩ F.entry_list_append (F.args_list_append_2 _ _) (PySem.list_append l its.toArray n u (by rw [List.size_toArray]; omega)) ⟨e, ?_⟩
 refine ⟨.non, _, I.lset (its' := its ++ [u]) hH e (by simp) (r.append (.cons ru .nil)) ?_, rfl, q⟩
 rw [List.length_append, List.length_singleton]
 omega
noncomputable def rReverse : V -> List V -> Hp -> VK -> Prop := fun x vs H Q => ∃ l xs, x = .ref l /\ vs = [] /\ H l = some (.lst xs) /\ Q .non (upd H l (.lst xs.reverse))
theorem mt_reverse : MtM X "list.reverse" rReverse := by
 intro pins s σ H x vs v us Q I rx rv h
 obtain ⟨l, xs, rfl, rfl, hH, q⟩ := h
 cases rx
 have hus := rv.zero
 subst hus
 obtain ⟨z, its, n, r, hl, e⟩ := I.lstM hH
 refine call_meets F.slot_list_reverse ⟨_, e, rfl⟩ F.entry_list_reverse (F.args_list_reverse_1 _) (AutoSeq1.list_reverse_list_0 l its.toArray n (by rw [List.size_toArray]; omega)) ⟨e, ?_⟩
 refine ⟨.non, _, I.lset (its' := its.reverse) hH e (by simp) r.reverse ?_, rfl, q⟩
 rw [List.length_reverse]
 omega
end
section
variable {prog : Program} {w : World} {A : Around} {E : Value -> Shared -> Prop} {s : Shared}
end
section
variable {X : Cx}
end
end L2
namespace Att
open PySem PySem.W PySem.Calls PyProof.Rows
theorem ints_of_wellAll {P : Params} {h : Heap} : ∀ (ns : List Int) (vs : List Value), WellAll P h vs (ns.map WData.int) -> IntsAre vs ns := by
 intro ns
 induction ns with
 | nil =>
  intro vs w
  rw [List.map_nil] at w
  cases w
  exact .nil
 | cons n ns ih =>
  intro vs w
  rw [List.map_cons] at w
  cases w with
  | cons a b =>
   cases a
   exact .cons _ _ (ih _ b)
theorem script_of {l : OpenLaw} {n : Nat} (hn : l.most = some n) {P : Params} {h : Heap} {args : List WData} {vals : List Value}
  (hpre : l.row.toRowW.claim.pre args = true) (hwl : WellAll P h vals args) :
  ∃ a vs ns, vals = [Value.ref a] /\ args = [WData.list (ns.map WData.int)] /\ h.get? a = some { cls := .type "list", data := .seq vs.toArray } /\ IntsAre vs ns /\ ns.length <= n := by
 have hsh : WShape.hasAll [] args [.list .int] = true := (pre_splitW hpre).1
 have hc : l.pre.holds [] { args := args } = true := (pre_splitW hpre).2
 obtain ⟨d, r, rfl, h1, h2⟩ := hasAllW_cons hsh
 obtain rfl := hasAllW_nil h2
 obtain ⟨xs, rfl, h3⟩ := hasW_list h1
 obtain ⟨ns, rfl⟩ := items_int h3
 have hlen : ns.length <= n := by
  unfold OpenLaw.pre at hc
  have h4 : (WTm.not (.lt (.lit (.int (n : Int))) (.len (.arg 0)))).holds [] { args := [.list (ns.map .int)] } = true := by
   have h4 := (holds_andW hc).1
   rw [hn] at h4
   exact h4
  have h5 := condW_of h4 (w_not (w_lt w_lit (w_len_list (w_arg rfl))))
  rw [List.length_map] at h5
  refine Nat.le_of_not_lt fun q => ?_
  have q' : (n : Int) < ((ns.length : Nat) : Int) := by omega
  first
   | (rw [decide_eq_true q'] at h5; exact absurd h5 (by decide))
   | (simp at h5; omega)
 cases hwl with
 | cons w1 w2 =>
  cases w2
  cases w1 with
  | list ho hall => exact ⟨_, _, ns, rfl, rfl, ho, ints_of_wellAll ns _ hall, hlen⟩
theorem post_true (l : OpenLaw) (args : List WData) : l.row.toRowW.claim.post args (.bool true) args = true :=
 postW_of (r := l.row.toRowW) (X := (true == true))
  (show WShape.has [] (.bool true) .bool = true by first | rfl | decide | simp [WShape.has, WShape.arms, WShape.armsAll])
  (show (WTm.eq .res (.lit (.bool true))).value [] { args := args, res := some (.bool true), after := args } = some (.bool (true == true)) from w_eq_bool (w_res rfl) w_lit) rfl
theorem attach_call {l : OpenLaw} {n : Nat} {q : Program} {loose : List Str} {XP : (Str -> Option Value) -> Heap -> Prop} {YP : World -> Heap -> Prop} {d : DefRec}
  (hn : l.most = some n) (hdf : d.params.defaults = [])
  (call : ∀ (w : World) (s₀ s₁ : Shared) (mg mb : Str -> Option Value) (fa : Addr) (o : Obj) (pm cd doc : Value) (a : Addr) (vs : List Value) (ns : List Int),
   Ground q loose [] XP w s₀ mg mb s₁.heap -> YP w s₁.heap ->
   s₁.heap.get? fa = some o -> o.data = .func (docDef d.name d.params d.body d.scope pm cd doc) -> s₁.heap.CodeRec cd d.name -> mg d.name = some (.ref fa) ->
   s₁.heap.get? a = some { cls := .type "list", data := .seq vs.toArray } -> IntsAre vs ns -> ns.length <= n -> s₁.gens = #[] ->
   codeAny (model l.prog w) callerA (.call (.ref fa) ⟨[.ref a], []⟩) (fun r s' => r = .ok (.ret (.bool true)) /\ OldK s₁.heap s'.heap /\ s'.os = s₁.os /\ AllBare s'.gens) s₁) :
  WalkO q loose XP YP l.row.toRowW d [] (fun f vs => PySem.call f vs) := by
 intro w s₀ s₁ mg mb G Y fa o pm cd doc dV kV ho hd hcd hD hmg hg args vals as hpre hlay hrd hwl hlo
 obtain rfl : dV = .none := Dflts.none hD hdf
 obtain rfl : kV = .none := Dflts.noKw hD
 obtain ⟨a, vs, ns, rfl, rfl, hobj, hints, hlen⟩ := script_of hn hpre hwl
 refine enter_call (codeAny_mono (call w s₀ s₁ mg mb fa o pm cd doc a vs ns G Y ho (fd_plain hd) hcd hmg hobj hints hlen hg) fun r s' hq => ?_)
 obtain ⟨rfl, h2, h3, h4⟩ := hq
 exact ⟨.inl ⟨.bool true, .bool true, [], rfl, fun _ => rfl, .bool true, post_true l _, fun _ => ⟨List.Pairwise.nil, fun _ hm => (nomatch hm)⟩⟩, h2, h3, h4⟩
section
variable {prog : Program} {w : World} {A : Around} {E : Value -> Shared -> Prop} {s : Shared} {K : Frag}
end
end Att
namespace L2
open PySem PySem.Spec PyProof.Rows
theorem vals_ints : ∀ {vs : List Value} {ns : List Int}, IntsAre vs ns -> Vals (ns.map V.int) vs
 | _, _, .nil => .nil
 | _, _, .cons n t h => .cons ⟨t, rfl⟩ (vals_ints h)
noncomputable def Only (H : Hp) : Prop := ∀ b, H b = none \/ ∃ o xs, H b = some (.frz o (.lst xs))
theorem law_call {P : Program} {w : World} {K : PySem.W.Frag} {mg mb : Str -> Option Value} {CX : CXT} {k : Nat} {fa a : Addr} {fd : FuncData} {x : Str} {sp : Sp} {s₁ : Shared} {vs : List Value} {ns : List Int}
  (KX : K.In s₁.heap) (hns : s₁.heap.Ns mainGlobals mg) (hb : s₁.heap.Ns builtinsNs mb) (hbb : ∀ x : Str, x ≠ "__name__" -> mb x = bootBuiltins x) (hlim : s₁.heap.NoLimit) (hg : s₁.gens = #[])
  (ha : s₁.heap.get? a = some { cls := .type "list", data := .seq vs.toArray }) (hi : IntsAre vs ns) (hl : ns.length <= sizeLine) (hr : Room k callerA)
  (F : ∀ base : Heap, K.In base -> base.Ns mainGlobals mg -> FnOk P w K mg base CX k fa fd [x] sp) (hbind : ∀ (s : Shared) (u : Value), BindsTo s fd ⟨[u], []⟩ [(x, u)])
  (hsp : ∀ H : Hp, Only H -> SqL K H a (ns.map V.int) -> sp [.ref a] H (fun v _ => v = .bl true) fun _ _ _ => False)
  (hCX : ∀ H e s', CX [] H s₁ (fun _ _ _ => False) e s' -> False) :
  codeAny (model P w) callerA (.call (.ref fa) ⟨[.ref a], []⟩) (fun r s' => r = .ok (.ret (.bool true)) /\ OldK s₁.heap s'.heap /\ s'.os = s₁.os /\ AllBare s'.gens) s₁ := by
 have rv := vals_ints hi
 have lenV := hi.length
 have core : ∀ H : Hp, Only H -> SqL K H a (ns.map V.int) -> HOk P w H s₁.heap -> (∀ b, H b ≠ none -> b = a) -> (H a ≠ none -> K.lookup a = none) ->
   codeAny (model P w) callerA (.call (.ref fa) ⟨[.ref a], []⟩) (fun r s' => r = .ok (.ret (.bool true)) /\ OldK s₁.heap s'.heap /\ s'.os = s₁.os /\ AllBare s'.gens) s₁ := by
  intro H hO hS hok hA hK
  have base_of : ∀ {b : Addr} {o : Obj}, s₁.heap.get? b = some o -> H b = none -> (hidT s₁.heap H).get? b = some o := fun e n => hidT_get e n
  have noA : ∀ {b : Addr} {o : Obj} {es : Array DictEntry} {ep : Nat}, s₁.heap.get? b = some o -> o.data = .dict es ep -> H b = none := fun {b o es ep} e d => by
   cases q : H b with
   | none => rfl
   | some u =>
    have e' : b = a := hA b (by rw [q]; simp)
    subst e'
    rw [ha] at e; cases e
    have d' : Data.seq vs.toArray _ = Data.dict es ep := d
    cases d'
  have nsK : ∀ {b : Addr} {m : Str -> Option Value}, s₁.heap.Ns b m -> (hidT s₁.heap H).Ns b m := fun {b m} ⟨o, es, ep, e, d, r⟩ => ⟨o, es, ep, base_of e (noA e d), d, r⟩
  have hKb : K.In (hidT s₁.heap H) := fun b o e => base_of (KX b o e) (by
   cases q : H b with
   | none => rfl
   | some u =>
    have e' : b = a := hA b (by rw [q]; simp)
    subst e'
    rw [hK (by rw [q]; simp)] at e; cases e)
  have hM : Mod K mg (hidT s₁.heap H) := ⟨hKb, nsK hns, ⟨mb, nsK hb, hbb⟩, let ⟨mc, h1, h2⟩ := hlim; ⟨mc, nsK h1, h2⟩⟩
  have e0 : Env0 P w K mg (hidT s₁.heap H) callerA [] s₁ H := ⟨rfl, hM, fun b o e => of_hidT e, Nat.le_of_eq (hidT_size _ _), trivial, fun b hb => absurd (show b ∈ ([] : List Addr) from hb) (by simp), hok, .of_eq hg⟩
  refine codeAny_mono ((F _ hKb (nsK hns)).run callerA [] s₁ H ⟨[.ref a], []⟩ [.ref a] [.ref a] _ _ hr e0 (hbind s₁ (.ref a)) (.cons rfl .nil) (hsp H hO hS)) fun r s' h => ?_
  cases r with
  | error e => exact (hCX H e s' h).elim
  | ok fl =>
   cases fl with
   | next => exact False.elim h
   | brk => exact False.elim h
   | cont => exact False.elim h
   | ret u =>
    obtain ⟨v, H', os, bare, un, hok', r', q⟩ := h
    have q' : v = .bl true := q
    subst q'
    obtain rfl : u = Value.bool true := r'
    refine ⟨rfl, OldK.of_keep fun b o e => ?_, os, bare⟩
    cases q : H b with
    | none => exact un.keep b o e q (by intro z; exact absurd (show b ∈ ([] : List Addr) from z) (by simp)) (by simp)
    | some u =>
     rcases hO b with z | ⟨ob, xs, z⟩
     . rw [q] at z; cases z
     . have z2 := un.frzs b ob _ z
       obtain ⟨e1, _⟩ := hok b _ z
       obtain ⟨e2, _⟩ := hok' b _ z2
       rw [e] at e1; cases e1
       exact e2
 cases hk : K.lookup a with
 | some o =>
  have e := KX a o hk
  rw [ha] at e
  cases e
  refine core (fun _ => none) (fun _ => .inl rfl) (.inr ⟨_, vs.toArray, _, hk, rfl, rfl, rfl, by rw [List.size_toArray, lenV]; exact hl, by simpa using rv⟩) (fun b u z => by have z' : (none : Option HO) = some u := z; cases z') (fun b z => absurd rfl z) fun z => absurd rfl z
 | none =>
  refine core (fun b => if b = a then some (.frz { cls := .type "list", data := .seq vs.toArray } (.lst (ns.map V.int))) else none) (fun b => ?_) (.inl (.inr ⟨{ cls := .type "list", data := .seq vs.toArray }, if_pos rfl⟩)) (fun b u z => ?_) (fun b z => ?_) fun _ => hk
  . by_cases hb : b = a
    . exact .inr ⟨_, _, if_pos hb⟩
    . exact .inl (if_neg hb)
  . by_cases hb : b = a
    . have z' := (if_pos hb).symm.trans z
      cases z'
      subst hb
      exact ⟨ha, by rw [List.length_map]; exact hl, vs, _, rv, ha⟩
    . have z' := (if_neg hb).symm.trans z
      cases z'
  . by_cases hb : b = a
    . exact hb
    . exact absurd (if_neg hb) z
end L2
namespace L2
open PySem PySem.Spec PyProof.Rows
noncomputable abbrev KOf {K : PySem.W.Frag} {h : Heap} (_ : K.In h) : PySem.W.Frag := K
theorem walk_of {l : PySem.W.OpenLaw} {n k : Nat} {q : Program} {loose : List Str} {XP : (Str -> Option Value) -> Heap -> Prop} {YP : World -> Heap -> Prop} {d : DefRec} {K : Params -> PySem.W.Frag} {CX : World -> CXT} {sp : World -> Sp} {x : Str}
  (hn : l.most = some n) (hn2 : n <= sizeLine) (hdf : d.params.defaults = []) (hr : Room k callerA)
  (hY : ∀ (w : World) (h : Heap), YP w h -> (K w.params).In h)
  (F : ∀ (w : World) (mg : Str -> Option Value) (fa : Addr) (h : Heap), (K w.params).In h -> h.Ns mainGlobals mg -> mg d.name = some (.ref fa) ->
   ∃ fd : FuncData, (∀ (s : Shared) (u : Value), BindsTo s fd ⟨[u], []⟩ [(x, u)]) /\
    ∀ base : Heap, (K w.params).In base -> base.Ns mainGlobals mg -> FnOk l.prog w (K w.params) mg base (CX w) k fa fd [x] (sp w))
  (hsp : ∀ (w : World) (H : Hp) (a : Addr) (ns : List Int), ns.length <= n -> Only H -> SqL (K w.params) H a (ns.map V.int) -> sp w [.ref a] H (fun v _ => v = .bl true) fun _ _ _ => False)
  (hCX : ∀ (w : World) (H : Hp) (s : Shared) (e : Value) (s' : Shared), CX w [] H s (fun _ _ _ => False) e s' -> False) :
  PySem.W.WalkO q loose XP YP l.row.toRowW d [] (fun f vs => PySem.call f vs) := by
 refine Att.attach_call hn hdf fun w s₀ s₁ mg mb fa o pm cd doc a vs ns G Y ho hd hcd hmg hobj hints hlen hg => ?_
 have KX := hY w _ Y
 obtain ⟨fd, hb, hF⟩ := F w mg fa _ KX G.T.g hmg
 exact law_call KX G.T.g G.T.b G.T.builtins G.T.nolimit hg hobj hints (Nat.le_trans hlen hn2) hr hF hb (fun H hO hS => hsp w H a ns hlen hO hS) fun H e s' => hCX w H s₁ e s'
end L2
/- THE LAST THEOREM (shape; LID, My.* are yours):
   My.Adr: a structure of the addresses that your layer names (classes, functions); My.Txt K t: a structure (Prop) of the equations over K;
   My.txt_mk : {K} {implicit addresses ..} (e1 : nsIn K mainGlobals "law" = some (some (.ref f))) (e2 : K.lookup f = some ⟨oc, od, .func (fnOf "law" "law" params body scope dV kV doc pm an cdv ct), sl⟩) (e3 : codeIn K cdv "law" = true) .. : ∃ t, My.Txt K t
set_option maxRecDepth 100000 in
set_option maxHeartbeats 0 in
theorem PySem.Challenge.cw_LID_holds : PySem.Challenge.rw_LID.Holds := by
 w_on; o_law; k_head; (case hw => w_witness2)
 k_fill
 refine L2.walk_of (l := PySem.Challenge.rw_LID) (n := 63) (k := 40) (x := "script") (CX := fun w => ..) (sp := fun _ => My.sp_law) rfl (by decide) rfl ⟨rfl, by decide, by decide⟩ (fun w h Y => PySem.W.kIn_of Y) ?F ?S ?C
 case F =>
  intro w mg fa h KX G hmg
  have T : ∃ t, My.Txt (L2.KOf KX) t := by
   dsimp only [L2.KOf]                          -- K must stand as «<heap const> w.params» for k_is
   refine' My.txt_mk ?e1 ?e2 ?e3 ..
   (case e1 => PySem.W.k_is)                    -- in the order: a name -> its address -> its object -> its parts
   (case e2 => PySem.W.k_is)
   ..
  obtain ⟨t, T⟩ := T
  have e0 := hmg.symm.trans (PySem.W.mg_of KX G T.law)
  cases e0                                       -- fa is the law's own address
  exact ⟨_, fun s u => .of_eq rfl, fun base kb nb => My.law_fn T kb nb⟩     -- if «.of_eq rfl» comes too early: refine' ⟨_, ?b, fun base kb nb => My.law_fn T kb nb⟩; exact fun s u => .of_eq rfl
 case S => exact fun w H a ns hl hO hS => ..
 case C => exact ..
(the tactic k_is has no namespace: write k_is) -/
namespace L2
open PySem PySem.Spec PyProof.Rows
noncomputable def inClass (s : Stmt) (j : Nat) : Stmt := match s with
 | .ClassDef _ _ _ body _ _ _ _ _ _ _ => body.getD j (.Pass ⟨0, 0, 0, 0⟩)
 | _ => .Pass ⟨0, 0, 0, 0⟩
noncomputable def defArgs (s : Stmt) : Arguments := match s with
 | .FunctionDef _ a _ _ _ _ _ _ _ _ => a
 | _ => { posonlyargs := [], args := [], vararg := none, kwonlyargs := [], kw_defaults := [], kwarg := none, defaults := [] }
noncomputable def defBody (s : Stmt) : List Stmt := match s with
 | .FunctionDef _ _ b _ _ _ _ _ _ _ => b
 | _ => []
noncomputable def defScope (s : Stmt) : Scope := match s with
 | .FunctionDef _ _ _ _ _ _ sc _ _ _ => sc
 | _ => { kind := .function, names := [], isGenerator := false, isCoroutine := false }
noncomputable abbrev CX0 : CXT := fun _ _ _ _ _ _ => False
noncomputable abbrev E0 : XK := fun _ _ _ => False
theorem pass0 {X : Cx} : Passes CX0 X E0 := fun _ _ _ _ _ _ _ h => h.elim
structure Fun (K : PySem.W.Frag) (x qual : Str) (st : Stmt) (f : Addr) (fd : FuncData) : Prop where
 ex : ∃ (oc : Value) (od : Option Addr) (kV doc pm : Value) (an : Option Addr) (cdv ct : Value) (osl : Array (Option Value)),
  fd = PySem.W.fnOf x qual (defArgs st) (defBody st) (defScope st) .none kV doc pm an cdv ct /\ K.lookup f = some ⟨oc, od, .func fd, osl⟩ /\ PySem.W.codeIn K cdv qual = true
 kp : PySem.W.keepIn K (.ref f) = true
section
variable {P : Program} {w : World} {K : PySem.W.Frag} {mg : Str -> Option Value} {base : Heap}
theorem Fun.ok {x qual : Str} {st : Stmt} {f : Addr} {fd : FuncData} {N ps : List Str} {k : Nat} {sp : Sp} (F : Fun K x qual st f fd) (S : FnScope N ps (defScope st)) (len : ∀ vs H Q E, sp vs H Q E -> vs.length = ps.length)
  (hbody : ∀ (cdv : Value) (A : Around) (outer : List Env) (s : Shared) (H : Hp) (vs : List V) (Q : VK) (E : XK), Room k (A.deeper (envOfC qual (defScope st) s.heap.objs.size f cdv)) -> sp vs H Q E ->
   ∃ t, PSs (cxOf CX0 P w K mg base N qual (defScope st) f cdv A outer s H E).nox (defBody st) t /\ t { nx := fun _ H' => Q .non H', rt := Q } (start N vs) H) : FnOk P w K mg base CX0 (k + 1) f fd ps sp := by
 obtain ⟨oc, od, kV, doc, pm, an, cdv, ct, osl, rfl, lk, hcd⟩ := F.ex
 refine fn_of lk hcd S len fun A outer s H vs Q E hr hsp => ?_
 obtain ⟨t, h, q⟩ := hbody cdv A outer s H vs Q E hr hsp
 exact ⟨t, h.nox, q⟩
theorem Fun.binds {x qual : Str} {st : Stmt} {f : Addr} {fd : FuncData} {ps : List Str} (F : Fun K x qual st f fd)
  (h : ∀ (kV doc pm : Value) (an : Option Addr) (cdv ct : Value) (us : List Value), us.length = ps.length -> bindArgs (PySem.W.fnOf x qual (defArgs st) (defBody st) (defScope st) .none kV doc pm an cdv ct) ⟨us, []⟩ = pure (ps.zip us)) : Binds K fd ps [] := by
 obtain ⟨oc, od, kV, doc, pm, an, cdv, ct, osl, rfl, lk, hcd⟩ := F.ex
 exact .all (h kV doc pm an cdv ct)
theorem fun_mk {x qual : Str} {st : Stmt} {f : Addr} {oc : Value} {od an : Option Addr} {osl : Array (Option Value)} {kV doc pm cdv ct : Value} (l : K.lookup f = some ⟨oc, od, .func (PySem.W.fnOf x qual (defArgs st) (defBody st) (defScope st) .none kV doc pm an cdv ct), osl⟩)
  (c : PySem.W.codeIn K cdv qual = true) (k : PySem.W.keepIn K (.ref f) = true) : Fun K x qual st f (PySem.W.fnOf x qual (defArgs st) (defBody st) (defScope st) .none kV doc pm an cdv ct) := ⟨⟨oc, od, kV, doc, pm, an, cdv, ct, osl, rfl, l, c⟩, k⟩
end
section
variable {X : Cx}
theorem pv (i : Nat) {x : Str} {pos : Pos} (hN : X.N[i]? = some x := by rfl) (hv : Vis X.env.scope x := by first | exact Or.inl rfl | exact Or.inr (Or.inl rfl) | exact Or.inr (Or.inr rfl)) (hd : (x == ("__debug__" : Str)) = false := by decide)
  (hcd : (x == ("__classdict__" : Str)) = false := by decide) : PE X (.Name x pos) (tVar i) := pe_var hN hv hd hcd
end
noncomputable def Same (H H' : Hp) : Prop := ∀ b o, H b = some o -> H' b = some o
theorem Same.refl (H : Hp) : Same H H := fun _ _ h => h
theorem Same.trans {H H1 H2 : Hp} (a : Same H H1) (b : Same H1 H2) : Same H H2 := fun c o h => b c o (a c o h)
theorem Same.free {H H' : Hp} (e : Same H H') {l : Addr} (h : H' l = Option.none) : H l = Option.none := by
 cases q : H l with
 | none => rfl
 | some o =>
  rw [e l o q] at h
  cases h
theorem Same.seq {K : PySem.W.Frag} {H H' : Hp} {a : Addr} {xs : List V} (e : Same H H') (h : SqL K H a xs) : SqL K H' a xs := by
 rcases h with (h | ⟨o, h⟩) | h
 . exact .inl (.inl (e _ _ h))
 . exact .inl (.inr ⟨o, e _ _ h⟩)
 . exact .inr h
end L2
namespace L2
open PySem PySem.Spec PyProof.Rows
theorem closure_go (env : Env) : ∀ (names : List (Str × NameKind)) (acc : List (Str × Addr)), (∀ y ∈ names, y.2 = .free -> ∃ c, env.cells.lookup y.1 = some c) -> (∀ x c, acc.lookup x = some c -> env.cells.lookup x = some c) ->
  ∃ cl, (forIn names acc fun y (cs : List (Str × Addr)) => if (y.2 == .free) = true then (do let c <- cellOf env y.1; pure (ForInStep.yield ((y.1, c) :: cs))) else pure (ForInStep.yield cs) : Sem (List (Str × Addr))) = pure cl /\
   (∀ x c, cl.lookup x = some c -> env.cells.lookup x = some c) /\ (∀ y ∈ names, y.2 = .free -> (cl.lookup y.1).isSome = true) /\ (∀ x, (acc.lookup x).isSome = true -> (cl.lookup x).isSome = true)
 | [], acc, _, ha => ⟨acc, by simp only [List.forIn_nil], ha, (fun _ h => nomatch h), (fun _ h => h)⟩
 | (n, k) :: r, acc, h, ha => by
  have hr : ∀ y ∈ r, y.2 = .free -> ∃ c, env.cells.lookup y.1 = some c := fun y hy => h y (List.mem_cons_of_mem _ hy)
  by_cases hk : k = .free
  . subst hk
    obtain ⟨c, hc⟩ := h (n, .free) List.mem_cons_self rfl
    have ha' : ∀ x c', ((n, c) :: acc).lookup x = some c' -> env.cells.lookup x = some c' := fun x c' e => by
     rw [List.lookup_cons] at e
     cases hx : x == n with
     | true =>
      rw [hx] at e
      cases e
      rw [eq_of_beq hx]
      exact hc
     | false =>
      rw [hx] at e
      exact ha x c' e
    obtain ⟨cl, e1, e2, e3, e4⟩ := closure_go env r ((n, c) :: acc) hr ha'
    have up : ∀ x, (((n, c) :: acc).lookup x).isSome = true -> (cl.lookup x).isSome = true := e4
    refine ⟨cl, ?_, e2, fun y hy hf => ?_, fun x hx => up x ?_⟩
    . rw [List.forIn_cons]
      have ec : cellOf env n = pure c := by unfold cellOf; rw [hc]
      simp only [beq_self_eq_true, if_true, ec]
      exact e1
    . rcases List.mem_cons.mp hy with rfl | hy
      . exact up n (by rw [List.lookup_cons]; simp)
      . exact e3 y hy hf
    . rw [List.lookup_cons]
      cases x == n <;> simp [hx]
  . obtain ⟨cl, e1, e2, e3, e4⟩ := closure_go env r acc hr ha
    refine ⟨cl, ?_, e2, fun y hy hf => ?_, e4⟩
    . rw [List.forIn_cons]
      have hb : (k == NameKind.free) = false := by simpa using hk
      simp only [hb, Bool.false_eq_true, if_false]
      exact e1
    . rcases List.mem_cons.mp hy with rfl | hy
      . exact absurd hf hk
      . exact e3 y hy hf
theorem closure_of {scope : Scope} {env : Env} (h : ∀ y ∈ scope.names, y.2 = .free -> ∃ c, env.cells.lookup y.1 = some c) :
  ∃ cl, closureFor scope env = pure cl /\ (∀ x c, cl.lookup x = some c -> env.cells.lookup x = some c) /\ (∀ y ∈ scope.names, y.2 = .free -> (cl.lookup y.1).isSome = true) := by
 obtain ⟨cl, e1, e2, e3, _⟩ := closure_go env scope.names [] h (fun x c e => by simp at e)
 refine ⟨cl, ?_, e2, e3⟩
 show ((forIn scope.names [] fun y (cs : List (Str × Addr)) => if (y.2 == .free) = true then (do let c <- cellOf env y.1; pure (ForInStep.yield ((y.1, c) :: cs))) else pure (ForInStep.yield cs) : Sem (List (Str × Addr))) >>= pure) = _
 rw [e1]
 rfl
theorem relabel_free {env : Env} : ∀ {names : List (Str × NameKind)} {x : Str}, (∀ y ∈ names, y.2 ≠ .cell) ->
  ((names.map fun (n, k) => if (k == NameKind.free && env.scope.kind == .function && env.kindOf n == some .cell) then (n, NameKind.cell) else (n, k)).lookup x = some .cell \/
   (names.map fun (n, k) => if (k == NameKind.free && env.scope.kind == .function && env.kindOf n == some .cell) then (n, NameKind.cell) else (n, k)).lookup x = some .free) ->
  (x, NameKind.free) ∈ names
 | [], _, _, h => by simp at h
 | (n, k) :: r, x, hc, h => by
  have ih := @relabel_free env r x (fun y hy => hc y (List.mem_cons_of_mem _ hy))
  have hk := hc (n, k) List.mem_cons_self
  by_cases hx : (x == n) = true
  . have e : x = n := eq_of_beq hx
    subst e
    by_cases hf : k = .free
    . subst hf; exact List.mem_cons_self
    . exfalso
      have hb : (k == NameKind.free) = false := by simpa using hf
      simp only [List.map_cons, hb, Bool.false_and, Bool.false_eq_true, if_false, List.lookup_cons, beq_self_eq_true] at h
      rcases h with h | h
      . exact hk (Option.some.inj h)
      . exact hf (Option.some.inj h)
  . have hx' : (x == n) = false := by simpa using hx
    refine List.mem_cons_of_mem _ (ih ?_)
    rw [List.map_cons] at h
    have hd : ∀ (k' : NameKind) (l : List (Str × NameKind)), List.lookup x ((n, k') :: l) = List.lookup x l := fun k' l => by rw [List.lookup_cons, hx']
    by_cases hc2 : (k == NameKind.free && env.scope.kind == .function && env.kindOf n == some .cell) = true
    . have e : (if (k == NameKind.free && env.scope.kind == .function && env.kindOf n == some .cell) = true then (n, NameKind.cell) else (n, k)) = (n, NameKind.cell) := if_pos hc2
      simp only [e, hd] at h
      exact h
    . have e : (if (k == NameKind.free && env.scope.kind == .function && env.kindOf n == some .cell) = true then (n, NameKind.cell) else (n, k)) = (n, k) := if_neg hc2
      simp only [e, hd] at h
      exact h
noncomputable def blk (X : Cx) (bs nb : List Str) (scope : Scope) (cl : List (Str × Addr)) (C : Addr) (fp : List Addr) (s : Shared) (H : Hp) (pins : List (Addr × Obj)) : Cx where
 prog := X.prog
 w := X.w
 K := X.K
 mg := X.mg
 base := X.base
 A := X.A
 N := bs ++ nb
 s₀ := s
 H₀ := H
 env := compEnvC scope cl C X.env
 outer := X.stack
 stack := X.stack
 ex := fp
 fn := fun _ => false
 calm := X.calm
 pn := X.pn ++ pins
 xe := fun _ _ => False
structure BlkOk (X : Cx) (bs nb : List Str) (scope : Scope) : Prop where
 kind : scope.kind = .function
 nocell : ∀ y ∈ scope.names, y.2 ≠ .cell
 names : ∀ y ∈ scope.names, y.2 = .local -> scope.names.lookup y.1 = some .local
 vis : ∀ y ∈ scope.names, y.2 = .free -> X.env.scope.names.lookup y.1 = some .cell \/ X.env.scope.names.lookup y.1 = some .free
 apart : ∀ x ∈ nb, ∀ y ∈ scope.names, y.1 = x -> y.2 ≠ .local
 len : nb.length = X.N.length
 nms : ∀ (j : Nat) (x : Str), nb[j]? = some x -> X.N[j]? = some x \/ ∀ y ∈ scope.names, y.1 ≠ x
noncomputable def blkChk (N nb : List Str) (fsc sc : Scope) : Bool :=
 (decide (nb.length = N.length) && (nb.zip N).all fun p => decide (p.1 = p.2) || sc.names.all fun y => !decide (y.1 = p.1)) && ((decide (sc.kind = .function) && sc.names.all fun y => !decide (y.2 = .cell)) && (sc.names.all fun y => !decide (y.2 = .local) || decide (sc.names.lookup y.1 = some .local)) &&
  (sc.names.all fun y => !decide (y.2 = .free) || (decide (fsc.names.lookup y.1 = some .cell) || decide (fsc.names.lookup y.1 = some .free))) && nb.all fun x => sc.names.all fun y => !decide (y.1 = x) || !decide (y.2 = .local))
theorem blk_of {X : Cx} {bs nb : List Str} {scope : Scope} (h : blkChk X.N nb X.env.scope scope = true) : BlkOk X bs nb scope := by
 unfold blkChk at h
 simp only [Bool.and_eq_true, List.all_eq_true, Bool.or_eq_true, Bool.not_eq_true', decide_eq_true_eq, decide_eq_false_iff_not] at h
 obtain ⟨⟨h6, h7⟩, ⟨⟨⟨h1, h2⟩, h3⟩, h4⟩, h5⟩ := h
 refine ⟨h1, h2, fun y hy e => ?_, fun y hy e => ?_, fun x hx y hy e1 e2 => ?_, h6, fun j x hj => ?_⟩
 . rcases h3 y hy with q | q
   . exact absurd e q
   . exact q
 . rcases h4 y hy with q | q
   . exact absurd e q
   . exact q
 . rcases h5 x hx y hy with q | q
   . exact q e1
   . exact q e2
 . have hl : j < nb.length := (List.getElem?_eq_some_iff.mp hj).1
   have hN : X.N[j]? = some (X.N[j]'(by omega)) := List.getElem?_eq_getElem _
   have hz : (nb.zip X.N)[j]? = some (x, X.N[j]'(by omega)) := List.getElem?_zip_eq_some.mpr ⟨hj, hN⟩
   rcases h7 _ (List.mem_of_getElem? hz) with q | q
   . left; rw [hN]; exact congrArg some q.symm
   . right; exact q
section
variable {X : Cx} {bs nb : List Str} {scope : Scope} {cl : List (Str × Addr)} {C : Addr} {fp : List Addr} {pins : List (Addr × Obj)} {σ : St} {H : Hp} {s : Shared}
theorem blk_ok (I : Inv X pins σ H s) (B : BlkOk X bs nb scope) (c1 : ∀ x c, cl.lookup x = some c -> X.env.cells.lookup x = some c) (c2 : ∀ y ∈ scope.names, y.2 = .free -> (cl.lookup y.1).isSome = true)
  (hC : s.heap.objs.size <= C) (hf : ∀ b ∈ fp, FpOk X pins H b) (hlt : ∀ b ∈ fp, b < s.heap.objs.size) : (blk X bs nb scope cl C fp s H pins).Ok where
 mod := I.ok.mod
 kind := B.kind
 glob := I.ok.glob
 blt := I.ok.blt
 above := hC
 inj := fun x y c h1 h2 => I.ok.inj x y c (c1 x c h1) (c1 y c h2)
 has := fun x hx => by
  have hm := relabel_free (env := X.env) B.nocell hx
  exact Option.isSome_iff_exists.mp (c2 (x, .free) hm rfl)
 cab := fun x c h => absurd h (by intro z; cases z)
 hd := I.ok.hd
 frames := I.ok.frames
 stk := .inl rfl
 exf := fun b hb => ⟨Nat.ne_of_lt (Nat.lt_of_lt_of_le (hlt b hb) hC), fun x c e => (hf b hb).2.2.2.2.1 x c (c1 x c e)⟩
 bs := I.bs
 bsz := Nat.le_trans I.ok.bsz I.sz
 noex := fun b o e hb => by
  rcases (hf b hb).2.2.2.1 with z | z
  . exact I.ok.noex b o e z
  . exact absurd (Nat.lt_of_lt_of_le (Heap.lt_size e) (Nat.le_trans I.ok.bsz z)) (Nat.lt_irrefl _)
 exfs := fun b hb hs => by
  rcases List.mem_cons.mp (I.stkSub b hs) with z | z
  . exact (hf b hb).2.1 z
  . exact (hf b hb).2.2.1 z
 funs := I.stack
 frf := I.stkFree
noncomputable def blkSt (bs : List Str) (σ : St) : St := List.replicate bs.length none ++ σ
theorem blk_inv {h' : Heap} {t' : Nat} {m : Str -> Option Value} (I : Inv X pins σ H s) (B : BlkOk X bs nb scope) (c1 : ∀ x c, cl.lookup x = some c -> X.env.cells.lookup x = some c) (c2 : ∀ y ∈ scope.names, y.2 = .free -> (cl.lookup y.1).isSome = true)
  (hC : s.heap.objs.size <= C) (hf : ∀ b ∈ fp, FpOk X pins H b) (hlt : ∀ b ∈ fp, b < s.heap.objs.size)
  (k : ∀ b u, s.heap.get? b = some u -> h'.get? b = some u) (hn : h'.Ns C m) : Inv (blk X bs nb scope cl C fp s H pins) [] (blkSt bs σ) H { s with heap := h', toks := t' } := by
 refine ⟨blk_ok I B c1 c2 hC hf hlt, rfl, I.bare, Un.kept k, ⟨m, hn, fun i x v e1 e2 e3 => ?_⟩, fun x c e => ?_, I.hok.fresh hC, fun x c e => I.freeC x c (c1 x c e), fun p hp => ?_, I.hok.kept k, ?_⟩
 . have e1' : (bs ++ nb)[i]? = some x := e1
   unfold blkSt at e2
   by_cases hi : i < bs.length
   . rw [List.getElem?_append_left (by simpa using hi), List.getElem?_replicate, if_pos hi] at e2
     cases e2
   . rw [List.getElem?_append_right (by simpa using hi), List.length_replicate] at e2
     rw [List.getElem?_append_right (by simpa using hi)] at e1'
     have hxN : x ∈ nb := List.mem_of_getElem? e1'
     have hm : (x, NameKind.free) ∈ scope.names := by
      rcases e3 with e3 | e3
      . exfalso
        have e3' : ((scope.names.map fun (n, k) => if (k == NameKind.free && X.env.scope.kind == .function && X.env.kindOf n == some .cell) then (n, NameKind.cell) else (n, k))).lookup x = some .local := e3
        obtain ⟨⟨n, kd⟩, hy, he⟩ := List.mem_map.mp (PySem.mem_of_lookup e3')
        by_cases hcc : (kd == NameKind.free && X.env.scope.kind == .function && X.env.kindOf n == some .cell) = true
        . simp only [hcc, if_true] at he
          cases he
        . simp only [hcc, if_false] at he
          cases he
          exact B.apart x hxN (x, .local) hy rfl rfl
      . exact relabel_free (env := X.env) B.nocell e3
     have hv : Vis X.env.scope x := .inr (B.vis _ hm rfl)
     have e1' : X.N[i - bs.length]? = some x := (B.nms _ x e1').resolve_right fun z => z _ hm rfl
     obtain ⟨m0, _, hl⟩ := I.loc
     obtain ⟨u, r, l⟩ := hl _ x v e1' e2 hv
     refine ⟨u, r, ?_⟩
     have hkx : (blk X bs nb scope cl C fp s H pins).env.kindOf x = some .cell \/ (blk X bs nb scope cl C fp s H pins).env.kindOf x = some .free := by
      rcases e3 with e3 | e3
      . exfalso
        have e3' : ((scope.names.map fun (n, k) => if (k == NameKind.free && X.env.scope.kind == .function && X.env.kindOf n == some .cell) then (n, NameKind.cell) else (n, k))).lookup x = some .local := e3
        obtain ⟨⟨n, kd⟩, hy, he⟩ := List.mem_map.mp (PySem.mem_of_lookup e3')
        by_cases hcc : (kd == NameKind.free && X.env.scope.kind == .function && X.env.kindOf n == some .cell) = true
        . simp only [hcc, if_true] at he
          cases he
        . simp only [hcc, if_false] at he
          cases he
          exact B.apart x hxN (x, .local) hy rfl rfl
      . exact e3
     rcases l with ⟨hk, _⟩ | ⟨_, c, hc, hcell⟩
     . exfalso
       have hk' : X.env.scope.names.lookup x = some .local := hk
       rcases B.vis _ hm rfl with z | z
       . rw [show X.env.scope.names.lookup x = some .cell from z] at hk'; cases hk'
       . rw [show X.env.scope.names.lookup x = some .free from z] at hk'; cases hk'
     . obtain ⟨c', hc'⟩ := Option.isSome_iff_exists.mp (c2 _ hm rfl)
       have : c' = c := Option.some.inj ((c1 _ _ hc').symm.trans hc)
       subst this
       obtain ⟨o, ho, hd⟩ := hcell
       exact .inr ⟨hkx, c', hc', o, k _ _ ho, hd⟩
 . obtain ⟨v, o, ho, hd⟩ := I.cell x c (c1 x c e)
   exact ⟨v, o, k _ _ ho, hd⟩
 . have hp' : p ∈ X.pn ++ pins := by simpa [blk] using hp
   obtain ⟨e, n, ne, nf, d⟩ := I.pin p hp'
   refine ⟨k _ _ e, n, Nat.ne_of_lt (Nat.lt_of_lt_of_le (Heap.lt_size e) hC), fun z => ?_, d⟩
   rcases List.mem_cons.mp (I.stkSub _ z) with z | z
   . exact ne z
   . exact nf z
 . unfold blkSt
   show _ = (bs ++ nb).length
   rw [List.length_append, List.length_append, List.length_replicate, I.len, B.len]
theorem Inv.track {D : Addr} {o : HO} (I : Inv X pins σ H s) (hn : H D = none) (hL : D ≠ X.env.locals) (h1 : D ∈ X.ex \/ X.s₀.heap.objs.size <= D) (h2 : ∀ x c, X.env.cells.lookup x = some c -> c ≠ D) (h3 : ∀ p ∈ X.pn ++ pins, p.1 ≠ D)
  (new : ObjOk X.prog X.w (upd H D o) s.heap D o) : Inv X pins σ (upd H D o) s := by
 have hup : ∀ b u, H b = some u -> upd H D o b = some u := fun b u e => by rw [upd_ne (ne_of_none e hn)]; exact e
 have := I.step (H' := upd H D o) (h' := s.heap) (g' := s.gens) (d' := s.drawn) (t' := s.toks) (ch := [D]) (fun b hb => ?_) (fun b ob _ _ _ e _ => e) (fun b ob _ _ _ e _ => ⟨ob.slots, e⟩) (fun b ob hc e n => ?_) (fun b ob _ e => ⟨ob, e⟩)
  (fun b xs e => hup b _ e) (fun b ob u e => hup b _ e) (fun b ps e => ⟨#[], by rw [hup b _ e]; simp⟩) (fun m hm => hm) (fun b u e => ?_) I.bare
 . exact this
 . have e : b = D := by simpa using hb
   subst e
   exact ⟨h1, hL, h2, h3⟩
 . rw [upd_ne (by simpa using hc)]; exact n
 . by_cases hb : b = D
   . subst hb
     rw [upd_same] at e
     cases e
     exact new
   . rw [upd_ne hb] at e
     exact (I.hok b u e).stay (fun _ _ _ q => q) (fun c q => hup c _ q) fun c xs q => hup c _ q
end
noncomputable def PIfs (X : Cx) (ifs : List Expr) (t : TT) : Prop :=
 ∀ (pins : List (Addr × Obj)) (s : Shared) (σ : St) (H : Hp) (Q : Bool -> Hp -> Prop) (E : Value -> Shared -> Prop), (∀ e s', X.xe e s' -> E e s') -> Inv X pins σ H s -> t σ H Q ->
  wpAny (model X.prog X.w) X.A (forIn ifs true fun c r => if r = true then do let ok <- isTrue c X.env (eval c X.env); pure (ForInStep.yield ok) else pure (ForInStep.yield r)) (TP X pins σ Q) E s
noncomputable def tIfs0 : TT := fun _ H Q => Q true H
theorem pifs_nil {X : Cx} : PIfs X [] tIfs0 := fun _ _ _ H _ _ _ I h => wpAny_tests_nil ⟨H, I, h⟩
section
variable {prog : Program} {w : World} {A : Around} {R : Result -> Shared -> Prop} {s : Shared}
theorem compLoop_go {elt target iter : Expr} {ifs : List Expr} {scope : Scope} {pos : Pos} {it acc : Value} {env : Env} (I : Nat -> Shared -> Prop)
  (turn : ∀ n s, I n s -> wpAny (model prog w) A (pyNext it) (fun r s₁ => match r with
   | none => R (.ok .next) s₁
   | some v => wpAny (model prog w) A (letOwnedTupleGo target it v) (fun _ s₀ => wpAny (model prog w) A (assign target env v) (fun _ s₂ =>
     wpAny (model prog w) A (forIn ifs true fun c r => if r = true then do let ok <- isTrue c env (eval c env); pure (ForInStep.yield ok) else pure (ForInStep.yield r)) (fun ok s₃ =>
      if ok = true then wpAny (model prog w) A (eval elt env) (fun x s₄ =>
       wpAny (model prog w) A (call (.builtin "list.append") [acc, x]) (fun _ s₅ => ∃ m, m < n /\ I m s₅) (notedBy (model prog w) A env fun e s' => R (.error e) s') s₄) (notedBy (model prog w) A env fun e s' => R (.error e) s') s₃
      else ∃ m, m < n /\ I m s₃) (notedBy (model prog w) A env fun e s' => R (.error e) s') s₂) (notedBy (model prog w) A env fun e s' => R (.error e) s') s₀) (notedBy (model prog w) A env fun e s' => R (.error e) s') s₁) (notedBy (model prog w) A env fun e s' => R (.error e) s') s)
  (n : Nat) (h : I n s) :
  codeAny (model prog w) A (.compLoop (.ListComp elt [⟨target, iter, ifs, 0⟩] scope pos) 0 it acc env) R s := by
 refine codeAny_loop rfl I (fun n s hI => ?_) n h
 show wpAny _ A ((compTurn (.ListComp elt [⟨target, iter, ifs, 0⟩] scope pos) 0 it acc env).onRaise (fun x => do noteFrame x env; theTreesLotGoes x)) _ _ s
 refine wpAny_noted ?_
 rw [compTurn_list]
 refine wpAny_bind (wpAny_standAt (wpAny_bind (wpAny_mono (turn n s hI) (fun r s₁ h₁ => ?_) fun _ _ h' => h')))
 cases r with
 | none => exact wpAny_pure h₁
 | some v =>
  refine wpAny_bind (wpAny_mono h₁ (fun _ s₀ h₀ => ?_) fun _ _ h' => h')
  refine wpAny_bind (wpAny_mono h₀ (fun _ s₂ h₂ => wpAny_bind (wpAny_mono h₂ (fun ok s₃ h₃ => ?_) fun _ _ h' => h')) fun _ _ h' => h')
  cases ok with
  | false => exact wpAny_pure ⟨rfl, h₃⟩
  | true =>
   exact wpAny_bind (wpAny_bind (wpAny_mono h₃ (fun x s₄ h₄ => wpAny_bind (wpAny_mono h₄ (fun _ s₅ h₅ => wpAny_pure (wpAny_pure ⟨rfl, h₅⟩)) fun _ _ h' => h')) fun _ _ h' => h'))
end
noncomputable def GOwn (n : Nat) (g : TG) : Prop := ∀ x σ H Q, g x σ H Q -> g x σ H fun σ2 H2 => Q σ2 H2 /\ σ2.length = σ.length /\ ∀ j, n <= j -> σ2[j]? = σ[j]?
noncomputable def GsOwn (n : Nat) (g : TGs) : Prop := ∀ x σ H Q, g x σ H Q -> g x σ H fun σ2 H2 => Q σ2 H2 /\ σ2.length = σ.length /\ ∀ j, n <= j -> σ2[j]? = σ[j]?
theorem gown_name {n i : Nat} (h : i < n := by decide) : GOwn n (gName i) := fun x σ H Q q => ⟨q, by simp, fun j hj => by rw [List.getElem?_set_ne (by omega)]⟩
theorem gsown_nil {n : Nat} : GsOwn n gNil := fun x σ H Q q => ⟨q.1, q.2, rfl, fun _ _ => rfl⟩
theorem gsown_name {n i : Nat} {u : TGs} (hu : GsOwn n u) (h : i < n := by decide) : GsOwn n (gCons (gName i) u) := fun x σ H Q q => by
 obtain ⟨v, r, e, q⟩ := q
 refine ⟨v, r, e, ?_⟩
 have z := hu r (σ.set i (some v)) H Q q
 have e1 : ∀ σ2 : St, (σ2.length = (σ.set i (some v)).length /\ ∀ j, n <= j -> σ2[j]? = (σ.set i (some v))[j]?) -> σ2.length = σ.length /\ ∀ j, n <= j -> σ2[j]? = σ[j]? := fun σ2 ⟨a, b⟩ => by
  refine ⟨by simpa using a, fun j hj => ?_⟩
  have := b j hj
  rwa [List.getElem?_set_ne (by omega)] at this
 show u r (σ.set i (some v)) H fun σ2 H2 => Q σ2 H2 /\ σ2.length = σ.length /\ ∀ j, n <= j -> σ2[j]? = σ[j]?
 have ef : (fun (σ2 : St) (H2 : Hp) => Q σ2 H2 /\ σ2.length = (σ.set i (some v)).length /\ ∀ j, n <= j -> σ2[j]? = (σ.set i (some v))[j]?) = fun σ2 H2 => Q σ2 H2 /\ σ2.length = σ.length /\ ∀ j, n <= j -> σ2[j]? = σ[j]? := by
  funext σ2 H2
  apply propext
  constructor
  . rintro ⟨a, b⟩; exact ⟨a, e1 σ2 b⟩
  . rintro ⟨a, b, c⟩
    refine ⟨a, by simpa using b, fun j hj => ?_⟩
    rw [List.getElem?_set_ne (by omega)]
    exact c j hj
 rw [<- ef]
 exact z
theorem gown_tup {n : Nat} {K : PySem.W.Frag} {m : Nat} {t : TGs} (h : GsOwn n t) : GOwn n (gTup K m t) := fun x σ H Q q => by
 obtain ⟨a, xs, e, hs, hl, q⟩ := q
 exact ⟨a, xs, e, hs, hl, h xs σ H Q q⟩
noncomputable def cWalk (J : It) (bs : List Str) (g : TG) (tt : TT) (te : TE) (σ : St) (Q : VK) (H1 : Hp) : Prop := ∃ (n : Nat) (W : Nat -> List V -> Hp -> Prop), n <= sizeLine /\ W 0 [] H1 /\ ∀ i ys H, W i ys H ->
 ((J.stop i H /\ ∀ p, H p = none -> Q (.ref p) (upd H p (.lst ys))) \/ (J.go i H /\ i < n /\ ∀ x H', J.yld i H x H' -> g x (blkSt bs σ) H' fun σ2 H2 => tt σ2 H2 fun b H3 => if b = true then te σ2 H3 (fun y H4 => W (i + 1) (ys ++ [y]) H4) else W (i + 1) ys H3))
noncomputable def tComp (bs : List Str) (wi : TI) (g : TG) (tt : TT) (te : TE) : TE := fun σ H Q => wi σ H fun J H1 => cWalk J bs g tt te σ Q H1
theorem Vals.snoc {xs : List V} {us : List Value} {x : V} {u : Value} (r : Vals xs us) (h : RelV x u) : Vals (xs ++ [x]) (us ++ [u]) := r.append (.cons h .nil)
theorem wp_comp {X : Cx} {bs nb : List Str} {elt tg iter : Expr} {ifs : List Expr} {scope : Scope} {pos : Pos} {wi : TI} {g : TG} {tt : TT} {te : TE} {use : Option (Value -> Sem Unit)} {R : Value -> Shared -> Prop} (hc : X.calm = true) (B : BlkOk X bs nb scope) (hi : PI X tg iter wi)
  (go : GOwn bs.length g) (hg : ∀ cl C fp s H pins, PG (blk X bs nb scope cl C fp s H pins) tg g) (ht : ∀ cl C fp s H pins, PIfs (blk X bs nb scope cl C fp s H pins) ifs tt) (he : ∀ cl C fp s H pins, PE (blk X bs nb scope cl C fp s H pins) elt te)
  (hs : ∀ x, foldedSetIterable iter X.env x = pure x) (pins : List (Addr × Obj)) (s : Shared) (σ : St) (H : Hp) (Q : VK) (I : Inv X pins σ H s) (h : tComp bs wi g tt te σ H Q)
  (hfin : ∀ (D C : Addr) (s' : Shared) (H' : Hp) (f : Flow), Inv X pins σ H' s' -> Q (.ref D) H' -> FpOk X pins H' C -> (∃ m, s'.heap.Ns C m) -> compPost (model X.prog X.w) X.A X.xe use R (.ref D) C (.ok f) s') :
  wpAny (model X.prog X.w) X.A (comprehension (.ListComp elt [⟨tg, iter, ifs, 0⟩] scope pos) scope X.env (firstIterPos [⟨tg, iter, ifs, 0⟩] pos) (newList []) (firstAsync [⟨tg, iter, ifs, 0⟩]) (firstIter [⟨tg, iter, ifs, 0⟩] X.env) use) R X.xe s := by
 obtain ⟨cl, hcl, c1, c2⟩ := closure_of (scope := scope) (env := X.env) (fun y hy hf => I.ok.has y.1 (B.vis y hy hf))
 refine wpAny_comprehension_free (use := use) rfl hs hcl B.kind B.names (thn (hi pins s σ H _ I h) fun v s1 h1 => thn h1 fun itv s2 h2 => ?_)
 obtain ⟨it, fp, tn, J, H2, e, I2, T, st2, f2, n, W, hn, w0, turn⟩ := h2
 subst e
 have hlt : ∀ b ∈ fp, b < s2.heap.objs.size := fun b hb => by obtain ⟨o, e, _⟩ := T.obj _ _ st2 b hb; exact Heap.lt_size e
 refine wpAny_newObj_type (wpAny_newFunctionEnv B.nocell (by intro y hy; simp at hy) (fun h₁ hns₁ hsb₁ => ?_) B.kind)
 dsimp only at hns₁ hsb₁ ⊢
 generalize hH2 : s2.heap.push { cls := .type "list", dict := none, data := .seq ([] : List Value).toArray } = G2 at hns₁ hsb₁ ⊢
 have hCs : G2.objs.size = s2.heap.objs.size + 1 := by rw [<- hH2, Heap.size_push]
 have hDC : s2.heap.objs.size ≠ G2.objs.size := by rw [hCs]; exact Nat.ne_of_lt (Nat.lt_succ_self _)
 have hCle : s2.heap.objs.size <= G2.objs.size := by rw [hCs]; exact Nat.le_succ _
 have old : ∀ b o, s2.heap.get? b = some o -> h₁.get? b = some o := fun b o e =>
  hsb₁.extBut b o (by rw [hCs]; exact Nat.ne_of_lt (Nat.lt_succ_of_lt (Heap.lt_size e))) (Heap.get?_push_of_some _ (hH2 ▸ Heap.get?_push_of_some _ e))
 have hacc : h₁.get? s2.heap.objs.size = some { cls := .type "list", data := .seq ([] : List Value).toArray 0 } := hsb₁.extBut _ _ hDC (Heap.get?_push_of_some _ (hH2 ▸ Heap.get?_push_size _ rfl))
 have hDn : ∀ b ∈ fp, b ≠ s2.heap.objs.size := fun b hb => Nat.ne_of_lt (hlt b hb)
 have J0 := blk_inv (bs := bs) (t' := s2.toks + ([] : List (Str × Value)).length) I2 B c1 c2 hCle f2 hlt old hns₁
 generalize hX : blk X bs nb scope cl G2.objs.size fp s2 H2 pins = X' at J0
 have fpB : ∀ {H' : Hp} {pl : List (Addr × Obj)}, (∀ b ∈ fp, H' b = none) -> (∀ p ∈ pl, p.1 ∉ fp) -> ∀ b ∈ fp, FpOk X' pl H' b := fun {H' pl} hz hp b hb => by
  subst hX
  refine ⟨hz b hb, Nat.ne_of_lt (Nat.lt_of_lt_of_le (hlt b hb) hCle), J0.ok.exfs b hb, .inl hb, fun x c e => (f2 b hb).2.2.2.2.1 x c (c1 x c e), fun p hq => ?_⟩
  rcases List.mem_append.mp hq with z | z
  . exact (f2 b hb).2.2.2.2.2 p z
  . intro e; exact hp p z (e ▸ hb)
 have Dfs : s2.heap.objs.size ∉ X'.fs := fun hb => by
  subst hX
  rcases List.mem_cons.mp (I2.stkSub _ hb) with z | z
  . exact absurd I2.lt (by rw [<- z]; exact Nat.lt_irrefl _)
  . exact I2.nofs (Nat.le_refl _) z
 have Dcell : ∀ x c, X.env.cells.lookup x = some c -> c ≠ s2.heap.objs.size := fun x c e z => by
  obtain ⟨v, q⟩ := I2.cell x c e
  exact absurd q.lt (by rw [z]; exact Nat.lt_irrefl _)
 have Dpin : ∀ p ∈ X.pn ++ pins, p.1 ≠ s2.heap.objs.size := fun p hp => Nat.ne_of_lt (Heap.lt_size (I2.pin p hp).1)
 have Dloc : s2.heap.objs.size ≠ X'.env.locals := by subst hX; exact hDC
 have pinD : ∀ {σ' : St} {H' : Hp} {s' : Shared} {o : Obj}, Inv X' [] σ' H' s' -> s'.heap.get? s2.heap.objs.size = some o -> H' s2.heap.objs.size = none -> (∀ v, o.data ≠ .cell v) -> Inv X' [(s2.heap.objs.size, o)] σ' H' s' := fun {σ' H' s' o} I' e hz hd =>
  I'.pins_of fun p hp => by
   have ep : p = (s2.heap.objs.size, o) := by simpa using hp
   subst ep
   exact ⟨e, hz, Dloc, Dfs, hd⟩
 have loop : ∀ s₃ : Shared, s₃ = { s2 with heap := h₁, toks := s2.toks + ([] : List (Str × Value)).length } ->
   codeAny (model X.prog X.w) X.A (.compLoop (.ListComp elt [⟨tg, iter, ifs, 0⟩] scope pos) 0 (.ref it) (.ref s2.heap.objs.size) (compEnvC scope cl G2.objs.size X.env))
    (compPost (model X.prog X.w) X.A X.xe use R (.ref s2.heap.objs.size) G2.objs.size) s₃ := by
  rintro s₃ rfl
  refine compLoop_go (fun k s' => ∃ (i : Nat) (ys : List V) (us : List Value) (z : Nat) (H' : Hp), k = n - i + 1 /\ i <= n /\ us.length <= i /\ Vals ys us /\ Inv X' [(s2.heap.objs.size, { cls := .type "list", data := .seq us.toArray z })] (blkSt bs σ) H' s' /\ tn i s'.heap /\ (∀ b ∈ fp, H' b = none) /\ W i ys H') ?_ (n - 0 + 1)
   ⟨0, [], [], 0, H2, rfl, Nat.zero_le _, Nat.le_refl _, .nil, pinD J0 hacc (I2.hok.fresh (Nat.le_refl _)) (fun v z => by cases z), T.keep _ _ _ st2 fun b _ o e => old b o e, fun b hb => (f2 b hb).1, w0⟩
  rintro k s3 ⟨i, ys, us, z, H3, rfl, hin, hul, rv, I3, st3, fr3, w3⟩
  have npl : ∀ p ∈ ([(s2.heap.objs.size, { cls := .type "list", data := .seq us.toArray z })] : List (Addr × Obj)), p.1 ∉ fp := fun p hp hm => by
   have ep : p = (s2.heap.objs.size, { cls := .type "list", data := .seq us.toArray z }) := by simpa using hp
   subst ep
   exact hDn _ hm rfl
  have eP : X'.prog = X.prog := by subst hX; rfl
  have eW : X'.w = X.w := by subst hX; rfl
  have eK : X'.K = X.K := by subst hX; rfl
  have eA : X'.A = X.A := by subst hX; rfl
  have eC : X'.calm = true := by subst hX; exact hc
  rcases turn i ys H3 w3 with ⟨stop, fin⟩ | ⟨gon, hlt', step⟩
  . have hd := T.done X' eP eW eK eC i _ s3 (blkSt bs σ) H3 (notedBy (model X.prog X.w) X.A (compEnvC scope cl G2.objs.size X.env) fun e s' => compPost (model X.prog X.w) X.A X.xe use R (.ref s2.heap.objs.size) G2.objs.size (.error e) s') I3 (fpB fr3 npl) st3 stop
    rw [eA] at hd
    refine thn hd fun r s4 ⟨hr, I4⟩ => ?_
    subst hr
    obtain ⟨m, hm, _⟩ := I4.loc
    have pD := I4.pin (s2.heap.objs.size, { cls := .type "list", data := .seq us.toArray z }) (List.mem_append_right _ (List.mem_singleton.mpr rfl))
    have hCl : X'.env.locals = G2.objs.size := by subst hX; rfl
    have hm' : s4.heap.Ns G2.objs.size m := hCl ▸ hm
    have hC0 : H3 G2.objs.size = none := hCl ▸ I4.free
    have I5 : Inv X pins σ H3 s4 := by
     have hos : s4.os = s2.os := by subst hX; exact I4.os
     have hun : Un (frs X.stack) fp H2 H3 s2.heap s4.heap := by subst hX; exact I4.base
     have hhk : HOk X.prog X.w H3 s4.heap := by subst hX; exact I4.hok
     exact I2.call' hos hun hhk I4.bare fun b hb => ⟨(f2 b hb).2.2.2.1, (f2 b hb).2.1, (f2 b hb).2.2.2.2.1, (f2 b hb).2.2.2.2.2⟩
    have hys : ys.length <= sizeLine := by rw [rv.length]; omega
    refine hfin s2.heap.objs.size G2.objs.size s4 _ _ (I5.track (o := .lst ys) pD.2.1 (Nat.ne_of_gt I2.lt) (.inr I2.sz) Dcell Dpin ⟨hys, us, z, rv, pD.1⟩) (fin _ pD.2.1) ⟨?_, Nat.ne_of_gt (Nat.lt_of_lt_of_le I2.lt hCle), I2.nofs hCle, .inr (Nat.le_trans I2.sz hCle), fun x c e q => ?_, fun p hp q => ?_⟩ ⟨m, hm'⟩
    . rw [upd_ne (Ne.symm hDC)]; exact hC0
    . obtain ⟨v, q2⟩ := I2.cell x c e
      exact absurd (Nat.lt_of_lt_of_le q2.lt (by rw [q]; exact hCle)) (Nat.lt_irrefl _)
    . exact absurd (Nat.lt_of_lt_of_le (Heap.lt_size (I2.pin p hp).1) (by rw [q]; exact hCle)) (Nat.lt_irrefl _)
  . have hd := T.item X' eP eW eK eC i _ s3 (blkSt bs σ) H3 (notedBy (model X.prog X.w) X.A (compEnvC scope cl G2.objs.size X.env) fun e s' => compPost (model X.prog X.w) X.A X.xe use R (.ref s2.heap.objs.size) G2.objs.size (.error e) s') I3 (fpB fr3 npl) st3 gon
    rw [eA] at hd
    refine thn hd fun r s4 ⟨u, hr, h4⟩ => ?_
    subst hr
    refine thn h4 fun _ s5 ⟨x, H5, I5, r5, y5, st5, fr5⟩ => ?_
    have I5' := I5.pinned (fpB fr5 npl) (T.obj _ _ st5)
    have hq5 := go x (blkSt bs σ) H5 _ (step x H5 y5)
    have hgx : PG X' tg g := by subst hX; exact hg _ _ _ _ _ _
    have htx : PIfs X' ifs tt := by subst hX; exact ht _ _ _ _ _ _
    have hex : PE X' elt te := by subst hX; exact he _ _ _ _ _ _
    have hxe : ∀ e s', X'.xe e s' -> False := fun e s' q => by subst hX; exact q
    have eE : X'.env = compEnvC scope cl G2.objs.size X.env := by subst hX; rfl
    have w6 := hgx _ s5 (blkSt bs σ) H5 x u _ I5' r5 hq5
    rw [eP, eW, eA, eE] at w6
    refine wpAny_mono w6 (fun _ s6 ⟨σ6, H6, I6, q6, l6, e6⟩ => ?_) fun _ _ q => (hxe _ _ q).elim
    have w7 := htx _ s6 σ6 H6 _ (notedBy (model X.prog X.w) X.A (compEnvC scope cl G2.objs.size X.env) fun e s' => compPost (model X.prog X.w) X.A X.xe use R (.ref s2.heap.objs.size) G2.objs.size (.error e) s') (fun _ _ q => (hxe _ _ q).elim) I6 q6
    rw [eP, eW, eA, eE] at w7
    refine thn w7 fun ok s7 ⟨H7, I7, q7⟩ => ?_
    have weak : ∀ {pl : List (Addr × Obj)} {H' : Hp} {s' : Shared}, Inv X' pl σ6 H' s' -> Inv X' pl (blkSt bs σ) H' s' := fun {pl H' s'} I' => I'.weak l6.symm fun j v hj => by
     by_cases hjn : j < bs.length
     . unfold blkSt at hj
       rw [List.getElem?_append_left (by simpa using hjn), List.getElem?_replicate, if_pos hjn] at hj
       cases hj
     . rw [e6 j (Nat.le_of_not_lt hjn)]; exact hj
    have unp : ∀ {σ' : St} {H' : Hp} {s' : Shared}, Inv X' ([(s2.heap.objs.size, ({ cls := .type "list", data := .seq us.toArray z } : Obj))] ++ pinsAt fp s5.heap) σ' H' s' ->
      (∀ b ∈ fp, ∀ o, s5.heap.get? b = some o -> s'.heap.get? b = some o) /\ (∀ b ∈ fp, H' b = none) /\ s'.heap.get? s2.heap.objs.size = some { cls := .type "list", data := .seq us.toArray z } /\ H' s2.heap.objs.size = none := fun {σ' H' s'} I' => by
     refine ⟨fun b hb o e => (I'.pin (b, o) (List.mem_append_right _ (List.mem_append_right _ (mem_pinsAt hb e)))).1, fun b hb => ?_, ?_, ?_⟩
     . obtain ⟨o, e, d⟩ := T.obj _ _ st5 b hb
       exact (I'.pin (b, o) (List.mem_append_right _ (List.mem_append_right _ (mem_pinsAt hb e)))).2.1
     . exact (I'.pin (s2.heap.objs.size, { cls := .type "list", data := .seq us.toArray z }) (List.mem_append_right _ (List.mem_append_left _ (List.mem_singleton.mpr rfl)))).1
     . exact (I'.pin (s2.heap.objs.size, { cls := .type "list", data := .seq us.toArray z }) (List.mem_append_right _ (List.mem_append_left _ (List.mem_singleton.mpr rfl)))).2.1
    cases ok with
    | false =>
     obtain ⟨k1, k2, k3, k4⟩ := unp I7
     refine ⟨n - (i + 1) + 1, by omega, i + 1, ys, us, z, H7, rfl, hlt', by omega, rv, pinD (weak (I7.pins_of fun p hp => nomatch hp)) k3 k4 (fun v q => by cases q), T.keep _ _ _ st5 k1, k2, ?_⟩
     simpa using q7
    | true =>
     have q7' : te σ6 H7 fun y H4 => W (i + 1) (ys ++ [y]) H4 := by simpa using q7
     have w8 := hex _ s7 σ6 H7 _ I7 q7'
     rw [eP, eW, eA, eE] at w8
     refine wpAny_mono w8 (fun uy s8 ⟨y, H8, I8, r8, q8⟩ => ?_) fun _ _ q => (hxe _ _ q).elim
     obtain ⟨k1, k2, k3, k4⟩ := unp I8
     refine append_at (hsz := by rw [List.size_toArray]; omega) k3 fun h9 sb9 g9 => ?_
     have I8' : Inv X' [] (blkSt bs σ) H8 s8 := weak (I8.pins_of fun p hp => nomatch hp)
     have eS : X'.s₀ = s2 := by subst hX; rfl
     have ePn : X'.pn = X.pn ++ pins := by subst hX; rfl
     have eCl : X'.env.cells = cl := by subst hX; rfl
     have I9 : Inv X' [] (blkSt bs σ) H8 { s8 with heap := h9 } := I8'.turned (t' := s8.toks) (it := s2.heap.objs.size) (fun b o hb e => sb9.extBut b o hb e) k4 Dloc (.inr (by rw [eS]; exact Nat.le_refl _))
      (fun x c e => Dcell x c (c1 x c (by rw [<- eCl]; exact e))) (fun p hp => Dpin p (by rw [ePn] at hp; simpa using hp))
     refine ⟨n - (i + 1) + 1, by omega, i + 1, ys ++ [y], us ++ [uy], z + 1, H8, rfl, hlt', by rw [List.length_append, List.length_singleton]; omega, rv.snoc r8, pinD I9 ?_ k4 (fun v q => by cases q), T.keep _ _ _ st5 fun b hb o e => ?_, k2, q8⟩
     . rw [g9, List.push_toArray]
     . exact sb9.extBut b o (hDn b hb) (k1 b hb o e)
 exact codeAny_compStart_list (loop _ rfl) (T.self _ 0 _ _ _ (T.keep _ _ _ st2 fun b _ o e => old b o e) (loop _ rfl))
theorem pe_comp {X : Cx} {bs nb : List Str} {elt tg iter : Expr} {ifs : List Expr} {scope : Scope} {pos : Pos} {wi : TI} {g : TG} {tt : TT} {te : TE} (hc : X.calm = true) (B : BlkOk X bs nb scope) (hi : PI X tg iter wi)
  (go : GOwn bs.length g) (hg : ∀ cl C fp s H pins, PG (blk X bs nb scope cl C fp s H pins) tg g) (ht : ∀ cl C fp s H pins, PIfs (blk X bs nb scope cl C fp s H pins) ifs tt) (he : ∀ cl C fp s H pins, PE (blk X bs nb scope cl C fp s H pins) elt te)
  (hs : ∀ x, foldedSetIterable iter X.env x = pure x := by intro _; rfl) : PE X (.ListComp elt [⟨tg, iter, ifs, 0⟩] scope pos) (tComp bs wi g tt te) := by
 intro pins s σ H Q I h
 rw [eval_ListComp]
 refine wp_comp (use := none) hc B hi go hg ht he hs pins s σ H Q I h fun D C s' H' f I' q fc ⟨m, hm⟩ => ⟨m, hm, fun h'' sb => ?_⟩
 exact ⟨.ref D, H', I'.turned (t' := s'.toks) (it := C) (fun b o hb e => sb.extBut b o hb e) fc.1 fc.2.1 fc.2.2.2.1 fc.2.2.2.2.1 fc.2.2.2.2.2, rfl, q⟩
theorem ps_setC {X : Cx} {bs nb : List Str} {elt tg iter : Expr} {ifs : List Expr} {scope : Scope} {cpos pos pos' : Pos} {wi : TI} {g : TG} {tt : TT} {te : TE} {i : Nat} {x : Str} (hN : X.N.Nodup) (hi' : X.N[i]? = some x) (hx : Loc X.env.scope x) (hc : X.calm = true) (B : BlkOk X bs nb scope) (hi : PI X tg iter wi)
  (go : GOwn bs.length g) (hg : ∀ cl C fp s H pins, PG (blk X bs nb scope cl C fp s H pins) tg g) (ht : ∀ cl C fp s H pins, PIfs (blk X bs nb scope cl C fp s H pins) ifs tt) (he : ∀ cl C fp s H pins, PE (blk X bs nb scope cl C fp s H pins) elt te)
  (hsw : swapsWith (.ListComp elt [⟨tg, iter, ifs, 0⟩] scope cpos) (some (.Name x pos')) pos.line X.env = pure true := by rfl) (hf : X.fn x = true \/ X.env.scope.names.lookup x = some .local := by first | exact .inl rfl | exact .inr rfl | assumption)
  (hs : ∀ x, foldedSetIterable iter X.env x = pure x := by intro _; rfl) : PS X (.Assign [.Name x pos'] (.ListComp elt [⟨tg, iter, ifs, 0⟩] scope cpos) pos) (tAsg (tComp bs wi g tt te) (gName i)) := by
 intro pins s σ H D I h
 rw [exec_Assign_Name_used _ _ _ _ hsw]
 refine wpAny_bind (wpAny_standAt ?_)
 rw [arm_evalThenUse_ListComp]
 refine wpAny_bind (wpAny_bind (thn (wp_comp (R := fun _ s' => SP X pins D .next s') (use := some (assign (.Name x pos') X.env)) hc B hi go hg ht he hs pins s σ H _ I h fun D' C s' H' f I' q fc ⟨m, hm⟩ => ?_) fun _ s' hsp => wpAny_pure (wpAny_pure hsp)))
 obtain ⟨oC, es, ep, ho, hd, hr⟩ := id hm
 have I2 : Inv X ((C, oC) :: pins) σ H' s' := I'.pins_of fun p hp => by
  rcases List.mem_cons.mp hp with rfl | hp
  . exact ⟨ho, fc.1, fc.2.1, fc.2.2.1, fun v z => by rw [hd] at z; cases z⟩
  . exact I'.pin p (List.mem_append_right _ hp)
 refine thn (pg_name (pos := pos') hN hi' hx hf ((C, oC) :: pins) s' σ H' (.ref D') (.ref D') D.nx I2 rfl q) fun _ s'' ⟨σ', H'', I3, q3⟩ => ?_
 have pC := I3.pin (C, oC) (List.mem_append_right _ List.mem_cons_self)
 have I4 : Inv X pins σ' H'' s'' := I3.pins_of fun p hp => I3.pin p (List.mem_append_right _ (List.mem_cons_of_mem _ hp))
 refine ⟨m, ⟨oC, es, ep, pC.1, hd, hr⟩, fun h'' sb => ⟨σ', H'', ?_, q3⟩⟩
 exact I4.turned (t' := s''.toks) (it := C) (fun b o hb e => sb.extBut b o hb e) pC.2.1 fc.2.1 fc.2.2.2.1 fc.2.2.2.2.1 fc.2.2.2.2.2
end L2
namespace L2
open PySem PySem.Spec PyProof.Rows
section
variable {prog : Program} {w : World} {A : Around} {E : Value -> Shared -> Prop} {s : Shared}
noncomputable def ItK (kd : Bool) (h : Heap) (i l : Addr) (k : Nat) : Prop := match kd with
 | true => h.IsTupleIter i l k
 | false => h.IsListIter i l k
noncomputable def OfK (kd : Bool) (h : Heap) (i l : Addr) (k : Nat) (xs : Array Value) : Prop := match kd with
 | true => h.IsTupleIter i l k /\ h.IsTuple l xs
 | false => h.IsListIter i l k /\ h.IsList l xs
theorem ItK.at {kd : Bool} {h h' : Heap} {i l : Addr} {k : Nat} (x : ItK kd h i l k) (e : ∀ o, h.get? i = some o -> h'.get? i = some o) : ItK kd h' i l k := by
 cases kd
 . exact Heap.IsListIter.at (show h.IsListIter i l k from x) e
 . exact Heap.IsTupleIter.at (show h.IsTupleIter i l k from x) e
theorem ItK.obj {kd : Bool} {h : Heap} {i l : Addr} {k : Nat} (x : ItK kd h i l k) : ∃ o, h.get? i = some o /\ ∀ v, o.data ≠ .cell v := by
 cases kd
 . obtain ⟨o, e, _, d⟩ := (show h.IsListIter i l k from x)
   exact ⟨o, e, fun v z => by rw [d] at z; cases z⟩
 . obtain ⟨o, e, _, d⟩ := (show h.IsTupleIter i l k from x)
   exact ⟨o, e, fun v z => by rw [d] at z; cases z⟩
theorem OfK.kept {kd : Bool} {h h' : Heap} {i l : Addr} {k : Nat} {xs : Array Value} (x : OfK kd h i l k xs) (e : ∀ b o, b = i \/ b = l -> h.get? b = some o -> h'.get? b = some o) : OfK kd h' i l k xs := by
 cases kd
 . obtain ⟨x, ⟨o, eo, r⟩⟩ := (show h.IsListIter i l k /\ h.IsList l xs from x)
   exact ⟨x.at fun o q => e i o (.inl rfl) q, ⟨o, e l o (.inr rfl) eo, r⟩⟩
 . obtain ⟨x, ⟨o, eo, r⟩⟩ := (show h.IsTupleIter i l k /\ h.IsTuple l xs from x)
   exact ⟨x.at fun o q => e i o (.inl rfl) q, ⟨o, e l o (.inr rfl) eo, r⟩⟩
theorem nextT_item {it t : Addr} {i : Nat} {xs : Array Value} {x : Value} {Q : Value -> Shared -> Prop} (hit : s.heap.IsTupleIter it t i) (ht : s.heap.IsTuple t xs) (hx : xs[i]? = some x)
  (hQ : ∀ h', h'.IsTupleIter it t (i + 1) -> Heap.SameBut it s.heap h' -> Q x { s with heap := h' }) : wpAny (model prog w) A (Builtin.SmallTypes.nextOf (.ref it)) Q E s := by
 obtain ⟨oi, ei, ci, di⟩ := id hit
 obtain ⟨ot, et, _, n, dt⟩ := ht
 unfold Builtin.SmallTypes.nextOf
 refine wpAny_bind (wpAny_callSpecial?_slot (name := Str.ofString "__next__") hit.typeIs F.slot_tuple_iterator_next
  (wpAny_call_entry F.slot_tuple_iterator_next hit.typeIs F.entry_tuple_iterator_next ?_ (F.args_tuple_iterator_next_1 _)))
 show wpAny _ _ (field (.ref it) 0 >>= _) _ _ s
 refine wpAny_bind (wpAny_field ei di (x := .ref t) rfl ?_)
 show wpAny _ _ (if (Value.ref t == Value.none) = true then _ else _) _ _ s
 rw [if_neg (show ¬ ((Value.ref t == Value.none) = true) from Bool.false_ne_true)]
 show wpAny _ _ (field (.ref it) 1 >>= _) _ _ s
 refine wpAny_bind (wpAny_field ei di (x := .int i 0) rfl ?_)
 show wpAny _ _ (seqItems? (.ref t) >>= _) _ _ s
 refine wpAny_bind (wpAny_seqItems et dt ?_)
 simp only [Int.toNat_natCast, hx]
 refine wpAny_bind (wpAny_setField ei di (by simp) (wpAny_pure ⟨x, rfl, wpAny_pure (hQ _ ?_ (Heap.SameBut.update ..))⟩))
 refine ⟨_, Heap.get?_update_self _ ei (Obj.isFreed_of_fields (Obj.data_mapFields di _)), (Obj.cls_mapFields ..).trans ci, ?_⟩
 rw [Obj.data_mapFields di]
 simp [rawInt]
theorem nextT_end {it t : Addr} {i : Nat} {xs : Array Value} {Q : Value -> Shared -> Prop} (hh : A.handled = none) (hit : s.heap.IsTupleIter it t i) (ht : s.heap.IsTuple t xs) (hx : xs[i]? = none)
  (hE : ∀ h' e, Heap.ExtBut it s.heap h' -> (∃ o, h'.get? e = some o /\ o.cls = .type "StopIteration") -> E (.ref e) { s with heap := h' }) : wpAny (model prog w) A (Builtin.SmallTypes.nextOf (.ref it)) Q E s := by
 obtain ⟨oi, ei, ci, di⟩ := id hit
 obtain ⟨ot, et, _, n, dt⟩ := ht
 unfold Builtin.SmallTypes.nextOf
 refine wpAny_bind (wpAny_callSpecial?_slot (name := Str.ofString "__next__") hit.typeIs F.slot_tuple_iterator_next
  (wpAny_call_entry F.slot_tuple_iterator_next hit.typeIs F.entry_tuple_iterator_next ?_ (F.args_tuple_iterator_next_1 _)))
 show wpAny _ _ (field (.ref it) 0 >>= _) _ _ s
 refine wpAny_bind (wpAny_field ei di (x := .ref t) rfl ?_)
 show wpAny _ _ (if (Value.ref t == Value.none) = true then _ else _) _ _ s
 rw [if_neg (show ¬ ((Value.ref t == Value.none) = true) from Bool.false_ne_true)]
 show wpAny _ _ (field (.ref it) 1 >>= _) _ _ s
 refine wpAny_bind (wpAny_field ei di (x := .int i 0) rfl ?_)
 show wpAny _ _ (seqItems? (.ref t) >>= _) _ _ s
 refine wpAny_bind (wpAny_seqItems et dt ?_)
 simp only [Int.toNat_natCast, hx]
 refine wpAny_bind (wpAny_rule (wpAny_bind (wpAny_setField ei di (by simp) ?_)))
 show wpAny _ _ (newExc (.type "StopIteration") [] >>= _) _ _ _
 refine wpAny_bind ?_
 simp only [newExc, newTuple]
 refine wpAny_bind (wpAny_newObj_type ?_ (by size_fits))
 refine wpAny_bind (m := firstArgMember _ _) (wpAny_of_eq (a := Value.none) (by first | rfl | (simp only [firstArgMember]; rfl)) ?_)
 refine wpAny_newObj_type ?_ (by size_fits)
 simp only [raiseNew]
 refine wpAny_bind (wpAny_handled ?_)
 rw [hh]
 refine wpAny_throw (hE _ _ (fun b o hb e => ?_) ⟨_, Heap.get?_push_size _ rfl, rfl⟩)
 exact Heap.get?_push_of_some _ (Heap.get?_push_of_some _ ((Heap.SameBut.update ..).extBut b o hb e))
theorem nextS_item {kd : Bool} {it l : Addr} {i : Nat} {xs : Array Value} {x : Value} {Q : Value -> Shared -> Prop} (h : OfK kd s.heap it l i xs) (hne : l ≠ it) (hx : xs[i]? = some x)
  (hQ : ∀ h', ItK kd h' it l (i + 1) -> Heap.SameBut it s.heap h' -> Q x { s with heap := h' }) : wpAny (model prog w) A (Builtin.SmallTypes.nextOf (.ref it)) Q E s := by
 cases kd
 . exact wpAny_nextOf_list_item h.1 h.2 hx fun h' a' sb => hQ h' a' sb
 . exact nextT_item h.1 h.2 hx fun h' a' sb => hQ h' a' sb
theorem nextS_end {kd : Bool} {it l : Addr} {i : Nat} {xs : Array Value} {Q : Value -> Shared -> Prop} (hh : A.handled = none) (h : OfK kd s.heap it l i xs) (hx : xs[i]? = none)
  (hE : ∀ h' e, Heap.ExtBut it s.heap h' -> (∃ o, h'.get? e = some o /\ o.cls = .type "StopIteration") -> E (.ref e) { s with heap := h' }) : wpAny (model prog w) A (Builtin.SmallTypes.nextOf (.ref it)) Q E s := by
 cases kd
 . exact wpAny_nextOf_list_end hh h.1 h.2 hx hE
 . exact nextT_end hh h.1 h.2 hx hE
theorem zipS_item {k1 k2 : Bool} {z TI TO i1 i2 l1 l2 : Addr} {k : Nat} {xs ys : Array Value} {x y a b : Value} {Q : Option Value -> Shared -> Prop} (D : ZipApart z TI TO i1 i2 l1 l2)
  (hz : IsZip s.heap z TI TO .none) (hTI : IsPair s.heap TI (.ref i1) (.ref i2)) (hTO : IsPair s.heap TO a b) (h1 : OfK k1 s.heap i1 l1 k xs) (h2 : OfK k2 s.heap i2 l2 k ys) (hx : xs[k]? = some x) (hy : ys[k]? = some y)
  (hQ : ∀ h', IsZip h' z TI TO (rawInt s.heap.objs.size) -> IsPair h' TO x y -> ItK k1 h' i1 l1 (k + 1) -> ItK k2 h' i2 l2 (k + 1) -> IsPair h' s.heap.objs.size x y ->
   (∀ c o, c ≠ z -> c ≠ TO -> c ≠ i1 -> c ≠ i2 -> s.heap.get? c = some o -> h'.get? c = some o) -> Q (some (.ref s.heap.objs.size)) { s with heap := h' }) :
  wpAny (model prog w) A (pyNext (.ref z)) Q E s := by
 have hT : s.TypeIs (.ref z) "zip" := ⟨_, hz, rfl⟩
 unfold pyNext
 refine wpAny_bind (wpAny_attempt (wpAny_callSpecial?_slot (name := Str.ofString "__next__") hT F.slot_zip_next (wpAny_call_entry F.slot_zip_next hT F.entry_zip_next ?_ (F.args_zip_next_1 _))))
 show wpAny _ _ (field (.ref z) 2 >>= _) _ _ _
 refine wpAny_bind (wpAny_field hz rfl (x := .bool false) rfl ?_)
 show wpAny _ _ (field (.ref z) 3 >>= _) _ _ _
 refine wpAny_bind (wpAny_field hz rfl (x := .ref TI) rfl (wpAny_bind (wpAny_seqItems hTI rfl ?_)))
 show wpAny _ _ (Builtin.SmallTypes.ownedTupleIsFree (.ref z) >>= _) _ _ _
 refine wpAny_bind ?_
 unfold Builtin.SmallTypes.ownedTupleIsFree
 refine wpAny_bind (wpAny_field hz rfl (x := .none) rfl (wpAny_pure ?_))
 simp only [if_true]
 refine wpAny_bind (wpAny_rule (wpAny_bind (wpAny_field hz rfl (x := .ref TO) rfl (wpAny_bind (wpAny_setField_rec hz (by simp) fun g1 z1 b1 => ?_)))))
 replace z1 : IsZip g1 z TI TO .ellipsis := z1
 refine wpAny_bind ?_
 simp only [List.zipIdx_cons, List.zipIdx_nil, List.forIn_cons, List.forIn_nil]
 refine wpAny_bind (wpAny_bind (wpAny_onRaise ?_))
 show wpAny _ _ (Builtin.SmallTypes.nextOf (.ref i1) >>= _) _ _ _
 have q1 : OfK k1 g1 i1 l1 k xs := h1.kept fun c o hc e => b1.extBut c o (by rcases hc with rfl | rfl; exact D.i1z; exact D.l1z) e
 refine wpAny_bind (nextS_item q1 D.l1i1 hx fun g2 p1 b2 => wpAny_pure ?_)
 have t2 : IsPair g2 TO a b := b2.extBut _ _ D.TOi1 (b1.extBut _ _ D.TOz hTO)
 refine wpAny_bind (wpAny_seqItems t2 rfl (wpAny_bind (wpAny_updateSeq_pair t2 fun g3 t3 b3 => ?_)))
 replace t3 : IsPair g3 TO x b := t3
 refine wpAny_bind (wpAny_letGo (wpAny_pure ?_))
 refine wpAny_bind (wpAny_bind (wpAny_onRaise ?_))
 show wpAny _ _ (Builtin.SmallTypes.nextOf (.ref i2) >>= _) _ _ _
 have q2 : OfK k2 g3 i2 l2 k ys := h2.kept fun c o hc e => by
  have n1 : c ≠ z := by rcases hc with rfl | rfl; exact D.i2z; exact D.l2z
  have n2 : c ≠ i1 := by rcases hc with rfl | rfl; exact D.i12.symm; exact D.l2i1
  have n3 : c ≠ TO := by rcases hc with rfl | rfl; exact D.TOi2.symm; exact D.l2TO
  exact b3.extBut c o n3 (b2.extBut c o n2 (b1.extBut c o n1 e))
 refine wpAny_bind (nextS_item q2 D.l2i2 hy fun g4 p2 b4 => wpAny_pure ?_)
 have t4 : IsPair g4 TO x b := b4.extBut _ _ D.TOi2 t3
 refine wpAny_bind (wpAny_seqItems t4 rfl (wpAny_bind (wpAny_updateSeq_pair t4 fun g5 t5 b5 => ?_)))
 replace t5 : IsPair g5 TO x y := t5
 refine wpAny_bind (wpAny_letGo (wpAny_pure (wpAny_pure (wpAny_bind (wpAny_seqItems t5 rfl (wpAny_bind (wpAny_newTuple ?_)))))))
 have sz : g5.objs.size = s.heap.objs.size := by rw [b5.1, b4.1, b3.1, b2.1, b1.1]
 have z5 : IsZip g5 z TI TO .ellipsis := b5.extBut _ _ D.TOz.symm (b4.extBut _ _ D.i2z.symm (b3.extBut _ _ D.TOz.symm (b2.extBut _ _ D.i1z.symm z1)))
 have k5 : ∀ c o, c ≠ z -> c ≠ TO -> c ≠ i1 -> c ≠ i2 -> s.heap.get? c = some o -> g5.get? c = some o := fun c o c1 c2 c3 c4 e =>
  b5.extBut _ _ c2 (b4.extBut _ _ c4 (b3.extBut _ _ c2 (b2.extBut _ _ c3 (b1.extBut _ _ c1 e))))
 have p1' : ItK k1 g5 i1 l1 (k + 1) := p1.at fun o e => b5.extBut _ _ D.TOi1.symm (b4.extBut _ _ D.i12 (b3.extBut _ _ D.TOi1.symm e))
 have p2' : ItK k2 g5 i2 l2 (k + 1) := p2.at fun o e => b5.extBut _ _ D.TOi2.symm e
 show wpAny _ _ (Builtin.SmallTypes.ownedTupleHandOut (.ref z) (.ref g5.objs.size) >>= _) _ _ _
 refine wpAny_bind ?_
 unfold Builtin.SmallTypes.ownedTupleHandOut
 have z6 : IsZip (g5.push { cls := .type "tuple", data := .seq #[x, y] }) z TI TO .ellipsis := Heap.get?_push_of_some _ z5
 refine wpAny_bind (wpAny_setField_rec z6 (by simp) fun g7 z7 b7 => ?_)
 replace z7 : IsZip g7 z TI TO (rawInt g5.objs.size) := z7
 refine wpAny_setField_rec z7 (by simp) fun g8 z8 b8 => ?_
 replace z8 : IsZip g8 z TI TO (rawInt g5.objs.size) := z8
 have up : ∀ c o, c ≠ z -> g5.get? c = some o -> g8.get? c = some o := fun c o c1 e => b8.extBut _ _ c1 (b7.extBut _ _ c1 (Heap.get?_push_of_some _ e))
 have nz : g5.objs.size ≠ z := Nat.ne_of_gt (Heap.lt_size z5)
 have t8 : IsPair g8 g5.objs.size x y := b8.extBut _ _ nz (b7.extBut _ _ nz (Heap.get?_push_size _ rfl))
 rw [sz] at z8 t8
 refine wpAny_pure ⟨_, rfl, wpAny_pure ?_⟩
 show Q (some (.ref g5.objs.size)) _
 rw [sz]
 exact hQ g8 z8 (up _ _ D.TOz t5) (p1'.at fun o e => up _ o D.i1z e) (p2'.at fun o e => up _ o D.i2z e) t8 fun c o c1 c2 c3 c4 e => up c o c1 (k5 c o c1 c2 c3 c4 e)
theorem zipS_end {k1 k2 : Bool} {z TI TO i1 i2 l1 l2 : Addr} {k : Nat} {xs ys : Array Value} {a b : Value} {Q : Option Value -> Shared -> Prop} (hh : A.handled = none) (D : ZipApart z TI TO i1 i2 l1 l2)
  (hz : IsZip s.heap z TI TO .none) (hTI : IsPair s.heap TI (.ref i1) (.ref i2)) (hTO : IsPair s.heap TO a b) (h1 : OfK k1 s.heap i1 l1 k xs) (h2 : OfK k2 s.heap i2 l2 k ys) (hend : xs[k]? = none \/ ys[k]? = none)
  (hQ : ∀ h', (∀ c o, c ≠ z -> c ≠ TO -> c ≠ i1 -> c ≠ i2 -> s.heap.get? c = some o -> h'.get? c = some o) -> Q none { s with heap := h' }) :
  wpAny (model prog w) A (pyNext (.ref z)) Q E s := by
 have hT : s.TypeIs (.ref z) "zip" := ⟨_, hz, rfl⟩
 unfold pyNext
 refine wpAny_bind (wpAny_attempt (wpAny_callSpecial?_slot (name := Str.ofString "__next__") hT F.slot_zip_next (wpAny_call_entry F.slot_zip_next hT F.entry_zip_next ?_ (F.args_zip_next_1 _))))
 have fin : ∀ (g : Heap) (e : Addr), (∀ c o, c ≠ z -> c ≠ TO -> c ≠ i1 -> c ≠ i2 -> s.heap.get? c = some o -> g.get? c = some o) -> (∃ o, g.get? e = some o /\ o.cls = .type "StopIteration") ->
   wpAny (model prog w) A (do if <- isInstance (.ref e) (.type "StopIteration") then pure none else throw (.ref e)) Q E { s with heap := g } := fun g e hk ⟨o, ho, hc⟩ =>
  wpAny_bind (wpAny_isInstance (T := "StopIteration") (b := true) ⟨o, ho, hc⟩ isSubtype_stop (wpAny_pure (hQ _ hk)))
 show wpAny _ _ (field (.ref z) 2 >>= _) _ _ _
 refine wpAny_bind (wpAny_field hz rfl (x := .bool false) rfl ?_)
 show wpAny _ _ (field (.ref z) 3 >>= _) _ _ _
 refine wpAny_bind (wpAny_field hz rfl (x := .ref TI) rfl (wpAny_bind (wpAny_seqItems hTI rfl ?_)))
 show wpAny _ _ (Builtin.SmallTypes.ownedTupleIsFree (.ref z) >>= _) _ _ _
 refine wpAny_bind ?_
 unfold Builtin.SmallTypes.ownedTupleIsFree
 refine wpAny_bind (wpAny_field hz rfl (x := .none) rfl (wpAny_pure ?_))
 simp only [if_true]
 refine wpAny_bind (wpAny_rule (wpAny_bind (wpAny_field hz rfl (x := .ref TO) rfl (wpAny_bind (wpAny_setField_rec hz (by simp) fun g1 z1 b1 => ?_)))))
 replace z1 : IsZip g1 z TI TO .ellipsis := z1
 refine wpAny_bind ?_
 simp only [List.zipIdx_cons, List.zipIdx_nil, List.forIn_cons, List.forIn_nil]
 refine wpAny_bind (wpAny_bind (wpAny_onRaise ?_))
 show wpAny _ _ (Builtin.SmallTypes.nextOf (.ref i1) >>= _) _ _ _
 have q1 : OfK k1 g1 i1 l1 k xs := h1.kept fun c o hc e => b1.extBut c o (by rcases hc with rfl | rfl; exact D.i1z; exact D.l1z) e
 cases hx : xs[k]? with
 | none =>
  refine wpAny_bind (nextS_end hh q1 hx fun g2 e b2 he => ?_)
  obtain ⟨oe, eo, ce⟩ := he
  have z2 : IsZip g2 z TI TO .ellipsis := b2 _ _ D.i1z.symm z1
  have ne : e ≠ z := fun q => by subst q; rw [z2] at eo; cases eo; simp at ce
  refine wpAny_setField_rec z2 (by simp) fun g3 _ b3 => fin g3 e (fun c o c1 _ c3 _ q => b3.extBut _ _ c1 (b2 _ _ c3 (b1.extBut _ _ c1 q))) ⟨oe, b3.extBut _ _ ne eo, ce⟩
 | some x =>
  have hy : ys[k]? = none := by
   rcases hend with h | h
   . rw [hx] at h; cases h
   . exact h
  refine wpAny_bind (nextS_item q1 D.l1i1 hx fun g2 p1 b2 => wpAny_pure ?_)
  have t2 : IsPair g2 TO a b := b2.extBut _ _ D.TOi1 (b1.extBut _ _ D.TOz hTO)
  refine wpAny_bind (wpAny_seqItems t2 rfl (wpAny_bind (wpAny_updateSeq_pair t2 fun g3 t3 b3 => ?_)))
  refine wpAny_bind (wpAny_letGo (wpAny_pure ?_))
  refine wpAny_bind (wpAny_bind (wpAny_onRaise ?_))
  show wpAny _ _ (Builtin.SmallTypes.nextOf (.ref i2) >>= _) _ _ _
  have q2 : OfK k2 g3 i2 l2 k ys := h2.kept fun c o hc e => by
   have n1 : c ≠ z := by rcases hc with rfl | rfl; exact D.i2z; exact D.l2z
   have n2 : c ≠ i1 := by rcases hc with rfl | rfl; exact D.i12.symm; exact D.l2i1
   have n3 : c ≠ TO := by rcases hc with rfl | rfl; exact D.TOi2.symm; exact D.l2TO
   exact b3.extBut c o n3 (b2.extBut c o n2 (b1.extBut c o n1 e))
  refine wpAny_bind (nextS_end hh q2 hy fun g4 e b4 he => ?_)
  obtain ⟨oe, eo, ce⟩ := he
  have z4 : IsZip g4 z TI TO .ellipsis := b4 _ _ D.i2z.symm (b3.extBut _ _ D.TOz.symm (b2.extBut _ _ D.i1z.symm z1))
  have ne : e ≠ z := fun q => by subst q; rw [z4] at eo; cases eo; simp at ce
  refine wpAny_setField_rec z4 (by simp) fun g5 _ b5 => fin g5 e (fun c o c1 c2 c3 c4 q => b5.extBut _ _ c1 (b4 _ _ c4 (b3.extBut _ _ c2 (b2.extBut _ _ c3 (b1.extBut _ _ c1 q))))) ⟨oe, b5.extBut _ _ ne eo, ce⟩
end
noncomputable def SqX (K : PySem.W.Frag) (H : Hp) (a : Addr) (xs : List V) : Prop := SqL K H a xs \/ SqT K H a xs
theorem SqX.ne {X : Cx} {pins : List (Addr × Obj)} {σ : St} {H : Hp} {s : Shared} {a b : Addr} {xs : List V} (I : Inv X pins σ H s) (h : SqX X.K H a xs) (f : FpOk X pins H b) : a ≠ b := by
 have tr : ∀ {u : HO}, Rd H a u -> a ≠ b := fun {u} r => by
  rcases r with r | ⟨o, r⟩
  . exact ne_of_none r f.1
  . exact ne_of_none r f.1
 have kk : ∀ {o : Obj}, X.K.lookup a = some o -> a ≠ b := fun {o} e z => by
  have eb : X.base.get? a = some o := I.ok.mod.kin a o e
  rcases f.2.2.2.1 with q | q
  . exact I.ok.noex a o eb (z ▸ q)
  . exact absurd (Nat.lt_of_lt_of_le (Heap.lt_size eb) (Nat.le_trans I.ok.bsz (by rw [z]; exact q))) (Nat.lt_irrefl _)
 rcases h with (r | ⟨o, _, _, e, _⟩) | (r | ⟨o, _, _, e, _⟩)
 . exact tr r
 . exact kk e
 . exact tr r
 . exact kk e
theorem notBoth {h : Heap} {a : Addr} {xs ys : Array Value} (h1 : h.IsList a xs) (h2 : h.IsTuple a ys) : False := by
 obtain ⟨o, e, c, _⟩ := h1
 obtain ⟨o', e', c', _⟩ := h2
 rw [e] at e'; cases e'
 rw [c] at c'
 exact absurd c' (by decide)
theorem Inv.seqX_inj {X : Cx} {pins : List (Addr × Obj)} {σ : St} {H : Hp} {s : Shared} {a : Addr} {xs ys : List V} (I : Inv X pins σ H s) (h : SqX X.K H a xs) (h' : SqX X.K H a ys) : xs = ys := by
 rcases h with h | h <;> rcases h' with h' | h'
 . exact I.list_inj h h'
 . obtain ⟨_, _, p, _⟩ := I.list h
   obtain ⟨_, _, q, _⟩ := I.tuple h'
   exact (notBoth p.isList q).elim
 . obtain ⟨_, _, p, _⟩ := I.list h'
   obtain ⟨_, _, q, _⟩ := I.tuple h
   exact (notBoth p.isList q).elim
 . exact I.tuple_inj h h'
theorem Inv.turnedL {X : Cx} {pins : List (Addr × Obj)} {σ : St} {H : Hp} {s : Shared} {h' : Heap} {t' : Nat} {ch : List Addr} (I : Inv X pins σ H s) (k : ∀ b o, b ∉ ch -> s.heap.get? b = some o -> h'.get? b = some o) (hn : ∀ b ∈ ch, FpOk X pins H b) : Inv X pins σ H { s with heap := h', toks := t' } := by
 have nit : ∀ b u, H b = some u -> b ∉ ch := fun b u e z => by rw [(hn b z).1] at e; cases e
 refine I.step (g' := s.gens) (d' := s.drawn) (ch := ch) (fun b hb => ?_) (fun b o _ _ hc e _ => k b o hc e) (fun b o _ _ hc e _ => ⟨o.slots, k b o hc e⟩) (fun _ _ _ _ n => n)
  (fun b o hc e => ⟨o, k b o hc e⟩) (fun _ _ e => e) (fun _ _ _ e => e) (fun b ps e => ⟨#[], by rw [e]; simp⟩) (fun m hm => ?_) (fun b u e => ?_) I.bare
 . obtain ⟨_, f1, _, f3, f4, f5⟩ := hn b hb
   exact ⟨f3, f1, f4, f5⟩
 . obtain ⟨o, es, ep, ho, r⟩ := hm
   exact ⟨o, es, ep, k _ o (fun z => (hn _ z).2.1 rfl) ho, r⟩
 . refine (I.hok b u e).stay (fun c v hc q => k c v ?_ q) (fun _ q => q) fun _ _ q => q
   rcases hc with z | z
   . rw [z]; exact nit b u e
   . exact nit c _ z
noncomputable def SqK (kd : Bool) (K : PySem.W.Frag) (H : Hp) (a : Addr) (xs : List V) : Prop := match kd with
 | true => SqT K H a xs
 | false => SqL K H a xs
theorem SqK.x {kd : Bool} {K : PySem.W.Frag} {H : Hp} {a : Addr} {xs : List V} (h : SqK kd K H a xs) : SqX K H a xs := by
 cases kd
 . exact .inl h
 . exact .inr h
theorem Inv.sof {X : Cx} {pins : List (Addr × Obj)} {σ : St} {H : Hp} {s : Shared} {kd : Bool} {i a : Addr} {k : Nat} {xs : List V} (I : Inv X pins σ H s) (h : SqK kd X.K H a xs) (it : ItK kd s.heap i a k) : ∃ its : List Value, Vals xs its /\ OfK kd s.heap i a k its.toArray := by
 cases kd
 . obtain ⟨its, rv, p, hz⟩ := I.list h
   exact ⟨its, rv, it, p.isList⟩
 . obtain ⟨its, rv, p, hz⟩ := I.tuple h
   exact ⟨its, rv, it, p⟩
noncomputable def Itz (k1 k2 : Bool) (K : PySem.W.Frag) (a b : Addr) : It :=
 ⟨fun i H => ∃ xs ys x y, SqK k1 K H a xs /\ SqK k2 K H b ys /\ xs[i]? = some x /\ ys[i]? = some y,
  fun i H v H' => ∃ p, v = .ref p /\ H p = none /\ ∃ x y, H' = upd H p (.tup [x, y]) /\ ∀ xs ys, SqK k1 K H a xs -> SqK k2 K H b ys -> xs[i]? = some x /\ ys[i]? = some y,
  fun i H => ∃ xs ys, SqK k1 K H a xs /\ SqK k2 K H b ys /\ (xs.length <= i \/ ys.length <= i)⟩
structure ZipAt (k1 k2 : Bool) (z TI TO i1 i2 a b : Addr) (i : Nat) (h : Heap) : Prop where
 hz : IsZip h z TI TO .none
 hTI : IsPair h TI (.ref i1) (.ref i2)
 hTO : ∃ x y, IsPair h TO x y
 h1 : ItK k1 h i1 a i
 h2 : ItK k2 h i2 b i
structure ZipD (z TI TO i1 i2 : Addr) : Prop where
 TIz : TI ≠ z
 TOz : TO ≠ z
 i1z : i1 ≠ z
 i2z : i2 ≠ z
 TITO : TI ≠ TO
 TIi1 : TI ≠ i1
 TIi2 : TI ≠ i2
 TOi1 : TO ≠ i1
 TOi2 : TO ≠ i2
 i12 : i1 ≠ i2
theorem SqK.inj {X : Cx} {pins : List (Addr × Obj)} {σ : St} {H : Hp} {s : Shared} {kd : Bool} {a : Addr} {xs ys : List V} (I : Inv X pins σ H s) (h : SqK kd X.K H a xs) (h' : SqK kd X.K H a ys) : xs = ys := I.seqX_inj h.x h'.x
theorem turn_zip {P : Program} {w : World} {K : PySem.W.Frag} {es : List Expr} {k : Nat} {pos : Pos} {k1 k2 : Bool} {z TI TO i1 i2 a b : Addr} (D : ZipD z TI TO i1 i2) :
  Turn P w K (.Tuple es k pos) (Itz k1 k2 K a b) [z, TI, TO, i1, i2] z (fun i h => ZipAt k1 k2 z TI TO i1 i2 a b i h) where
 mem := by simp
 obj := fun i h st c hc => by
  have hc' : c = z \/ c = TI \/ c = TO \/ c = i1 \/ c = i2 := by simpa using hc
  rcases hc' with rfl | rfl | rfl | rfl | rfl
  . exact ⟨_, st.hz, fun v q => by cases q⟩
  . exact ⟨_, st.hTI, fun v q => by cases q⟩
  . obtain ⟨x, y, e⟩ := st.hTO
    exact ⟨_, e, fun v q => by cases q⟩
  . exact st.h1.obj
  . exact st.h2.obj
 keep := fun i h h' st kk => by
  obtain ⟨x, y, e⟩ := st.hTO
  exact ⟨kk z (by simp) _ st.hz, kk TI (by simp) _ st.hTI, ⟨x, y, kk TO (by simp) _ e⟩, st.h1.at fun o q => kk i1 (by simp) o q, st.h2.at fun o q => kk i2 (by simp) o q⟩
 item := by
  intro X hP hw hK hc i pins s σ H E I hf st hg
  subst hP hw hK
  obtain ⟨xs, ys, x, y, sx, sy, ex, ey⟩ := hg
  obtain ⟨us, rx, ox⟩ := I.sof sx st.h1
  obtain ⟨vs, ry, oy⟩ := I.sof sy st.h2
  obtain ⟨u, hu, ru⟩ := rx.get ex
  obtain ⟨v, hv, rvv⟩ := ry.get ey
  obtain ⟨x0, y0, eTO⟩ := st.hTO
  have fz := hf z (by simp)
  have fTO := hf TO (by simp)
  have f1 := hf i1 (by simp)
  have f2 := hf i2 (by simp)
  have ZA : ZipApart z TI TO i1 i2 a b := ⟨D.TIz, D.TOz, D.i1z, D.i2z, D.TITO, D.TIi1, D.TIi2, D.TOi1, D.TOi2, D.i12, sx.x.ne I fz, sx.x.ne I fTO, sx.x.ne I f1, sx.x.ne I f2, sy.x.ne I fz, sy.x.ne I fTO, sy.x.ne I f1, sy.x.ne I f2⟩
  refine zipS_item ZA st.hz st.hTI eTO ox oy (x := u) (y := v) (by simpa using hu) (by simpa using hv) fun h' g1 g2 g3 g4 g5 g6 => ?_
  have hT : H s.heap.objs.size = none := I.hok.fresh (Nat.le_refl _)
  have I1 : Inv X pins σ H { s with heap := h' } := I.turnedL (t' := s.toks) (ch := [z, TO, i1, i2]) (fun c o hc e => g6 c o (fun q => hc (by simp [q])) (fun q => hc (by simp [q])) (fun q => hc (by simp [q])) (fun q => hc (by simp [q])) e)
   (fun c hc => hf c (by
    have hc' : c = z \/ c = TO \/ c = i1 \/ c = i2 := by simpa using hc
    rcases hc' with rfl | rfl | rfl | rfl <;> simp))
  have hTloc : s.heap.objs.size ≠ X.env.locals := Nat.ne_of_gt I.lt
  have I2 : Inv X pins σ (upd H s.heap.objs.size (.tup [x, y])) { s with heap := h' } := I1.track hT hTloc (.inr I.sz)
   (fun n c e q => by
    obtain ⟨vv, q2⟩ := I.cell n c e
    exact absurd q2.lt (by rw [q]; exact Nat.lt_irrefl _))
   (fun p hp q => absurd (Heap.lt_size (I.pin p hp).1) (by rw [q]; exact Nat.lt_irrefl _))
   ⟨by show 2 <= sizeLine; rw [sizeLine_eq]; decide, [u, v], .cons ru (.cons rvv .nil), ⟨_, g5, rfl, _, rfl⟩⟩
  refine ⟨_, rfl, wpAny_letOwnedTupleGo_zip g1 fun h2 z2 b2 => ?_⟩
  have zl : z < s.heap.objs.size := Heap.lt_size st.hz
  have uz : ∀ c, c ∈ [z, TI, TO, i1, i2] -> (upd H s.heap.objs.size (.tup [x, y])) c = none := fun c hc => by
   have hlt : c < s.heap.objs.size := by
    have hc' : c = z \/ c = TI \/ c = TO \/ c = i1 \/ c = i2 := by simpa using hc
    rcases hc' with rfl | rfl | rfl | rfl | rfl
    . exact zl
    . exact Heap.lt_size st.hTI
    . exact Heap.lt_size eTO
    . obtain ⟨o, e, _⟩ := st.h1.obj; exact Heap.lt_size e
    . obtain ⟨o, e, _⟩ := st.h2.obj; exact Heap.lt_size e
   rw [upd_ne (Nat.ne_of_lt hlt)]
   exact (hf c hc).1
  have I3 : Inv X pins σ (upd H s.heap.objs.size (.tup [x, y])) { s with heap := h2 } := Inv.turned (s := { s with heap := h' }) I2 (t' := s.toks) (it := z) (fun c o hc e => b2.extBut c o hc e) (uz z (by simp)) fz.2.1 fz.2.2.2.1 fz.2.2.2.2.1 fz.2.2.2.2.2
  refine ⟨.ref s.heap.objs.size, _, I3, rfl, ⟨_, rfl, hT, x, y, rfl, fun xs' ys' hx' hy' => ?_⟩, ⟨z2, b2.extBut _ _ D.TIz (g6 _ _ D.TIz D.TITO D.TIi1 D.TIi2 st.hTI), ⟨_, _, b2.extBut _ _ D.TOz g2⟩, ?_, ?_⟩, uz⟩
  . rw [hx'.inj I sx, hy'.inj I sy]
    exact ⟨ex, ey⟩
  . exact g3.at fun o q => b2.extBut _ _ D.i1z q
  . exact g4.at fun o q => b2.extBut _ _ D.i2z q
 done := by
  intro X hP hw hK hc i pins s σ H E I hf st hg
  subst hP hw hK
  obtain ⟨xs, ys, sx, sy, hend⟩ := hg
  obtain ⟨us, rx, ox⟩ := I.sof sx st.h1
  obtain ⟨vs, ry, oy⟩ := I.sof sy st.h2
  obtain ⟨x0, y0, eTO⟩ := st.hTO
  have fz := hf z (by simp)
  have fTO := hf TO (by simp)
  have f1 := hf i1 (by simp)
  have f2 := hf i2 (by simp)
  have ZA : ZipApart z TI TO i1 i2 a b := ⟨D.TIz, D.TOz, D.i1z, D.i2z, D.TITO, D.TIi1, D.TIi2, D.TOi1, D.TOi2, D.i12, sx.x.ne I fz, sx.x.ne I fTO, sx.x.ne I f1, sx.x.ne I f2, sy.x.ne I fz, sy.x.ne I fTO, sy.x.ne I f1, sy.x.ne I f2⟩
  have lx := rx.length
  have ly := ry.length
  refine zipS_end (I.ok.hd hc) ZA st.hz st.hTI eTO ox oy ?_ fun h' g6 => ⟨rfl, ?_⟩
  . rcases hend with q | q
    . exact .inl (by simp; omega)
    . exact .inr (by simp; omega)
  . exact I.turnedL (t' := s.toks) (ch := [z, TO, i1, i2]) (fun c o hc e => g6 c o (fun q => hc (by simp [q])) (fun q => hc (by simp [q])) (fun q => hc (by simp [q])) (fun q => hc (by simp [q])) e)
      (fun c hc => hf c (by
       have hc' : c = z \/ c = TO \/ c = i1 \/ c = i2 := by simpa using hc
       rcases hc' with rfl | rfl | rfl | rfl <;> simp))
 self := fun _ _ _ _ _ st h => wpAny_pyIter_zip st.hz h
end L2
namespace L2
open PySem PySem.Spec PyProof.Rows
noncomputable def ExcAt (e C dx : Addr) (h : Heap) : Prop := ∃ vs, h.get? e = some { cls := .ref C, dict := some dx, data := .fields vs }
noncomputable def ExcIs (e C : Addr) (dx : Option Addr) (h : Heap) : Prop := ∃ t, h.get? e = some { cls := .ref C, dict := dx, data := .fields #[.ref t, .none, .none, .none, .bool false, .none] }
theorem ExcIs.keep {e C : Addr} {dx : Option Addr} {h h' : Heap} (x : ExcIs e C dx h) (k : ∀ o, h.get? e = some o -> h'.get? e = some o) : ExcIs e C dx h' := let ⟨t, q⟩ := x; ⟨t, k _ q⟩
noncomputable def excD (C : Addr) (fld : Str) (d : PyData) : PyData := .dict [(.tuple [.int (C : Nat), .str fld], d)]
theorem ExcAt.keep {e C dx : Addr} {h h' : Heap} (x : ExcAt e C dx h) (k : ∀ o, h.get? e = some o -> h'.get? e = some o) : ExcAt e C dx h' := let ⟨vs, q⟩ := x; ⟨vs, k _ q⟩
structure ExcC (K : PySem.W.Frag) (C : Addr) : Prop where
 ga : PySem.W.findIn K (.ref C) "__getattribute__" = some (some (.builtin "BaseException.__getattribute__"))
 gt : PySem.W.findIn K (.ref C) "__getattr__" = some none
 hd : PySem.W.hasDictIn K C = true
 be : PySem.W.mroIn K C (.type "BaseException") = some true
 cl : PySem.W.findIn K (.ref C) "__class__" = some (some (.builtin "object.__class__"))
 cg : PySem.W.specialIn K (.builtin "object.__class__") "__get__" = some (some (.builtin "getset_descriptor.__get__"))
 ct : PySem.W.takesIn K (.builtin "object.__class__") = some true
 ob : PySem.W.mroIn K C (.type "object") = some true
 n1 : PySem.W.kitOne K (.ref C) (.type "tuple") = some false
 n2 : PySem.W.kitOne K (.ref C) (.type "list") = some false
 n3 : PySem.W.kitOne K (.ref C) (.type "bool") = some false
 n4 : PySem.W.kitOne K (.ref C) (.type "int") = some false
 n5 : PySem.W.kitOne K (.ref C) (.type "str") = some false
noncomputable def five (n : String) : Prop := n = "tuple" \/ n = "list" \/ n = "bool" \/ n = "int" \/ n = "str"
theorem ExcC.five {K : PySem.W.Frag} {C : Addr} (T : ExcC K C) {n : String} (h : L2.five n) : PySem.W.kitOne K (.ref C) (.type n) = some false := by
 rcases h with rfl | rfl | rfl | rfl | rfl
 . exact T.n1
 . exact T.n2
 . exact T.n3
 . exact T.n4
 . exact T.n5
section
variable {prog : Program} {w : World} {A : Around} {E : Value -> Shared -> Prop} {s : Shared} {K : PySem.W.Frag} {x C : Addr} {ox : Obj} {od : Option Obj} {name : Str}
theorem exc_call {v : Value} {tk : Tok} {R : Result -> Shared -> Prop} (T : ExcC K C) (X : K.In s.heap) (I : PySem.W.InstAt s.heap x ox C od) (hf : PySem.W.findObj K C od name = some (.value v)) (h : R (.ok (.ret v)) s) :
  codeAny (model prog w) A (.call (.builtin "BaseException.__getattribute__") ⟨[.ref x, .str name tk], []⟩) R s := by
 obtain ⟨hh, g, d, t, os⟩ := s
 refine codeAny_call_builtin F.excAttr_ValueError.ga.plain F.entry_bexc_ga ?_
 have L0 := I.type (M := model prog w)
 have L1 := PySem.W.looks_find (M := model prog w) X I hf
 have L2 := PySem.W.looks_mroIn (M := model prog w) X T.be
 have hk : builtinKind "BaseException.__getattribute__" = some .slot := by decide +kernel
 have hsplit : splitId "BaseException.__getattribute__" = some ("BaseException", "__getattribute__") := by decide +kernel
 have ha := F.args_bexc_ga (.ref x) (.str name tk)
 simp only [checkBuiltinCall, hk, hsplit]
 refine wpAny_bind ?_
 unfold isInstance
 refine wpAny_bind (L0.at (L2.at ?_))
 repeat (first | wp_step)
 refine wpAny_loadPart_at I.at_ ?_
 rw [I.cls]
 refine wpAny_pure (wpAny_bind (L1.at ?_))
 exact wpAny_pure h
theorem exc_callC {tk : Tok} {R : Result -> Shared -> Prop} (T : ExcC K C) (X : K.In s.heap) (I : PySem.W.InstAt s.heap x ox C od) (hf : PySem.W.findObj K C od "__class__" = some (.bind (.builtin "getset_descriptor.__get__") (.builtin "object.__class__")))
  (h : R (.ok (.ret (.ref C))) s) :
  codeAny (model prog w) A (.call (.builtin "BaseException.__getattribute__") ⟨[.ref x, .str "__class__" tk], []⟩) R s := by
 obtain ⟨hh, g, d, t, os⟩ := s
 refine codeAny_call_builtin F.excAttr_ValueError.ga.plain F.entry_bexc_ga ?_
 have L0 := I.type (M := model prog w)
 have L1 := PySem.W.looks_find (M := model prog w) X I hf
 have L2 := PySem.W.looks_mroIn (M := model prog w) X T.be
 have hk : builtinKind "BaseException.__getattribute__" = some .slot := by decide +kernel
 have hsplit : splitId "BaseException.__getattribute__" = some ("BaseException", "__getattribute__") := by decide +kernel
 have ha := F.args_bexc_ga (.ref x) (.str "__class__" tk)
 simp only [checkBuiltinCall, hk, hsplit]
 refine wpAny_bind ?_
 unfold isInstance
 refine wpAny_bind (L0.at (L2.at ?_))
 repeat (first | wp_step)
 refine wpAny_loadPart_at I.at_ ?_
 rw [I.cls]
 refine wpAny_pure (wpAny_bind (L1.at ?_))
 dsimp only
 repeat (any_goals (first | assumption | wp_step))
 refine PySem.W.class_get (s := ⟨hh, g, d, t, os⟩) X I T.ob ?_
 repeat (any_goals (first | assumption | wp_step))
theorem exc_by {v : Value} {tk : Tok} {fill expr : Bool} {Q : Value -> Shared -> Prop} (T : ExcC K C) (X : K.In s.heap) (I : PySem.W.InstAt s.heap x ox C od) (hf : PySem.W.findObj K C od name = some (.value v)) (hh : PySem.W.handedIn v = true) (h : Q v s) :
  wpAny (model prog w) A (getAttrBy (.ref x) (.str name tk) fill expr) Q E s := by
 obtain ⟨hp, g, d, t, os⟩ := s
 have L0 := I.type (M := model prog w)
 have L1 := PySem.W.looks_findIn (M := model prog w) X T.ga
 have L2 := PySem.W.looks_findIn (M := model prog w) X T.gt
 have f3 := F.excAttr_ValueError.ga.bind (.ref x)
 have hx0 : (expr && onTheHeap (Value.builtin "BaseException.__getattribute__")) = false := by cases expr <;> rfl
 have hx2 : (Value.builtin "BaseException.__getattribute__" == Value.builtin "object.__getattribute__") = false := by decide +kernel
 have hx1 : (onTheHeap (Value.ref C) && Value.builtin "BaseException.__getattribute__" == Value.builtin "object.__getattribute__") = false := by rw [hx2]; rfl
 unfold getAttrBy
 refine wpAny_holding (wpAny_bind (L0.at (wpAny_bind (L1.at ?_))))
 dsimp only
 rw [if_neg (by rw [hx1]; decide)]
 unfold getAttrByItsOwn
 repeat (any_goals (first | assumption | (with_reducible refine L2.at ?_) | wp_step))
 refine exc_call (s := ⟨hp, g, d, t, os⟩) T X I hf ?_
 dsimp only
 rw [PySem.W.handedOut_of hh]
 exact wpAny_pure h
theorem exc_attr {v : Value} {expr : Bool} {Q : Value -> Shared -> Prop} (T : ExcC K C) (X : K.In s.heap) (I : PySem.W.InstAt s.heap x ox C od) (hf : PySem.W.findObj K C od name = some (.value v)) (hh : PySem.W.handedIn v = true) (h : Q v { s with toks := s.toks + 1 }) :
  wpAny (model prog w) A (getAttr (.ref x) name expr) Q E s := by
 unfold getAttr
 exact wpAny_bind (wpAny_mkText (exc_by (s := { s with toks := s.toks + 1 }) T X I hf hh h))
theorem exc_byC {tk : Tok} {fill expr : Bool} {Q : Value -> Shared -> Prop} (T : ExcC K C) (X : K.In s.heap) (I : PySem.W.InstAt s.heap x ox C od) (hf : PySem.W.findObj K C od "__class__" = some (.bind (.builtin "getset_descriptor.__get__") (.builtin "object.__class__"))) (h : Q (.ref C) s) :
  wpAny (model prog w) A (getAttrBy (.ref x) (.str "__class__" tk) fill expr) Q E s := by
 obtain ⟨hp, g, d, t, os⟩ := s
 have L0 := I.type (M := model prog w)
 have L1 := PySem.W.looks_findIn (M := model prog w) X T.ga
 have L2 := PySem.W.looks_findIn (M := model prog w) X T.gt
 have f3 := F.excAttr_ValueError.ga.bind (.ref x)
 have hx0 : (expr && onTheHeap (Value.builtin "BaseException.__getattribute__")) = false := by cases expr <;> rfl
 have hx2 : (Value.builtin "BaseException.__getattribute__" == Value.builtin "object.__getattribute__") = false := by decide +kernel
 have hx1 : (onTheHeap (Value.ref C) && Value.builtin "BaseException.__getattribute__" == Value.builtin "object.__getattribute__") = false := by rw [hx2]; rfl
 unfold getAttrBy
 refine wpAny_holding (wpAny_bind (L0.at (wpAny_bind (L1.at ?_))))
 dsimp only
 rw [if_neg (by rw [hx1]; decide)]
 unfold getAttrByItsOwn
 repeat (any_goals (first | assumption | (with_reducible refine L2.at ?_) | wp_step))
 refine exc_callC (s := ⟨hp, g, d, t, os⟩) T X I hf ?_
 dsimp only
 rw [PySem.W.handedOut_of rfl]
 exact wpAny_pure h
theorem exc_clsOf {Q : Option Value -> Shared -> Prop} {o : Obj} (T : ExcC K C) (X : K.In s.heap) (I : PySem.W.InstAt s.heap x ox C (some o)) (h : Q (some (.ref C)) { s with toks := s.toks + 1 }) : wpAny (model prog w) A (getAttr? (.ref x) "__class__") Q E s := by
 have hf : PySem.W.findObj K C (some o) "__class__" = some (.bind (.builtin "getset_descriptor.__get__") (.builtin "object.__class__")) := PySem.W.findObj_data (by obtain ⟨cd, hc, _⟩ := PySem.W.any_some T.hd; rw [hc]; rfl) T.cl T.cg T.ct
 unfold getAttr? getAttrBy?
 refine wpAny_bind (wpAny_mkText (wpAny_bind (wpAny_attempt (exc_byC (s := { s with toks := s.toks + 1 }) T X I hf ?_))))
 exact wpAny_pure h
theorem kitx_exc {dx : Addr} (T : ExcC K C) : PySem.W.KitX K (.ref x) (.ref C) (fun h => ExcAt x C dx h /\ ∃ o, h.get? dx = some o) where
 ty := fun _ _ _ I => by
  obtain ⟨⟨vs, h1⟩, _⟩ := I
  exact (PySem.W.Looks.ld h1).andThen .now
 it := fun _ _ X _ => by
  obtain ⟨cdD, hcD, _⟩ := PySem.W.any_some T.hd
  unfold PySem.W.clsIn at hcD
  split at hcD
  . rename_i c' d' cd' sl' ho
    intro A' Q' E' s' k q
    unfold isType loadHead
    exact wpAny_bind (wpAny_loadPart (k _ _ (X _ _ ho)) (wpAny_pure q))
  . cases hcD
 ne := fun h tp dd its n sl X htp => by
  obtain ⟨cdD, hcD, _⟩ := PySem.W.any_some T.hd
  refine Bool.eq_false_iff.mpr fun q => ?_
  have e : C = tp := Value.ref.inj (beq_iff_eq.mp q)
  subst e
  unfold PySem.W.clsIn at hcD
  split at hcD
  . rename_i c' d' cd' sl' ho
    have z := (X _ _ ho).symm.trans htp
    cases z
  . cases hcD
 ca := fun X I k => by
  obtain ⟨⟨vs, h1⟩, o, h2⟩ := I
  exact exc_clsOf T X (ox := _) (o := o) ⟨h1, rfl, rfl, h2⟩ k
end
end L2
namespace L2
open PySem PySem.Spec PyProof.Rows
noncomputable def itO (kd : Bool) (l : Addr) : Obj := match kd with
 | true => { cls := .type "tuple_iterator", data := .fields #[.ref l, .int 0 0] }
 | false => { cls := .type "list_iterator", data := .fields #[.ref l, .int 0 0] }
noncomputable def SeqK (kd : Bool) (h : Heap) (l : Addr) (xs : Array Value) : Prop := match kd with
 | true => h.IsTuple l xs
 | false => h.IsList l xs
theorem SeqK.push {kd : Bool} {h : Heap} {l : Addr} {xs : Array Value} (x : SeqK kd h l xs) (o : Obj) : SeqK kd (h.push o) l xs := by
 cases kd
 . exact Heap.IsList.push (show h.IsList l xs from x) o
 . exact Heap.IsTuple.push (show h.IsTuple l xs from x) o
theorem ItK.new {kd : Bool} {h : Heap} {i l : Addr} (e : h.get? i = some (itO kd l)) : ItK kd h i l 0 := by
 cases kd
 . exact ⟨_, e, rfl, rfl⟩
 . exact ⟨_, e, rfl, rfl⟩
theorem iterK {prog : Program} {w : World} {A : Around} {E : Value -> Shared -> Prop} {s : Shared} {kd : Bool} {l : Addr} {xs : Array Value} {Q : Value -> Shared -> Prop} (x : SeqK kd s.heap l xs)
  (hQ : Q (.ref s.heap.objs.size) { s with heap := s.heap.push (itO kd l) }) : wpAny (model prog w) A (pyIter (.ref l)) Q E s := by
 cases kd
 . exact wpAny_pyIter_list (show s.heap.IsList l xs from x) hQ
 . exact wpAny_pyIter_tuple (show s.heap.IsTuple l xs from x) hQ
noncomputable abbrev zh1 (k1 : Bool) (h : Heap) (a : Addr) : Heap := h.push (itO k1 a)
noncomputable abbrev zh2 (k1 k2 : Bool) (h : Heap) (a b : Addr) : Heap := (zh1 k1 h a).push (itO k2 b)
noncomputable abbrev zh3 (k1 k2 : Bool) (h : Heap) (a b : Addr) : Heap := (zh2 k1 k2 h a b).push { cls := .type "tuple", data := .seq #[.ref h.objs.size, .ref (zh1 k1 h a).objs.size] }
noncomputable abbrev zh4 (k1 k2 : Bool) (h : Heap) (a b : Addr) : Heap := (zh3 k1 k2 h a b).push { cls := .type "tuple", data := .seq #[.none, .none] }
noncomputable abbrev zh5 (k1 k2 : Bool) (h : Heap) (a b : Addr) : Heap := (zh4 k1 k2 h a b).push { cls := .type "zip", data := .fields #[.none, .bool false, .bool false, .ref (zh2 k1 k2 h a b).objs.size, .ref (zh3 k1 k2 h a b).objs.size] }
theorem meets_zipK (k1 k2 : Bool) (a b : Addr) (xs ys : Array Value) :
  Meets (Builtin.«zip.__new__» ⟨[.type "zip", .ref a, .ref b], []⟩) (fun _ R s => SeqK k1 s.heap a xs /\ SeqK k2 s.heap b ys /\
   R (.ok (.ret (.ref (zh4 k1 k2 s.heap a b).objs.size))) { s with heap := zh5 k1 k2 s.heap a b }) :=
 .of_wp fun prog w A R s h => by
  obtain ⟨hp, g, d, tk, os⟩ := s
  obtain ⟨x1, x2, h⟩ := h
  have hsub := sub_zip
  have y1 : SeqK k1 (Shared.heap ⟨hp, g, d, tk, os⟩) a xs := x1
  have y2 : SeqK k2 (Shared.heap ⟨hp.push (itO k1 a), g, d, tk, os⟩) b ys := SeqK.push x2 _
  wp_walk using iterK y1, iterK y2
  exact ⟨_, rfl, h⟩
section
variable {prog : Program} {w : World} {A : Around} {E : Value -> Shared -> Prop} {s : Shared}
theorem call_zipK {k1 k2 : Bool} {a b : Addr} {xs ys : Array Value} {Q : Value -> Shared -> Prop} (x1 : SeqK k1 s.heap a xs) (x2 : SeqK k2 s.heap b ys)
  (h : ∀ h', ZipAt k1 k2 (s.heap.objs.size + 4) (s.heap.objs.size + 2) (s.heap.objs.size + 3) s.heap.objs.size (s.heap.objs.size + 1) a b 0 h' ->
   (∀ c o, s.heap.get? c = some o -> h'.get? c = some o) -> Q (.ref (s.heap.objs.size + 4)) { s with heap := h' }) :
  wpAny (model prog w) A (call (.type "zip") [.ref a, .ref b]) Q E s := by
 refine callType_new F.called_zip (by decide) (F.typeCall_zip_2 _ _) (F.newCall_zip_2 _ _) (fun obj => F.args_object_init_3 obj _ _) F.entry_zip_new (meets_zipK k1 k2 a b xs ys) ⟨x1, x2, ?_⟩
 have z1 : (zh1 k1 s.heap a).objs.size = s.heap.objs.size + 1 := Heap.size_push ..
 have z2 : (zh2 k1 k2 s.heap a b).objs.size = s.heap.objs.size + 2 := by rw [Heap.size_push, z1]
 have z3 : (zh3 k1 k2 s.heap a b).objs.size = s.heap.objs.size + 3 := by rw [Heap.size_push, z2]
 have z4 : (zh4 k1 k2 s.heap a b).objs.size = s.heap.objs.size + 4 := by rw [Heap.size_push, z3]
 have g5 : (zh5 k1 k2 s.heap a b).get? (zh4 k1 k2 s.heap a b).objs.size = some _ := Heap.get?_push_size _ rfl
 have g4 : (zh5 k1 k2 s.heap a b).get? (zh3 k1 k2 s.heap a b).objs.size = some _ := Heap.get?_push_of_some _ (Heap.get?_push_size _ rfl)
 have g3 : (zh5 k1 k2 s.heap a b).get? (zh2 k1 k2 s.heap a b).objs.size = some _ := Heap.get?_push_of_some _ (Heap.get?_push_of_some _ (Heap.get?_push_size _ rfl))
 have f2 : (itO k2 b).isFreed = false := by cases k2 <;> rfl
 have f1 : (itO k1 a).isFreed = false := by cases k1 <;> rfl
 have g2 : (zh5 k1 k2 s.heap a b).get? (zh1 k1 s.heap a).objs.size = some _ := Heap.get?_push_of_some _ (Heap.get?_push_of_some _ (Heap.get?_push_of_some _ (Heap.get?_push_size _ f2)))
 have g1 : (zh5 k1 k2 s.heap a b).get? s.heap.objs.size = some _ := Heap.get?_push_of_some _ (Heap.get?_push_of_some _ (Heap.get?_push_of_some _ (Heap.get?_push_of_some _ (Heap.get?_push_size _ f1))))
 show _ /\ _
 rw [z2, z3, z4] at g5
 rw [z1, z2] at g3
 rw [z3] at g4
 rw [z1] at g2
 rw [z4]
 exact ⟨⟨_, g5, rfl⟩, h _ ⟨g5, g3, ⟨_, _, g4⟩, .new g1, .new g2⟩ fun c o x =>
  Heap.get?_push_of_some _ (Heap.get?_push_of_some _ (Heap.get?_push_of_some _ (Heap.get?_push_of_some _ (Heap.get?_push_of_some _ x))))⟩
end
theorem zipD_new (n : Nat) : ZipD (n + 4) (n + 2) (n + 3) n (n + 1) := by
 constructor <;> (show @Ne Nat _ _) <;> omega
section
variable {X : Cx} {es : List Expr} {k : Nat} {tp : Pos}
theorem Inv.seqK {pins : List (Addr × Obj)} {σ : St} {H : Hp} {s : Shared} {kd : Bool} {a : Addr} {xs : List V} (I : Inv X pins σ H s) (h : SqK kd X.K H a xs) : ∃ its : List Value, SeqK kd s.heap a its.toArray := by
 cases kd
 . obtain ⟨its, _, p, _⟩ := I.list h
   exact ⟨its, p.isList⟩
 . obtain ⟨its, _, p, _⟩ := I.tuple h
   exact ⟨its, p⟩
end
section
variable {bs : List Str} {g : TG} {te : TE} {σ : St} {H : Hp} {Q : VK}
end
section
variable {X : Cx}
theorem vals_bls : ∀ {bs : List Bool} {us : List Value}, Vals (bs.map V.bl) us -> us = bs.map Value.bool
 | [], _, .nil => rfl
 | b :: r, _, .cons h t => by rw [vals_bls t]; cases h; rfl
theorem range_all_getD : ∀ (bs : List Bool) (d : Bool), (List.range bs.length).all (fun i => bs.getD i d) = bs.all id
 | [], _ => rfl
 | b :: r, d => by
  rw [List.length_cons, List.range_succ_eq_map, List.all_cons, List.all_map, List.all_cons]
  have := range_all_getD r d
  simp only [List.getD_cons_zero, Function.comp_def, List.getD_cons_succ, id]
  rw [this]
theorem call_all : CallR X (.builtin "all") (fun xs H Q => ∃ (p : Addr) (bs : List Bool), xs = [.ref p] /\ SqL X.K H p (bs.map V.bl) /\ X.A.handled = none /\ Q (.bl (bs.all id)) H) := by
 intro pins s σ H xs us Q I r h
 obtain ⟨p, bs, rfl, hq, hh, q⟩ := h
 obtain ⟨u, rfl, ru⟩ := vals1 r
 cases ru
 obtain ⟨its, rv, pl, hz⟩ := I.list hq
 have ei : its = bs.map Value.bool := vals_bls rv
 refine call_all_walk (wpAny_pyIter_list pl.isList ?_)
 have lt : p < s.heap.objs.size := by obtain ⟨o, e, _⟩ := pl.isList; exact Heap.lt_size e
 refine ⟨s.heap.objs.size, _, _, _, _, _, fun i => bs.getD i false, rfl, Walks.list (A := X.A.in1) hh s.heap.objs.size p (Nat.ne_of_lt lt) its.toArray, ⟨⟨_, Heap.get?_push_size _ rfl, rfl, rfl⟩, pl.isList.push _⟩, ?_, fun h' tk kk => ?_⟩
 . intro i v s' Q' E' hv hq'
   have e : (bs.map Value.bool)[i]? = some v := by rw [<- ei]; simpa using hv
   rw [List.getElem?_map] at e
   cases eb : bs[i]? with
   | none => rw [eb] at e; cases e
   | some b =>
    rw [eb] at e
    cases e
    have : bs.getD i false = b := by rw [List.getD_eq_getElem?_getD, eb]; rfl
    have hq2 : Q' b s' := by rw [<- this]; exact hq'
    exact wpAny_truthy_bool hq2
 . have el : its.toArray.size = bs.length := by rw [ei]; simp
   rw [el, range_all_getD]
   refine ⟨.bl (bs.all id), H, ?_, rfl, q⟩
   have I1 : Inv X pins σ H { s with heap := s.heap.push { cls := .type "list_iterator", data := .fields #[.ref p, .int 0 0] } } := I.kept (t' := s.toks) fun b o e => Heap.get?_push_of_some _ e
   have f := I.fpOk (Nat.le_refl _) (I.hok.fresh (Nat.le_refl s.heap.objs.size))
   exact Inv.turned (s := { s with heap := s.heap.push { cls := .type "list_iterator", data := .fields #[.ref p, .int 0 0] } }) I1 (it := s.heap.objs.size) (fun b o hb e => kk b o (by simpa using hb) e) f.1 f.2.1 f.2.2.2.1 f.2.2.2.2.1 f.2.2.2.2.2
end
structure Bt (m : Nat) (i : Int) : Prop where
 lt : i.natAbs < 2 ^ m
theorem Bt.mono {m n : Nat} {i : Int} (h : Bt m i) (hl : m <= n) : Bt n i := ⟨Nat.lt_of_lt_of_le h.lt (Nat.pow_le_pow_right (by decide) hl)⟩
theorem Bt.of_le {m : Nat} {i j : Int} (h : Bt m j) (hl : i.natAbs <= j.natAbs) : Bt m i := ⟨Nat.lt_of_le_of_lt hl h.lt⟩
theorem Bt.neg {m : Nat} {i : Int} (h : Bt m i) : Bt m (-i) := h.of_le (by omega)
theorem Bt.mul {m n : Nat} {i j : Int} (h : Bt m i) (h' : Bt n j) : Bt (m + n) (i * j) := ⟨by
 rw [Int.natAbs_mul, Nat.pow_add]
 exact Nat.mul_lt_mul'' h.lt h'.lt⟩
theorem Bt.small {i : Int} (h1 : -(2 ^ 62) < i) (h2 : i < 2 ^ 62) : Bt 62 i := ⟨by omega⟩
theorem Bt.mulOk {m n : Nat} {i j : Int} (h : Bt m i) (h' : Bt n j) (hm : m + n <= 134217728) : IntMulOk i j := IntMulOk.of_le (intBits_le_iff.mpr h.lt) (intBits_le_iff.mpr h'.lt) hm
section
variable {X : Cx}
theorem op_mulB : OpR X (binaryOp .Mult) (rI (fun i j => Bt 60000 i /\ Bt 60000 j) fun i j => .int (i * j)) := opI fun i j _ _ _ _ _ hc q => mul_int q (hc.1.mulOk hc.2 (by decide))
theorem op_fdivB : OpR X (binaryOp .FloorDiv) (rI (fun _ j => j ≠ 0 /\ Bt 8000 j) fun i j => .int (i.fdiv j)) := opI fun i j _ _ _ _ _ hc q => floordiv_int hc.1 q (.inl (PyProof.noPylong_of_log2 (by
 have h := hc.2.lt
 have h0 : j.natAbs ≠ 0 := by have := hc.1; omega
 have := (Nat.log2_lt h0).mpr h
 omega)))
noncomputable def fnD (nm : Str) : PyData := .dict [(.str nm, .none)]
noncomputable def isFnD : PyData -> Bool
 | .dict [(.str _, .none)] => true
 | _ => false
mutual
inductive Dt (K : PySem.W.Frag) (H : Hp) : V -> PyData -> Prop
 | non : Dt K H .non .none
 | bl (b) : Dt K H (.bl b) (.bool b)
 | int (i) : Dt K H (.int i) (.int i)
 | str (x) : Dt K H (.str x) (.str x)
 | tup {a xs ds} : SqT K H a xs -> Dts K H xs ds -> Dt K H (.ref a) (.tuple ds)
 | lst {a xs ds} : SqL K H a xs -> Dts K H xs ds -> Dt K H (.ref a) (.list ds)
 | exc {ea C dx fld v d} : ExcC K C -> PySem.W.findIn K (.ref C) fld = some none -> H ea = some (.ext (ExcAt ea C dx)) -> H dx = some (.xd [(fld, v)]) -> Dt K H v d -> Dt K H (.ref ea) (excD C fld d)
 | fn {f nm} : PySem.W.nsIn K mainGlobals nm = some (some (.ref f)) -> Dt K H (.ref f) (fnD nm)
inductive Dts (K : PySem.W.Frag) (H : Hp) : List V -> List PyData -> Prop
 | nil : Dts K H [] []
 | cons {x xs d ds} : Dt K H x d -> Dts K H xs ds -> Dts K H (x :: xs) (d :: ds)
end
theorem Same.seqT {K : PySem.W.Frag} {H H' : Hp} {a : Addr} {xs : List V} (e : Same H H') (h : SqT K H a xs) : SqT K H' a xs := by
 rcases h with (h | ⟨o, h⟩) | h
 . exact .inl (.inl (e _ _ h))
 . exact .inl (.inr ⟨o, e _ _ h⟩)
 . exact .inr h
theorem Same.new {H : Hp} {p : Addr} {o : HO} (h : H p = none) : Same H (upd H p o) := fun b u e => by rw [upd_ne (ne_of_none e h)]; exact e
mutual
theorem Dt.same {K : PySem.W.Frag} {H H' : Hp} (e : Same H H') {x : V} {d : PyData} (h : Dt K H x d) : Dt K H' x d := by
 cases h with
 | non => exact .non
 | bl b => exact .bl b
 | int i => exact .int i
 | str x => exact .str x
 | tup h t => exact .tup (e.seqT h) (Dts.same e t)
 | lst h t => exact .lst (e.seq h) (Dts.same e t)
 | exc c n h1 h2 t => exact .exc c n (e _ _ h1) (e _ _ h2) (Dt.same e t)
 | fn h => exact .fn h
theorem Dts.same {K : PySem.W.Frag} {H H' : Hp} (e : Same H H') {xs : List V} {ds : List PyData} (h : Dts K H xs ds) : Dts K H' xs ds := by
 cases h with
 | nil => exact .nil
 | cons h t => exact .cons (Dt.same e h) (Dts.same e t)
end
theorem Dts.length {K : PySem.W.Frag} {H : Hp} : ∀ {xs : List V} {ds : List PyData}, Dts K H xs ds -> xs.length = ds.length
 | _, _, .nil => rfl
 | _, _, .cons _ t => by rw [List.length_cons, List.length_cons, Dts.length t]
theorem Dts.get {K : PySem.W.Frag} {H : Hp} : ∀ {xs : List V} {ds : List PyData} {i : Nat} {d : PyData}, Dts K H xs ds -> ds[i]? = some d -> ∃ x, xs[i]? = some x /\ Dt K H x d
 | _, _, _, _, .nil, e => by simp at e
 | _, _, 0, _, .cons h _, e => by simp at e; subst e; exact ⟨_, rfl, h⟩
 | _, _, i + 1, d, .cons _ t, e => by
  obtain ⟨x, h1, h2⟩ := Dts.get (i := i) (d := d) t (by simpa using e)
  exact ⟨x, by simpa using h1, h2⟩
mutual
theorem Inv.reads {pins : List (Addr × Obj)} {σ : St} {H : Hp} {s : Shared} (I : Inv X pins σ H s) {x : V} {u : Value} {d : PyData} (h : Dt X.K H x d) (r : RelV x u) (hc : d.canLay0 = true) : ∃ as, Reads s.heap u d as := by
 cases h with
 | non => cases r; exact ⟨_, .none⟩
 | bl b => cases r; exact ⟨_, .bool b⟩
 | int i => obtain ⟨t, rfl⟩ := r; exact ⟨_, .int i t⟩
 | str y => obtain ⟨t, rfl⟩ := r; exact ⟨_, .str y t⟩
 | tup h t =>
  cases r
  obtain ⟨its, rv, ⟨o, e, c, n, dd⟩, _⟩ := I.tuple h
  obtain ⟨as, ra⟩ := Inv.readsAll I t rv (by rw [PyData.canLay0] at hc; exact hc)
  exact ⟨_, .tuple e c dd (by simpa using ra)⟩
 | lst h t =>
  cases r
  obtain ⟨its, rv, pl, _⟩ := I.list h
  obtain ⟨o, e, c, n, dd⟩ := pl.isList
  obtain ⟨as, ra⟩ := Inv.readsAll I t rv (by rw [PyData.canLay0] at hc; exact hc)
  exact ⟨_, .list e c dd (by simpa using ra)⟩
 | exc _ _ _ _ _ => rw [excD, PyData.canLay0] at hc; cases hc
 | fn _ => rw [fnD, PyData.canLay0] at hc; cases hc
theorem Inv.readsAll {pins : List (Addr × Obj)} {σ : St} {H : Hp} {s : Shared} (I : Inv X pins σ H s) {xs : List V} {us : List Value} {ds : List PyData} (h : Dts X.K H xs ds) (r : Vals xs us) (hc : PyData.canLayAll0 ds = true) : ∃ as, ReadsAll s.heap us ds as := by
 cases h with
 | nil => cases r; exact ⟨_, .nil⟩
 | cons h t =>
  cases r with
  | cons r rr =>
   rw [PyData.canLayAll0, Bool.and_eq_true] at hc
   obtain ⟨as, ra⟩ := Inv.reads I h r hc.1
   obtain ⟨bs, rb⟩ := Inv.readsAll I t rr hc.2
   exact ⟨_, .cons ra rb⟩
end
theorem op_eqD (hu : X.A.units + 64 < cLine) : OpR X (compareOp .Eq) (fun x y H Q => ∃ d e, Dt X.K H x d /\ Dt X.K H y e /\ SeqAt.shaped d = true /\ SeqAt.shaped e = true /\ Q (.bl (PyData.eqv d e)) H) := by
 intro pins s σ H x y v u Q I rx ry h
 obtain ⟨d, e, h1, h2, s1, s2, q⟩ := h
 obtain ⟨as, ra⟩ := I.reads h1 rx (SeqAt.canLay_of_shaped s1)
 obtain ⟨bs, rb⟩ := I.reads h2 ry (SeqAt.canLay_of_shaped s2)
 exact eq_dataH ra rb s1 s2 hu ⟨.bl _, H, I, rfl, q⟩
theorem op_neD (hu : X.A.units + 64 < cLine) : OpR X (compareOp .NotEq) (fun x y H Q => ∃ d e, Dt X.K H x d /\ Dt X.K H y e /\ SeqAt.shaped d = true /\ SeqAt.shaped e = true /\ Q (.bl (!PyData.eqv d e)) H) := by
 intro pins s σ H x y v u Q I rx ry h
 obtain ⟨d, e, h1, h2, s1, s2, q⟩ := h
 obtain ⟨as, ra⟩ := I.reads h1 rx (SeqAt.canLay_of_shaped s1)
 obtain ⟨bs, rb⟩ := I.reads h2 ry (SeqAt.canLay_of_shaped s2)
 exact ne_dataH ra rb s1 s2 hu ⟨.bl _, H, I, rfl, q⟩
end
theorem scal_int (i j : Int) : scal (.int i) (.int j) = true := rfl
theorem scal_str (i j : Str) : scal (.str i) (.str j) = true := rfl
theorem scal_bl (i j : Bool) : scal (.bl i) (.bl j) = true := rfl
end L2
namespace L2
open PySem PySem.Spec PyProof.Rows
noncomputable def tyOf : PyData -> String
 | .none => "NoneType"
 | .bool _ => "bool"
 | .int _ => "int"
 | .str _ => "str"
 | .tuple _ => "tuple"
 | .list _ => "list"
 | _ => "dict"
noncomputable def isI (d : PyData) (n : String) : Bool := tyOf d == n || (tyOf d == "bool" && n == "int")
theorem kit_five {K : PySem.W.Frag} : ∀ {t n : String}, (t = "NoneType" \/ t = "bool" \/ t = "int" \/ t = "str" \/ t = "tuple" \/ t = "list") -> five n -> PySem.W.kitOne K (.type t) (.type n) = some (t == n || (t == "bool" && n == "int")) := by
 intro t n ht hn
 rcases ht with rfl | rfl | rfl | rfl | rfl | rfl <;> rcases hn with rfl | rfl | rfl | rfl | rfl <;> first | rfl | decide +kernel
section
variable {X : Cx}
theorem call_isD : CallR X (.builtin "isinstance") (fun xs H Q => ∃ x n d, xs = [x, .ty n] /\ Dt X.K H x d /\ isFnD d = false /\ five n /\ Q (.bl (isI d n)) H) := by
 intro pins s σ H xs us Q I r h
 obtain ⟨x, n, d, rfl, hd, hfn, hn, q⟩ := h
 obtain ⟨u, c, rfl, rx, rc⟩ := vals2 r
 cases rc
 have fin : ∀ tk, EP X pins σ Q (.bool (isI d n)) { s with toks := tk } := fun tk => ⟨.bl _, H, I.tok tk, rfl, q⟩
 cases hd with
 | non => cases rx; exact PySem.W.kia_one PySem.W.kitx_none I.kIn True.intro (kit_five (by simp) hn) (fun z => nomatch z) fin
 | bl b => cases rx; exact PySem.W.kia_one PySem.W.kitx_bool I.kIn True.intro (kit_five (by simp) hn) (fun z => nomatch z) fin
 | int i => obtain ⟨t, rfl⟩ := rx; exact PySem.W.kia_one PySem.W.kitx_int I.kIn True.intro (kit_five (by simp) hn) (fun z => nomatch z) fin
 | str y => obtain ⟨t, rfl⟩ := rx; exact PySem.W.kia_one PySem.W.kitx_str I.kIn True.intro (kit_five (by simp) hn) (fun z => nomatch z) fin
 | tup h t =>
  cases rx
  obtain ⟨its, rv, ⟨o, e, c, n, dd⟩, _⟩ := I.tuple h
  exact PySem.W.kia_one PySem.W.kitx_tuple I.kIn ⟨o, e, c⟩ (kit_five (by simp) hn) (fun z => nomatch z) fin
 | lst h t =>
  cases rx
  obtain ⟨its, rv, pl, _⟩ := I.list h
  obtain ⟨o, e, c, n, dd⟩ := pl.isList
  exact PySem.W.kia_one PySem.W.kitx_list I.kIn ⟨o, e, c⟩ (kit_five (by simp) hn) (fun z => nomatch z) fin
 | exc c nf h1 h2 t =>
  rename_i ea C dx fld v d
  cases rx
  obtain ⟨mA, ⟨ob, es, ep, ho, _⟩, _⟩ := I.hok _ _ h2
  have e0 : isI (excD C fld d) n = false := by rcases hn with rfl | rfl | rfl | rfl | rfl <;> rfl
  rw [e0] at fin
  exact PySem.W.kia_one (kitx_exc c) I.kIn ⟨(I.hok _ _ h1).1, ob, ho⟩ (c.five hn) (fun z => nomatch z) fin
 | fn _ => cases hfn
end
section
variable {prog : Program} {w : World} {A : Around} {E : Value -> Shared -> Prop} {s : Shared}
theorem getItem_whole {t sl : Addr} {items : Array Value} {vl vu : Value} {lo hi : Option Int} {Q : Value -> Shared -> Prop} (ht : IsTup s.heap t items) (hs : s.heap.IsSliceOf sl vl vu .none) (pl : IsPart vl lo) (pu : IsPart vu hi)
  (hw : HT.sIx items.size 0 lo = 0 /\ HT.sIx items.size items.size hi = items.size) (h : Q (.ref t) s) : wpAny (model prog w) A (getItem (.ref t) (.ref sl)) Q E s := by
 obtain ⟨os, hos, hcs, hds⟩ := id hs
 have hTs : s.TypeIs (.ref sl) "slice" := ⟨os, hos, hcs⟩
 unfold getItem
 try with_reducible refine wpAny_holding ?_
 first | refine wpAny_bind (wpAny_pure ?_) | skip
 refine wpAny_bind (wpAny_sequenceKey ht.typeIs (by decide) ?_)
 refine wpAny_bind (wpAny_callSpecial?_slot (name := Str.ofString "__getitem__") ht.typeIs PyProof.Rows.slot_tuple_getitem (wpAny_call_entry PyProof.Rows.slot_tuple_getitem ht.typeIs entry_tuple_getitem ?_ (args_tuple_getitem _ _)))
 show wpAny _ _ (Builtin.Tuple.tupleItemsOf (.ref t) >>= _) _ _ s
 refine wpAny_bind (tupleItemsOf_ ht (wpAny_bind (wpAny_typeOf hTs ?_)))
 rw [if_pos (by decide)]
 refine wpAny_bind (HT.sliceApplied_gen hs pl pu ?_)
 rw [hw.1, hw.2]
 show wpAny _ _ (if ((((0 : Nat) : Int)) == 0 && (1 : Int) == 1 && (items.size - 0) == items.size) = true then _ else _) _ _ s
 rw [if_pos (by simp)]
 show wpAny _ _ (Builtin.Tuple.tupleIsExact (.ref t) >>= _) _ _ s
 unfold Builtin.Tuple.tupleIsExact
 refine wpAny_bind (wpAny_bind (wpAny_typeOf ht.typeIs (wpAny_pure ?_)))
 rw [if_pos (by decide)]
 first
  | exact wpAny_bind (wpAny_rule (wpAny_bind (wpAny_pure ⟨_, rfl, wpAny_pure h⟩)))
  | exact wpAny_bind (wpAny_rule (wpAny_pure ⟨_, rfl, wpAny_pure h⟩))
  | exact wpAny_bind (wpAny_rule (wpAny_bind (wpAny_pure (wpAny_pure ⟨_, rfl, wpAny_pure h⟩))))
theorem cat_nil {t b : Addr} {vs ws : List Value} {Q : Value -> Shared -> Prop} (ht : IsTup s.heap t vs.toArray) (hb : IsTup s.heap b ws.toArray) (hv : vs = []) (h : Q (.ref b) s) : wpAny (model prog w) A (binaryOp .Add (.ref t) (.ref b)) Q E s := by
 obtain ⟨⟨cls, dd, data, sl⟩, ho, hc, n, hd⟩ := id ht
 obtain ⟨⟨cls2, dd2, data2, sl2⟩, ho2, hc2, n2, hd2⟩ := id hb
 simp only at hc hd hc2 hd2
 subst hc hd hc2 hd2
 exact concat_meets ⟨_, ho, rfl⟩ ⟨_, ho2, rfl⟩ noFill_tuple_add seq_tuple_add PySem.F.slot_tuple_add PySem.F.entry_tuple_add (PySem.F.args_tuple_add_2 _ _)
  (tuple_addW0 t b vs.toArray ws.toArray n n2 dd dd2 sl sl2 (by simp [hv])) ⟨ho, ho2, h⟩
end
section
variable {X : Cx}
end
theorem ex2 {α β : Type} {x : α} {l : β} {P : α -> β -> Prop} : (∃ v r, (x = v /\ l = r) /\ P v r) ↔ P x l := ⟨fun ⟨_, _, ⟨h1, h2⟩, h⟩ => by subst h1; subst h2; exact h, fun h => ⟨x, l, ⟨rfl, rfl⟩, h⟩⟩
end L2
namespace L2
open PySem PySem.Spec PyProof.Rows
inductive PV where
 | dat (d : PyData)
 | own (l : List PyData)
noncomputable def PV.d : PV -> PyData
 | .dat d => d
 | .own l => .list l
@[simp] theorem PV.d_dat (d : PyData) : (PV.dat d).d = d := rfl
@[simp] theorem PV.d_own (l : List PyData) : (PV.own l).d = .list l := rfl
noncomputable abbrev Ds := List (Option PV)
noncomputable abbrev As := List (Option Addr)
noncomputable def hid (H : Hp) (as : As) (O : List Addr) : Hp := fun b => if b ∈ O \/ some b ∈ as then none else H b
theorem hid_some {H : Hp} {as : As} {O : List Addr} {b : Addr} {o : HO} : hid H as O b = some o ↔ (b ∉ O /\ some b ∉ as /\ H b = some o) := by
 unfold hid
 split
 . rename_i h
   constructor
   . intro z; cases z
   . rintro ⟨h1, h2, _⟩
     exact (h.elim h1 h2).elim
 . rename_i h
   constructor
   . intro z; exact ⟨fun q => h (.inl q), fun q => h (.inr q), z⟩
   . rintro ⟨_, _, z⟩; exact z
theorem hid_le {H H' : Hp} {as as' : As} {O O' : List Addr} (e : ∀ b o, b ∉ O -> some b ∉ as -> H b = some o -> b ∉ O' /\ some b ∉ as' /\ H' b = some o) : Same (hid H as O) (hid H' as' O') := fun b o h => by
 obtain ⟨h1, h2, h3⟩ := hid_some.mp h
 exact hid_some.mpr (e b o h1 h2 h3)
theorem hid_same {H H' : Hp} {as : As} {O : List Addr} (e : Same H H') : Same (hid H as O) (hid H' as O) := hid_le fun b o h1 h2 h3 => ⟨h1, h2, e b o h3⟩
theorem hid_sub {H H' : Hp} {as as' : As} {O : List Addr} (e : Same H H') (h : ∀ b, some b ∈ as' -> some b ∈ as) : Same (hid H as O) (hid H' as' O) := hid_le fun b o h1 h2 h3 => ⟨h1, fun z => h2 (h b z), e b o h3⟩
theorem hid_all {H : Hp} {as : As} {O : List Addr} : Same (hid H as O) H := fun b o h => (hid_some.mp h).2.2
theorem hid_as {H : Hp} {as bs : As} {O : List Addr} : hid H (bs ++ as) O = hid H bs (O ++ as.filterMap id) := by
 funext b
 unfold hid
 have : (b ∈ O \/ some b ∈ bs ++ as) ↔ (b ∈ O ++ as.filterMap id \/ some b ∈ bs) := by
  simp only [List.mem_append, List.mem_filterMap, id]
  constructor
  . rintro (h | h | h)
    . exact .inl (.inl h)
    . exact .inr h
    . exact .inl (.inr ⟨_, h, rfl⟩)
  . rintro ((h | ⟨x, h, e⟩) | h)
    . exact .inl h
    . subst e; exact .inr (.inr h)
    . exact .inr (.inl h)
 by_cases c : b ∈ O \/ some b ∈ bs ++ as
 . rw [if_pos c, if_pos (this.mp c)]
 . rw [if_neg c, if_neg (fun z => c (this.mpr z))]
noncomputable def SlotOk (K : PySem.W.Frag) (O : List Addr) (as : As) (H : Hp) (si : Option (Option V)) (ai : Option (Option Addr)) : PV -> Prop
 | .dat d => ∃ v, si = some (some v) /\ Dt K (hid H as O) v d
 | .own l => ∃ a xs, si = some (some (.ref a)) /\ ai = some (some a) /\ H a = some (.lst xs) /\ Dts K (hid H as O) xs l
structure DS (K : PySem.W.Frag) (O : List Addr) (H₀ : Hp) (as : As) (σ : St) (H : Hp) (ds : Ds) : Prop where
 ls : σ.length = ds.length
 la : as.length = ds.length
 same : Same H₀ H
 new : ∀ a, some a ∈ as -> H₀ a = none /\ ∃ xs, H a = some (.lst xs)
 dom : ∀ a ∈ O, ∃ o, H₀ a = some o
 inj : ∀ (i j : Nat) (a : Addr), as[i]? = some (some a) -> as[j]? = some (some a) -> i = j
 slot : ∀ (i : Nat) (pv : PV), ds[i]? = some (some pv) -> SlotOk K O as H σ[i]? as[i]? pv
noncomputable def vis (fr : Bool) (as : As) : As := if fr = true then as else []
theorem vis_mem {fr : Bool} {as : As} {b : Addr} (h : some b ∈ vis fr as) : some b ∈ as := by
 unfold vis at h
 split at h
 . exact h
 . simp at h
noncomputable def RX (K : PySem.W.Frag) (O : List Addr) (va : As) (H H' : Hp) (v : V) : PV -> Prop
 | .dat d => Dt K (hid H' va O) v d
 | .own l => ∃ a xs, v = .ref a /\ H a = none /\ H' a = some (.lst xs) /\ Dts K (hid H' (some a :: va) O) xs l
structure Dom (H : Hp) (va : As) (O : List Addr) : Prop where
 o : ∀ a ∈ O, ∃ u, H a = some u
 a : ∀ a, some a ∈ va -> ∃ u, H a = some u
section
variable {K : PySem.W.Frag} {O : List Addr} {H₀ H H' H2 : Hp} {as va : As} {σ : St} {ds : Ds} {v : V} {pv : PV} {fr : Bool}
theorem Dom.same (D : Dom H va O) (e : Same H H') : Dom H' va O := ⟨fun a h => let ⟨u, z⟩ := D.o a h; ⟨u, e _ _ z⟩, fun a h => let ⟨u, z⟩ := D.a a h; ⟨u, e _ _ z⟩⟩
theorem DS.dm (S : DS K O H₀ as σ H ds) : Dom H (vis fr as) O := ⟨fun a h => let ⟨u, z⟩ := S.dom a h; ⟨u, S.same _ _ z⟩, fun a h => let ⟨_, z⟩ := (S.new a (vis_mem h)).2; ⟨_, z⟩⟩
theorem DS.nO (S : DS K O H₀ as σ H ds) {a : Addr} (h : some a ∈ as) : a ∉ O := fun z => by
 obtain ⟨o, e⟩ := S.dom a z
 rw [(S.new a h).1] at e
 cases e
theorem SlotOk.grow {si : Option (Option V)} {ai : Option (Option Addr)} (h : SlotOk K O as H si ai pv) (e : Same H H') : SlotOk K O as H' si ai pv := by
 cases pv with
 | dat d => obtain ⟨v, e1, h⟩ := h; exact ⟨v, e1, h.same (hid_same e)⟩
 | own l => obtain ⟨a, xs, e1, e2, e3, h⟩ := h; exact ⟨a, xs, e1, e2, e _ _ e3, h.same (hid_same e)⟩
theorem DS.grow (S : DS K O H₀ as σ H ds) (e : Same H H') : DS K O H₀ as σ H' ds :=
 ⟨S.ls, S.la, S.same.trans e, fun a h => ⟨(S.new a h).1, let ⟨o, z⟩ := (S.new a h).2; ⟨o, e _ _ z⟩⟩, S.dom, S.inj, fun i pv h => (S.slot i pv h).grow e⟩
theorem RX.grow (h : RX K O va H H' v pv) (e : Same H' H2) : RX K O va H H2 v pv := by
 cases pv with
 | dat d => exact Dt.same (hid_same e) h
 | own l => obtain ⟨a, xs, e1, e2, e3, h⟩ := h; exact ⟨a, xs, e1, e2, e _ _ e3, h.same (hid_same e)⟩
theorem RX.back (h : RX K O va H H' v pv) (e : Same H2 H) : RX K O va H2 H' v pv := by
 cases pv with
 | dat d => exact h
 | own l => obtain ⟨a, xs, e1, e2, e3, h⟩ := h; exact ⟨a, xs, e1, e.free e2, e3, h⟩
theorem RX.dt (h : RX K O va H H' v pv) (D : Dom H va O) : Dt K (hid H' va O) v pv.d := by
 cases pv with
 | dat d => exact h
 | own l =>
  obtain ⟨a, xs, rfl, e2, e3, h⟩ := h
  refine .lst (SqL.of (hid_some.mpr ⟨fun z => ?_, fun z => ?_, e3⟩)) (h.same (hid_sub (Same.refl _) fun b z => List.mem_cons_of_mem _ z))
  . obtain ⟨u, z⟩ := D.o a z
    rw [e2] at z; cases z
  . obtain ⟨u, z⟩ := D.a a z
    rw [e2] at z; cases z
theorem RX.less {vb : As} (h : RX K O va H H' v pv) (s : ∀ b, some b ∈ vb -> some b ∈ va) : RX K O vb H H' v pv := by
 cases pv with
 | dat d => exact Dt.same (hid_sub (Same.refl _) s) h
 | own l =>
  obtain ⟨a, xs, rfl, e2, e3, h⟩ := h
  refine ⟨a, xs, rfl, e2, e3, h.same (hid_sub (Same.refl _) fun b z => ?_)⟩
  rcases List.mem_cons.mp z with z | z
  . rw [z]; exact List.mem_cons_self
  . exact List.mem_cons_of_mem _ (s b z)
theorem hid_vis : Same (hid H as O) (hid H (vis fr as) O) := hid_sub (Same.refl _) fun _ h => vis_mem h
noncomputable def Flat : PyData -> Bool
 | .none => true
 | .bool _ => true
 | .int _ => true
 | .str _ => true
 | _ => false
theorem Dt.flat {d : PyData} (h : Dt K H v d) (f : Flat d = true) : Dt K H' v d := by
 cases h with
 | non => exact .non
 | bl b => exact .bl b
 | int i => exact .int i
 | str x => exact .str x
 | tup _ _ => cases f
 | lst _ _ => cases f
 | exc _ _ _ _ _ => cases f
 | fn _ => cases f
theorem Dts.append : ∀ {xs ys : List V} {ds es : List PyData}, Dts K H xs ds -> Dts K H ys es -> Dts K H (xs ++ ys) (ds ++ es)
 | _, _, _, _, .nil, h => h
 | _, _, _, _, .cons a t, h => .cons a (Dts.append t h)
theorem Dts.get' : ∀ {xs : List V} {ds : List PyData} {i : Nat} {x : V}, Dts K H xs ds -> xs[i]? = some x -> ∃ d, ds[i]? = some d /\ Dt K H x d
 | _, _, _, _, .nil, e => by simp at e
 | _, _, 0, _, .cons h _, e => by simp at e; subst e; exact ⟨_, rfl, h⟩
 | _, _, i + 1, d, .cons _ t, e => by
  obtain ⟨x, h1, h2⟩ := Dts.get' (i := i) (x := d) t (by simpa using e)
  exact ⟨x, by simpa using h1, h2⟩
theorem Dts.take : ∀ {xs : List V} {ds : List PyData} (n : Nat), Dts K H xs ds -> Dts K H (xs.take n) (ds.take n)
 | _, _, 0, _ => by simp; exact .nil
 | _, _, _ + 1, .nil => by simp; exact .nil
 | _, _, n + 1, .cons h t => by simp only [List.take_succ_cons]; exact .cons h (Dts.take n t)
theorem Dts.drop : ∀ {xs : List V} {ds : List PyData} (n : Nat), Dts K H xs ds -> Dts K H (xs.drop n) (ds.drop n)
 | _, _, 0, h => by simpa using h
 | _, _, _ + 1, .nil => by simp; exact .nil
 | _, _, n + 1, .cons h t => by simp only [List.drop_succ_cons]; exact Dts.drop n t
theorem Dts.reverse : ∀ {xs : List V} {ds : List PyData}, Dts K H xs ds -> Dts K H xs.reverse ds.reverse
 | _, _, .nil => by simp; exact .nil
 | _, _, .cons h t => by simp only [List.reverse_cons]; exact (Dts.reverse t).append (.cons h .nil)
theorem Dts.set : ∀ {xs : List V} {ds : List PyData} (i : Nat) {x : V} {d : PyData}, Dts K H xs ds -> Dt K H x d -> Dts K H (xs.set i x) (ds.set i d)
 | _, _, _, _, _, .nil, _ => by simp; exact .nil
 | _, _, 0, _, _, .cons _ t, h => by simp only [List.set_cons_zero]; exact .cons h t
 | _, _, i + 1, _, _, .cons a t, h => by simp only [List.set_cons_succ]; exact .cons a (Dts.set i t h)
end
noncomputable def TX (K : PySem.W.Frag) (fr : Bool) (te : TE) (F : Ds -> Option PV) : Prop :=
 ∀ (O : List Addr) (H₀ : Hp) (as : As) (σ : St) (H : Hp) (ds : Ds) (pv : PV) (Q : VK), DS K O H₀ as σ H ds -> F ds = some pv -> (∀ v H', Same H H' -> RX K O (vis fr as) H H' v pv -> Q v H') -> te σ H Q
structure PX (X : Cx) (fr : Bool) (e : Expr) (te : TE) (F : Ds -> Option PV) : Prop where
 p : PE X e te
 t : TX X.K fr te F
noncomputable def TTX (K : PySem.W.Frag) (tt : TT) (F : Ds -> Option Bool) : Prop :=
 ∀ (O : List Addr) (H₀ : Hp) (as : As) (σ : St) (H : Hp) (ds : Ds) (b : Bool) (Q : Bool -> Hp -> Prop), DS K O H₀ as σ H ds -> F ds = some b -> (∀ H', Same H H' -> Q b H') -> tt σ H Q
structure PTX (X : Cx) (e : Expr) (tt : TT) (F : Ds -> Option Bool) : Prop where
 p : PT X e tt
 t : TTX X.K tt F
structure PWX (X : Cx) (e : Expr) (tt : TT) (F : Ds -> Option Bool) : Prop where
 p : PW X e tt
 t : TTX X.K tt F
noncomputable def TAX (K : PySem.W.Frag) (fr : Bool) (t : TA) (F : Ds -> Option (List PyData)) : Prop :=
 ∀ (O : List Addr) (H₀ : Hp) (as : As) (σ : St) (H : Hp) (ds : Ds) (l : List PyData) (Q : List V -> Hp -> Prop), DS K O H₀ as σ H ds -> F ds = some l -> (∀ vs H', Same H H' -> Dts K (hid H' (vis fr as) O) vs l -> Q vs H') -> t σ H Q
structure PAX (X : Cx) (fr : Bool) (es : List Expr) (t : TA) (F : Ds -> Option (List PyData)) : Prop where
 p : PA X es t
 t : TAX X.K fr t F
noncomputable def R2X (K : PySem.W.Frag) (r : R2) (f : PyData -> PyData -> Option PV) : Prop :=
 ∀ (O : List Addr) (va : As) (H : Hp) (x y : V) (d e : PyData) (pv : PV) (Q : VK), Dom H va O -> Dt K (hid H va O) x d -> Dt K (hid H va O) y e -> f d e = some pv -> (∀ v H', Same H H' -> RX K O va H H' v pv -> Q v H') -> r x y H Q
noncomputable def R1X (K : PySem.W.Frag) (r : V -> Hp -> VK -> Prop) (f : PyData -> Option PV) : Prop :=
 ∀ (O : List Addr) (va : As) (H : Hp) (x : V) (d : PyData) (pv : PV) (Q : VK), Dom H va O -> Dt K (hid H va O) x d -> f d = some pv -> (∀ v H', Same H H' -> RX K O va H H' v pv -> Q v H') -> r x H Q
noncomputable def RNX (K : PySem.W.Frag) (r : List V -> Hp -> VK -> Prop) (f : List PyData -> Option PV) : Prop :=
 ∀ (O : List Addr) (va : As) (H : Hp) (xs : List V) (ds : List PyData) (pv : PV) (Q : VK), Dom H va O -> Dts K (hid H va O) xs ds -> f ds = some pv -> (∀ v H', Same H H' -> RX K O va H H' v pv -> Q v H') -> r xs H Q
noncomputable def fVar (i : Nat) : Ds -> Option PV := fun ds => match ds[i]? with
 | some (some (.dat d)) => some (.dat d)
 | _ => none
noncomputable def fVarB (i : Nat) : Ds -> Option PV := fun ds => match ds[i]? with
 | some (some pv) => some (.dat pv.d)
 | _ => none
noncomputable def fC (d : PyData) : Ds -> Option PV := fun _ => some (.dat d)
section
variable {X : Cx} {fr : Bool} {e a b c : Expr} {es rest : List Expr} {te ta tb tc : TE} {tt tu : TT} {t : TA} {Fa Fb Fc F : Ds -> Option PV} {Ft Fu : Ds -> Option Bool} {Fl : Ds -> Option (List PyData)} {pos : Pos}
theorem px_var (i : Nat) (h : PE X e (tVar i)) : PX X fr e (tVar i) (fVar i) := ⟨h, by
 intro O H₀ as σ H ds pv Q S hf q
 unfold fVar at hf
 split at hf
 . rename_i d hd
   cases hf
   obtain ⟨v, e1, h⟩ := S.slot i _ hd
   exact ⟨v, e1, q v H (Same.refl H) (h.same hid_vis)⟩
 . cases hf⟩
theorem px_c {v : V} {d : PyData} (h : PE X e (tC v)) (hd : ∀ H, Dt X.K H v d) : PX X fr e (tC v) (fC d) := ⟨h, by
 intro O H₀ as σ H ds pv Q S hf q
 cases hf
 exact q v H (Same.refl H) (hd _)⟩
theorem px_int {i : Int} {j} : PX X fr (.Constant (.int i) j pos) (tC (.int i)) (fC (.int i)) := px_c pe_int fun _ => .int i
theorem px_bl {i : Bool} {j} : PX X fr (.Constant (.bool i) j pos) (tC (.bl i)) (fC (.bool i)) := px_c pe_bl fun _ => .bl i
theorem px_str {i : Str} {j} : PX X fr (.Constant (.str i) j pos) (tC (.str i)) (fC (.str i)) := px_c pe_str fun _ => .str i
theorem px_non {j} : PX X fr (.Constant .none j pos) (tC .non) (fC .none) := px_c pe_non fun _ => .non
noncomputable def fFlat (F : Ds -> Option PV) : Ds -> Option PV := fun ds => (F ds).bind fun pv => if Flat pv.d = true then some (.dat pv.d) else none
theorem px_flat (h : PX X false e te F) : PX X fr e te (fFlat F) := ⟨h.p, by
 intro O H₀ as σ H ds pv Q S hf q
 unfold fFlat at hf
 cases hF : F ds with
 | none => rw [hF] at hf; cases hf
 | some w =>
  rw [hF] at hf
  simp only [Option.bind_some] at hf
  split at hf
  . rename_i hfl
    cases hf
    refine h.t O H₀ as σ H ds w Q S hF fun v H' e r => q v H' e ?_
    exact Dt.flat (r.dt S.dm) hfl
  . cases hf⟩
noncomputable def fOp (f : PyData -> PyData -> Option PV) (Fa Fb : Ds -> Option PV) : Ds -> Option PV := fun ds => (Fa ds).bind fun x => (Fb ds).bind fun y => f x.d y.d
theorem tx_op {r : R2} {f : PyData -> PyData -> Option PV} (hr : R2X X.K r f) (ha : PX X fr a ta Fa) (hb : PX X fr b tb Fb) : TX X.K fr (tOp r ta tb) (fOp f Fa Fb) := by
 intro O H₀ as σ H ds pv Q S hf q
 unfold fOp at hf
 cases h1 : Fa ds with
 | none => rw [h1] at hf; cases hf
 | some x =>
  rw [h1] at hf
  simp only [Option.bind_some] at hf
  cases h2 : Fb ds with
  | none => rw [h2] at hf; cases hf
  | some y =>
   rw [h2] at hf
   simp only [Option.bind_some] at hf
   refine ha.t O H₀ as σ H ds x _ S h1 fun v H1 e1 r1 => ?_
   refine hb.t O H₀ as σ H1 ds y _ (S.grow e1) h2 fun u H2 e2 r2 => ?_
   have S2 := (S.grow e1).grow e2
   refine hr O (vis fr as) H2 v u x.d y.d pv Q S2.dm ((r1.grow e2).dt S.dm) (r2.dt (S.grow e1).dm) hf fun w H3 e3 r3 => ?_
   exact q w H3 ((e1.trans e2).trans e3) (r3.back (e1.trans e2))
theorem px_op {op : Operator} {r : R2} {f : PyData -> PyData -> Option PV} (ho : OpR X (binaryOp op) r) (hr : R2X X.K r f) (ha : PX X fr a ta Fa) (hb : PX X fr b tb Fb) : PX X fr (.BinOp a op b pos) (tOp r ta tb) (fOp f Fa Fb) :=
 ⟨pe_op ho ha.p hb.p, tx_op hr ha hb⟩
theorem px_cmp {op : CmpOp} {r : R2} {f : PyData -> PyData -> Option PV} (ho : OpR X (compareOp op) r) (hr : R2X X.K r f) (hm : behindInMarks op b = false) (ha : PX X fr a ta Fa) (hb : PX X fr b tb Fb) : PX X fr (.Compare a [op] [b] pos) (tOp r ta tb) (fOp f Fa Fb) :=
 ⟨pe_cmpR ho ha.p hb.p hm, tx_op hr ha hb⟩
theorem px_ix {r : R2} {f : PyData -> PyData -> Option PV} (ho : IxR X r) (hr : R2X X.K r f) (ha : PX X fr a ta Fa) (hb : PX X fr b tb Fb) (hs : PlainIx b) : PX X fr (.Subscript a b pos) (tOp r ta tb) (fOp f Fa Fb) :=
 ⟨pe_ix ho ha.p hb.p hs, tx_op hr ha hb⟩
noncomputable def fUn (f : PyData -> Option PV) (Fa : Ds -> Option PV) : Ds -> Option PV := fun ds => (Fa ds).bind fun x => f x.d
theorem px_un {op : UnaryOp} {r : V -> Hp -> VK -> Prop} {f : PyData -> Option PV} (ho : UnR X (unaryOp op) r) (hr : R1X X.K r f) (ha : PX X fr a ta Fa) : PX X fr (.UnaryOp op a pos) (tUn r ta) (fUn f Fa) := ⟨pe_un ho ha.p, by
 intro O H₀ as σ H ds pv Q S hf q
 unfold fUn at hf
 cases h1 : Fa ds with
 | none => rw [h1] at hf; cases hf
 | some x =>
  rw [h1] at hf
  simp only [Option.bind_some] at hf
  refine ha.t O H₀ as σ H ds x _ S h1 fun v H1 e1 r1 => ?_
  refine hr O (vis fr as) H1 v x.d pv Q (S.grow e1).dm (r1.dt S.dm) hf fun w H3 e3 r3 => ?_
  exact q w H3 (e1.trans e3) (r3.back e1)⟩
noncomputable def asB : PyData -> Option Bool
 | .bool b => some b
 | _ => none
noncomputable def bVal (F : Ds -> Option PV) : Ds -> Option Bool := fun ds => (F ds).bind fun x => asB x.d
theorem ttx_b {te : TE} (h : TX X.K fr te F) : TTX X.K (tB te) (bVal F) := by
 intro O H₀ as σ H ds b Q S hf q
 unfold bVal at hf
 cases h1 : F ds with
 | none => rw [h1] at hf; cases hf
 | some x =>
  rw [h1] at hf
  simp only [Option.bind_some] at hf
  refine h O H₀ as σ H ds x _ S h1 fun v H1 e1 r1 => ?_
  have d := r1.dt S.dm
  generalize x.d = z at d hf
  cases z with
  | bool c => cases hf; cases d; exact ⟨_, rfl, q H1 e1⟩
  | _ => cases hf
theorem ptx_val (h : PX X fr e te F) (he : ∀ whole, isTrue e X.env whole = (do let v <- whole; standAt e.pos; holding [v] (truthy v)) := by intro _; rfl) : PTX X e (tB te) (bVal F) := ⟨pt_val h.p he, ttx_b h.t⟩
theorem ptx_cmp {op : CmpOp} {r : R2} {f : PyData -> PyData -> Option PV} (ho : OpR X (compareOp op) r) (hr : R2X X.K r f) (hm : behindInMarks op b = false) (ha : PX X fr a ta Fa) (hb : PX X fr b tb Fb) : PTX X (.Compare a [op] [b] pos) (tTest (tOp r ta tb)) (bVal (fOp f Fa Fb)) :=
 ⟨pt_cmpR ho ha.p hb.p hm, ttx_b (tx_op hr ha hb)⟩
noncomputable def bNot (F : Ds -> Option Bool) : Ds -> Option Bool := fun ds => (F ds).bind fun b => some (!b)
noncomputable def bAnd (F G : Ds -> Option Bool) : Ds -> Option Bool := fun ds => (F ds).bind fun b => if b = true then G ds else some false
noncomputable def bOr (F G : Ds -> Option Bool) : Ds -> Option Bool := fun ds => (F ds).bind fun b => if b = true then some true else G ds
theorem ttx_not (h : TTX X.K tt Ft) : TTX X.K (tNot tt) (bNot Ft) := by
 intro O H₀ as σ H ds b Q S hf q
 unfold bNot at hf
 cases h1 : Ft ds with
 | none => rw [h1] at hf; cases hf
 | some x =>
  rw [h1] at hf
  cases hf
  exact h O H₀ as σ H ds x _ S h1 q
theorem ttx_and (h : TTX X.K tt Ft) (k : TTX X.K tu Fu) : TTX X.K (tAnd tt tu) (bAnd Ft Fu) := by
 intro O H₀ as σ H ds b Q S hf q
 unfold bAnd at hf
 cases h1 : Ft ds with
 | none => rw [h1] at hf; cases hf
 | some x =>
  rw [h1] at hf
  simp only [Option.bind_some] at hf
  refine h O H₀ as σ H ds x _ S h1 fun H1 e1 => ?_
  cases x with
  | true => exact k O H₀ as σ H1 ds b Q (S.grow e1) hf fun H2 e2 => q H2 (e1.trans e2)
  | false => cases hf; exact q H1 e1
theorem ttx_or (h : TTX X.K tt Ft) (k : TTX X.K tu Fu) : TTX X.K (tOr tt tu) (bOr Ft Fu) := by
 intro O H₀ as σ H ds b Q S hf q
 unfold bOr at hf
 cases h1 : Ft ds with
 | none => rw [h1] at hf; cases hf
 | some x =>
  rw [h1] at hf
  simp only [Option.bind_some] at hf
  refine h O H₀ as σ H ds x _ S h1 fun H1 e1 => ?_
  cases x with
  | false => exact k O H₀ as σ H1 ds b Q (S.grow e1) hf fun H2 e2 => q H2 (e1.trans e2)
  | true => cases hf; exact q H1 e1
theorem ptx_not (h : PTX X a tt Ft) : PTX X (.UnaryOp .Not a pos) (tNot tt) (bNot Ft) := ⟨pt_not h.p, ttx_not h.t⟩
theorem pwx_and1 (h : PTX X a tt Ft) : PWX X (.BoolOp .And [a] pos) tt Ft := ⟨pw_and1 h.p, h.t⟩
theorem pwx_or1 (h : PTX X a tt Ft) : PWX X (.BoolOp .Or [a] pos) tt Ft := ⟨pw_or1 h.p, h.t⟩
theorem pwx_and (h : PTX X a tt Ft) (k : PWX X (.BoolOp .And (b :: rest) pos) tu Fu) : PWX X (.BoolOp .And (a :: b :: rest) pos) (tAnd tt tu) (bAnd Ft Fu) := ⟨pw_and h.p k.p, ttx_and h.t k.t⟩
theorem pwx_or (h : PTX X a tt Ft) (k : PWX X (.BoolOp .Or (b :: rest) pos) tu Fu) : PWX X (.BoolOp .Or (a :: b :: rest) pos) (tOr tt tu) (bOr Ft Fu) := ⟨pw_or h.p k.p, ttx_or h.t k.t⟩
theorem PWX.pt (h : PWX X a tt Ft) : PTX X a tt Ft := ⟨PW.pt h.p, h.t⟩
noncomputable def fAnd (Fa Fb : Ds -> Option PV) : Ds -> Option PV := fun ds => (bVal Fa ds).bind fun b => if b = true then Fb ds else some (.dat (.bool false))
noncomputable def fOr (Fa Fb : Ds -> Option PV) : Ds -> Option PV := fun ds => (bVal Fa ds).bind fun b => if b = true then some (.dat (.bool true)) else Fb ds
noncomputable def fNot (Fa : Ds -> Option PV) : Ds -> Option PV := fun ds => (bVal Fa ds).bind fun b => some (.dat (.bool !b))
theorem px_one {op} (h : PX X fr a ta Fa) : PX X fr (.BoolOp op [a] pos) ta Fa := ⟨pe_one h.p, h.t⟩
theorem px_and (h : PX X fr a ta Fa) (k : PX X fr (.BoolOp .And (b :: rest) pos) tb Fb) : PX X fr (.BoolOp .And (a :: b :: rest) pos) (tAndV ta tb) (fAnd Fa Fb) := ⟨pe_and h.p k.p, by
 intro O H₀ as σ H ds pv Q S hf q
 unfold fAnd at hf
 cases h1 : bVal Fa ds with
 | none => rw [h1] at hf; cases hf
 | some x =>
  rw [h1] at hf
  simp only [Option.bind_some] at hf
  refine ttx_b h.t O H₀ as σ H ds x _ S h1 fun H1 e1 => ?_
  cases x with
  | true => exact k.t O H₀ as σ H1 ds pv Q (S.grow e1) hf fun v H2 e2 r => q v H2 (e1.trans e2) (r.back e1)
  | false => cases hf; exact q _ H1 e1 (Dt.bl _)⟩
noncomputable def fIf (Ft : Ds -> Option Bool) (Fa Fb : Ds -> Option PV) : Ds -> Option PV := fun ds => (Ft ds).bind fun b => if b = true then Fa ds else Fb ds
theorem px_if (hc : PTX X c tt Ft) (h : PX X fr a ta Fa) (k : PX X fr b tb Fb) : PX X fr (.IfExp c a b pos) (tIf tt ta tb) (fIf Ft Fa Fb) := ⟨pe_ifExp hc.p h.p k.p, by
 intro O H₀ as σ H ds pv Q S hf q
 unfold fIf at hf
 cases h1 : Ft ds with
 | none => rw [h1] at hf; cases hf
 | some x =>
  rw [h1] at hf
  simp only [Option.bind_some] at hf
  refine hc.t O H₀ as σ H ds x _ S h1 fun H1 e1 => ?_
  cases x with
  | true => exact h.t O H₀ as σ H1 ds pv Q (S.grow e1) hf fun v H2 e2 r => q v H2 (e1.trans e2) (r.back e1)
  | false => exact k.t O H₀ as σ H1 ds pv Q (S.grow e1) hf fun v H2 e2 r => q v H2 (e1.trans e2) (r.back e1)⟩
noncomputable def fChain (f g : PyData -> PyData -> Option PV) (Fa Fb Fc : Ds -> Option PV) : Ds -> Option PV := fun ds => (Fa ds).bind fun x => (Fb ds).bind fun y => (f x.d y.d).bind fun r => (asB r.d).bind fun k =>
 if k = true then (Fc ds).bind fun z => g y.d z.d else some (.dat (.bool false))
noncomputable def aNil : Ds -> Option (List PyData) := fun _ => some []
noncomputable def aCons (F : Ds -> Option PV) (G : Ds -> Option (List PyData)) : Ds -> Option (List PyData) := fun ds => (F ds).bind fun x => (G ds).bind fun l => some (x.d :: l)
theorem pax_nil : PAX X fr [] tNil aNil := ⟨pa_nil, by
 intro O H₀ as σ H ds l Q S hf q
 cases hf
 exact q [] H (Same.refl H) .nil⟩
theorem pax_cons (h : PX X fr e te F) (k : PAX X fr es t Fl) (hs : starEach (e :: es) X.env = (false, eval e X.env) :: starEach es X.env := by rfl) : PAX X fr (e :: es) (tCons te t) (aCons F Fl) := ⟨pa_cons h.p k.p hs, by
 intro O H₀ as σ H ds l Q S hf q
 unfold aCons at hf
 cases h1 : F ds with
 | none => rw [h1] at hf; cases hf
 | some x =>
  cases h2 : Fl ds with
  | none => rw [h1, h2] at hf; cases hf
  | some m =>
   rw [h1, h2] at hf
   cases hf
   refine h.t O H₀ as σ H ds x _ S h1 fun v H1 e1 r1 => ?_
   refine k.t O H₀ as σ H1 ds m _ (S.grow e1) h2 fun vs H2 e2 r2 => ?_
   exact q (v :: vs) H2 (e1.trans e2) (.cons ((r1.grow e2).dt S.dm) r2)⟩
theorem Dom.fresh {H : Hp} {va : As} {O : List Addr} (D : Dom H va O) {p : Addr} (h : H p = none) : p ∉ O /\ some p ∉ va := by
 refine ⟨fun z => ?_, fun z => ?_⟩
 . obtain ⟨u, z⟩ := D.o p z
   rw [h] at z; cases z
 . obtain ⟨u, z⟩ := D.a p z
   rw [h] at z; cases z
theorem rx_tup {K : PySem.W.Frag} {H : Hp} {va : As} {O : List Addr} {p : Addr} {vs : List V} {l : List PyData} (D : Dom H va O) (h : H p = none) (hd : Dts K (hid H va O) vs l) : RX K O va H (upd H p (.tup vs)) (.ref p) (.dat (.tuple l)) := by
 obtain ⟨h1, h2⟩ := D.fresh h
 exact Dt.tup (SqT.of (hid_some.mpr ⟨h1, h2, upd_same⟩)) (hd.same (hid_same (Same.new h)))
theorem rx_lst {K : PySem.W.Frag} {H : Hp} {va : As} {O : List Addr} {p : Addr} {vs : List V} {l : List PyData} (h : H p = none) (hd : Dts K (hid H va O) vs l) : RX K O va H (upd H p (.lst vs)) (.ref p) (.own l) := by
 refine ⟨p, vs, rfl, h, upd_same, hd.same (hid_le fun b o h1 h2 h3 => ⟨h1, fun z => ?_, ?_⟩)⟩
 . rcases List.mem_cons.mp z with z | z
   . cases z; rw [h] at h3; cases h3
   . exact h2 z
 . exact Same.new h _ _ h3
noncomputable def fTup (Fl : Ds -> Option (List PyData)) : Ds -> Option PV := fun ds => (Fl ds).bind fun l => if l.length <= 1000000 then some (.dat (.tuple l)) else none
noncomputable def fLst (Fl : Ds -> Option (List PyData)) : Ds -> Option PV := fun ds => (Fl ds).bind fun l => if l.length <= 1000000 then some (.own l) else none
theorem szM {n : Nat} (h : n <= 1000000) : n <= sizeLine := Nat.le_trans h (by rw [sizeLine_eq]; decide)
theorem px_tup {x1} (h : PAX X fr es t Fl) : PX X fr (.Tuple es x1 pos) (tTup t) (fTup Fl) := ⟨pe_tup h.p, by
 intro O H₀ as σ H ds pv Q S hf q
 unfold fTup at hf
 cases h1 : Fl ds with
 | none => rw [h1] at hf; cases hf
 | some l =>
  rw [h1] at hf
  simp only [Option.bind_some] at hf
  split at hf
  . rename_i hl
    cases hf
    refine h.t O H₀ as σ H ds l _ S h1 fun vs H1 e1 r1 => ⟨by rw [r1.length]; exact szM hl, fun p hp => ?_⟩
    exact q _ _ (e1.trans (Same.new hp)) (RX.back (rx_tup (S.grow e1).dm hp r1) e1)
  . cases hf⟩
theorem px_lst (h : PAX X fr es t Fl) : PX X fr (.List es pos) (tLst t) (fLst Fl) := ⟨pe_lst h.p, by
 intro O H₀ as σ H ds pv Q S hf q
 unfold fLst at hf
 cases h1 : Fl ds with
 | none => rw [h1] at hf; cases hf
 | some l =>
  rw [h1] at hf
  simp only [Option.bind_some] at hf
  split at hf
  . rename_i hl
    cases hf
    refine h.t O H₀ as σ H ds l _ S h1 fun vs H1 e1 r1 => ⟨by rw [r1.length]; exact szM hl, fun p hp => ?_⟩
    exact q _ _ (e1.trans (Same.new hp)) (RX.back (rx_lst hp r1) e1)
  . cases hf⟩
noncomputable def fCall (F : List PyData -> Option PV) (Fl : Ds -> Option (List PyData)) : Ds -> Option PV := fun ds => (Fl ds).bind F
theorem tx_cb {r : List V -> Hp -> VK -> Prop} {f : List PyData -> Option PV} (hr : RNX X.K r f) (h : PAX X fr es t Fl) : TX X.K fr (tCB r t) (fCall f Fl) := by
 intro O H₀ as σ H ds pv Q S hf q
 unfold fCall at hf
 cases h1 : Fl ds with
 | none => rw [h1] at hf; cases hf
 | some l =>
  rw [h1] at hf
  simp only [Option.bind_some] at hf
  refine h.t O H₀ as σ H ds l _ S h1 fun vs H1 e1 r1 => ?_
  refine hr O (vis fr as) H1 vs l pv Q (S.grow e1).dm r1 hf fun w H3 e3 r3 => ?_
  exact q w H3 (e1.trans e3) (r3.back e1)
theorem px_callB {id : String} {x : Str} {p : Pos} {r : List V -> Hp -> VK -> Prop} {f : List PyData -> Option PV} (hc : CallR X (.builtin id) r) (hr : RNX X.K r f) (hg : Gl X x) (hm : X.mg x = none) (hv : bootBuiltins x = some (.builtin id)) (ha : PAX X fr (e :: es) t Fl) (hn : x ≠ "__name__" := by decide) (hdb : (x == ("__debug__" : Str)) = false := by decide)
  (he : starEach (e :: es) X.env = (false, eval e X.env) :: starEach es X.env := by rfl) (hpl : (backTo pos (starEach es X.env)).any (·.1) = false := by rfl) : PX X fr (.Call (.Name x p) (e :: es) [] pos) (tCB r t) (fCall f Fl) := ⟨pe_callB hc hg hm hv ha.p hn hdb he hpl, tx_cb hr ha⟩
theorem px_callTy {T : String} {x : Str} {p : Pos} {r : List V -> Hp -> VK -> Prop} {f : List PyData -> Option PV} (hc : CallR X (.type T) r) (hr : RNX X.K r f) (hg : Gl X x) (hm : X.mg x = none) (hv : bootBuiltins x = some (.type T)) (ha : PAX X fr (e :: es) t Fl) (hn : x ≠ "__name__" := by decide) (hdb : (x == ("__debug__" : Str)) = false := by decide)
  (he : starEach (e :: es) X.env = (false, eval e X.env) :: starEach es X.env := by rfl) (hpl : (backTo pos (starEach es X.env)).any (·.1) = false := by rfl) : PX X fr (.Call (.Name x p) (e :: es) [] pos) (tCB r t) (fCall f Fl) := ⟨pe_callTy hc hg hm hv ha.p hn hdb he hpl, tx_cb hr ha⟩
noncomputable def spF (K : PySem.W.Frag) (F : List PyData -> Option PV) : Sp := fun vs H Q _ => ∃ (O : List Addr) (ds : List PyData) (pv : PV), (∀ a ∈ O, ∃ u, H a = some u) /\ Dts K (hid H [] O) vs ds /\ F ds = some pv /\ ∀ v H', Same H H' -> RX K O [] H H' v pv -> Q v H'
theorem tx_call {E : XK} {f : List PyData -> Option PV} (h : PAX X fr es t Fl) : TX X.K fr (tCall (spF X.K f) [] E t) (fCall f Fl) := by
 intro O H₀ as σ H ds pv Q S hf q
 unfold fCall at hf
 cases h1 : Fl ds with
 | none => rw [h1] at hf; cases hf
 | some l =>
  rw [h1] at hf
  simp only [Option.bind_some] at hf
  refine h.t O H₀ as σ H ds l _ S h1 fun vs H1 e1 r1 => ?_
  have D := (S.grow e1).dm (fr := fr)
  rw [List.append_nil]
  have hh : ∀ H, hid H (vis fr as) O = hid H [] (O ++ (vis fr as).filterMap id) := fun H => hid_as (bs := [])
  refine ⟨O ++ (vis fr as).filterMap id, l, pv, fun a ha => ?_, by rw [<- hh]; exact r1, hf, fun v H2 e2 r2 => q v H2 (e1.trans e2) ?_⟩
  . rcases List.mem_append.mp ha with ha | ha
    . exact D.o a ha
    . obtain ⟨x, hx, e⟩ := List.mem_filterMap.mp ha
      have e' : x = some a := e
      subst e'
      exact D.a a hx
  . cases pv with
    | dat d =>
     have r2' : Dt X.K (hid H2 [] (O ++ (vis fr as).filterMap id)) v d := r2
     rw [<- hh] at r2'
     exact r2'
    | own l =>
     obtain ⟨a, xs, e3, e4, e5, r3⟩ := r2
     refine ⟨a, xs, e3, e1.free e4, e5, ?_⟩
     rw [show (some a :: vis fr as : As) = [some a] ++ vis fr as from rfl, hid_as]
     exact r3
theorem px_call {CX : CXT} {E : XK} {k : Nat} {f : Addr} {fd : FuncData} {ps : List Str} {x : Str} {p : Pos} {f' : List PyData -> Option PV} (G : FnOk X.prog X.w X.K X.mg X.base CX k f fd ps (spF X.K f')) (hr : Room k X.A) (hg : Gl X x) (hm : X.mg x = some (.ref f)) (hk : PySem.W.keepIn X.K (.ref f) = true) (hb : Binds X.K fd ps []) (hx : Passes CX X E)
  (ha : PAX X fr (e :: es) t Fl) (hdb : (x == ("__debug__" : Str)) = false := by decide) (he : starEach (e :: es) X.env = (false, eval e X.env) :: starEach es X.env := by rfl) (hpl : (backTo pos (starEach es X.env)).any (·.1) = false := by rfl) :
  PX X fr (.Call (.Name x p) (e :: es) [] pos) (tCall (spF X.K f') [] E t) (fCall f' Fl) := ⟨pe_call G hr hg hm hk hb .nil hx ha.p hdb he hpl, tx_call ha⟩
end
end L2
namespace L2
open PySem PySem.Spec PyProof.Rows
noncomputable def frz (ds : Ds) : Ds := ds.map (Option.map fun pv => .dat pv.d)
theorem rep_mem {b : Addr} {n : Nat} : some b ∉ (List.replicate n none : As) := fun z => by simp [List.mem_replicate] at z
theorem hid_rep {H : Hp} {n : Nat} {O : List Addr} : hid H (List.replicate n none) O = hid H [] O := by
 funext b
 unfold hid
 have h1 := rep_mem (b := b) (n := n)
 by_cases c : b ∈ O
 . rw [if_pos (.inl c), if_pos (.inl c)]
 . rw [if_neg (fun z => z.elim c h1), if_neg (fun z => z.elim c (by simp))]
section
variable {K : PySem.W.Frag} {O : List Addr} {H₀ H H' : Hp} {as : As} {σ : St} {ds : Ds} {v : V} {pv : PV} {fr : Bool}
theorem SlotOk.frz {si : Option (Option V)} {ai bi : Option (Option Addr)} {bs : As} (S : DS K O H₀ as σ H ds) (hi : ∀ a, ai = some (some a) -> some a ∈ as) (h : SlotOk K O as H si ai pv) (hb : ∀ b, some b ∈ bs -> some b ∈ as)
  (ho : ∀ a, ai = some (some a) -> some a ∉ bs) : SlotOk K O bs H si bi (.dat pv.d) := by
 cases pv with
 | dat d => obtain ⟨v, e1, h⟩ := h; exact ⟨v, e1, h.same (hid_sub (Same.refl _) hb)⟩
 | own l =>
  obtain ⟨a, xs, e1, e2, e3, h⟩ := h
  exact ⟨_, e1, .lst (SqL.of (hid_some.mpr ⟨S.nO (hi a e2), ho a e2, e3⟩)) (h.same (hid_sub (Same.refl _) hb))⟩
theorem DS.frz (S : DS K O H₀ as σ H ds) : DS K O H₀ (List.replicate ds.length none) σ H (frz ds) where
 ls := by simp [L2.frz, S.ls]
 la := by simp [L2.frz]
 same := S.same
 new := fun a h => absurd h rep_mem
 dom := S.dom
 inj := fun i j a h _ => absurd (List.mem_of_getElem? h) rep_mem
 slot := fun i pv h => by
  unfold L2.frz at h
  rw [List.getElem?_map] at h
  cases hd : ds[i]? with
  | none => rw [hd] at h; cases h
  | some x =>
   cases x with
   | none => rw [hd] at h; cases h
   | some w =>
    rw [hd] at h
    cases h
    exact (S.slot i w hd).frz S (fun a e => List.mem_of_getElem? e) (fun b z => absurd z rep_mem) (fun a _ => rep_mem)
noncomputable def frz1 (i : Nat) (ds : Ds) : Ds := match ds[i]? with
 | some (some (.own l)) => ds.set i (some (.dat (.list l)))
 | _ => ds
end
section
variable {X : Cx} {fr : Bool} {e : Expr} {te : TE} {F : Ds -> Option PV}
noncomputable def fFrz (F : Ds -> Option PV) : Ds -> Option PV := fun ds => F (frz ds)
theorem px_frz (h : PX X true e te F) : PX X false e te (fFrz F) := ⟨h.p, by
 intro O H₀ as σ H ds pv Q S hf q
 refine h.t O H₀ _ σ H _ pv Q S.frz hf fun v H' e r => q v H' e ?_
 exact r.less fun b z => by simp [vis] at z⟩
end
noncomputable def ItOk (K : PySem.W.Frag) (O : List Addr) (Hb : Hp) (J : It) (items : List PyData) : Prop :=
 ∀ H', Same Hb H' -> ∀ i, (i < items.length -> J.go i H') /\ (items.length <= i -> J.stop i H') /\
  ∀ x H'', J.yld i H' x H'' -> i < items.length -> Same H' H'' /\ ∃ d, items[i]? = some d /\ ∀ vb : As, (∀ b, some b ∈ vb -> Hb b = none /\ ∃ o, H' b = some o) -> (∀ b ∈ O, ∃ o, Hb b = some o) -> Dt K (hid H'' vb O) x d
noncomputable def TIX (K : PySem.W.Frag) (fr : Bool) (wi : TI) (Fi : Ds -> Option (List PyData)) : Prop :=
 ∀ (O : List Addr) (H₀ : Hp) (as : As) (σ : St) (H : Hp) (ds : Ds) (items : List PyData) (R : It -> Hp -> Prop), DS K O H₀ as σ H ds -> Fi ds = some items -> (∀ J H1, Same H H1 -> ItOk K O (hid H1 (vis fr as) []) J items -> R J H1) -> wi σ H R
structure PIX (X : Cx) (fr : Bool) (tg e : Expr) (wi : TI) (Fi : Ds -> Option (List PyData)) : Prop where
 p : PI X tg e wi
 t : TIX X.K fr wi Fi
noncomputable def seqOf : PyData -> Option (List PyData)
 | .list l => some l
 | .tuple l => some l
 | _ => none
noncomputable def iSq (F : Ds -> Option PV) : Ds -> Option (List PyData) := fun ds => (F ds).bind fun pv => seqOf pv.d
theorem it_seq {K : PySem.W.Frag} {O : List Addr} {H1 H' H'' : Hp} {va vb : As} {x : V} {d : PyData} (h : Dt K (hid H1 va O) x d) (e : Same (hid H1 va []) H') (e2 : Same H' H'') (hv : ∀ b, some b ∈ vb -> hid H1 va [] b = none /\ ∃ o, H' b = some o) : Dt K (hid H'' vb O) x d :=
 h.same (hid_le fun b o h1 h2 h3 => by
  have hb : hid H1 va [] b = some o := hid_some.mpr ⟨by simp, h2, h3⟩
  refine ⟨h1, fun z => ?_, e2 _ _ (e _ _ hb)⟩
  rw [(hv b z).1] at hb
  cases hb)
theorem hid_O {H1 : Hp} {va : As} {O : List Addr} : Same (hid H1 va O) (hid H1 va []) := hid_le fun b o _ h2 h3 => ⟨by simp, h2, h3⟩
section
variable {X : Cx} {fr : Bool} {tg e a b : Expr} {te : TE} {ta : TA} {F : Ds -> Option PV} {Fl : Ds -> Option (List PyData)} {p pos : Pos}
noncomputable def rngI (lo : Int) (n : Nat) : List PyData := (List.range n).map fun k => .int (lo + (k : Nat))
theorem it_rng {K : PySem.W.Frag} {O : List Addr} {Hb : Hp} {lo : Int} {n : Nat} : ItOk K O Hb (Itr lo n) (rngI lo n) := by
 intro H' e i
 have hl : (rngI lo n).length = n := by simp [rngI]
 refine ⟨fun hi => (by rw [hl] at hi; exact hi), fun hi => (by rw [hl] at hi; exact hi), fun x H'' y hi => ?_⟩
 obtain ⟨e1, e2⟩ := y
 subst e1
 subst e2
 rw [hl] at hi
 refine ⟨Same.refl _, .int (lo + i), ?_, fun vb _ _ => .int _⟩
 simp [rngI, List.getElem?_range hi]
noncomputable def rng1 : List PyData -> Option (List PyData)
 | [.int j] => @ite _ (-(4611686018427387904) <= j /\ j < 4611686018427387904) (Classical.propDecidable _) (some (rngI 0 j.toNat)) none
 | _ => none
noncomputable def iFn (f : List PyData -> Option (List PyData)) (Fl : Ds -> Option (List PyData)) : Ds -> Option (List PyData) := fun ds => (Fl ds).bind f
theorem pix_range1 (hg : Gl X "range") (hm : X.mg "range" = none) (ha : PAX X fr [a] ta Fl) (hs : starEach [a] X.env = [(false, eval a X.env)] := by rfl) : PIX X fr tg (.Call (.Name "range" p) [a] [] pos) (iRng1 ta) (iFn rng1 Fl) := ⟨pi_range1 hg hm ha.p hs, by
 intro O H₀ as σ H ds items R S hf q
 unfold iFn at hf
 cases h1 : Fl ds with
 | none => rw [h1] at hf; cases hf
 | some l =>
  rw [h1] at hf
  simp only [Option.bind_some] at hf
  refine ha.t O H₀ as σ H ds l _ S h1 fun vs H1 e1 r1 => ?_
  unfold rng1 at hf
  split at hf
  . rename_i j
    split at hf
    . rename_i hj
      cases hf
      cases r1 with
      | cons r rr =>
       cases r
       cases rr
       exact ⟨j, rfl, hj.1, hj.2, q _ H1 e1 it_rng⟩
    . cases hf
  . cases hf⟩
noncomputable def iZipX (K : PySem.W.Frag) (ta : TA) : TI := fun σ H R => ta σ H fun vs H1 => ∃ a b k1 k2, vs = [.ref a, .ref b] /\ (∃ xs, SqK k1 K H1 a xs) /\ (∃ ys, SqK k2 K H1 b ys) /\ R (Itz k1 k2 K a b) H1
theorem pi_zipX {es : List Expr} {k : Nat} {tp : Pos} (hg : Gl X "zip") (hm : X.mg "zip" = none) (ha : PA X [a, b] ta) (hs : starEach [a, b] X.env = [(false, eval a X.env), (false, eval b X.env)] := by rfl) (hs2 : starEach [b] X.env = [(false, eval b X.env)] := by rfl) :
  PI X (.Tuple es k tp) (.Call (.Name "zip" p) [a, b] [] pos) (iZipX X.K ta) := by
 intro pins s σ H R I h
 refine Call_ (ld_blt I hg hm boot_zip (PyProof.Rows.callWith_type1 (thn (ha pos pins s σ H _ I h) fun us s1 ⟨vs, H1, I1, r1, q1⟩ => ?_) (by rw [hs, hs2]) (by rw [hs2]; rfl)))
 obtain ⟨x, y, k1, k2, e, ⟨xs, hx⟩, ⟨ys, hy⟩, q⟩ := q1
 subst e
 obtain ⟨u, v, e, r2, r3⟩ := vals2 r1
 subst e
 cases r2
 cases r3
 obtain ⟨us, sx⟩ := I1.seqK hx
 obtain ⟨vs, sy⟩ := I1.seqK hy
 refine call_zipK sx sy fun h' Z kk => ?_
 refine wpAny_pyIter_zip Z.hz ?_
 have I2 : Inv X pins σ H1 { s1 with heap := h' } := I1.kept (t' := s1.toks) kk
 refine ⟨s1.heap.objs.size + 4, _, _, _, H1, rfl, I2, turn_zip (zipD_new _), Z, fun b hb => ?_, q⟩
 have hb' : b = s1.heap.objs.size + 4 \/ b = s1.heap.objs.size + 2 \/ b = s1.heap.objs.size + 3 \/ b = s1.heap.objs.size \/ b = s1.heap.objs.size + 1 := by simpa using hb
 have hge : s1.heap.objs.size <= b := by
  rcases hb' with e | e | e | e | e <;> rw [e]
  . exact Nat.le_add_right _ _
  . exact Nat.le_add_right _ _
  . exact Nat.le_add_right _ _
  . exact Nat.le_refl _
  . exact Nat.le_add_right _ _
 exact I1.fpOk hge (I1.hok.fresh hge)
theorem Same.seqK {kd : Bool} {K : PySem.W.Frag} {H H' : Hp} {a : Addr} {xs : List V} (e : Same H H') (h : SqK kd K H a xs) : SqK kd K H' a xs := by
 cases kd
 . exact e.seq h
 . exact e.seqT h
theorem Dt.seqK {K : PySem.W.Frag} {H : Hp} {v : V} {d : PyData} {l : List PyData} (h : Dt K H v d) (hd : seqOf d = some l) : ∃ a kd xs, v = .ref a /\ SqK kd K H a xs /\ Dts K H xs l := by
 cases h with
 | lst hs ht => cases hd; exact ⟨_, false, _, rfl, hs, ht⟩
 | tup hs ht => cases hd; exact ⟨_, true, _, rfl, hs, ht⟩
 | _ => cases hd
noncomputable def zipD : List PyData -> Option (List PyData)
 | [d, e] => (seqOf d).bind fun l => (seqOf e).bind fun m => some (List.zipWith (fun x y => .tuple [x, y]) l m)
 | _ => none
theorem pix_zip {es : List Expr} {k : Nat} {tp : Pos} (hg : Gl X "zip") (hm : X.mg "zip" = none) (ha : PAX X fr [a, b] ta Fl) (hs : starEach [a, b] X.env = [(false, eval a X.env), (false, eval b X.env)] := by rfl) (hs2 : starEach [b] X.env = [(false, eval b X.env)] := by rfl) :
  PIX X fr (.Tuple es k tp) (.Call (.Name "zip" p) [a, b] [] pos) (iZipX X.K ta) (iFn zipD Fl) := ⟨pi_zipX hg hm ha.p hs hs2, by
 intro O H₀ as σ H ds items R S hf q
 unfold iFn at hf
 cases h1 : Fl ds with
 | none => rw [h1] at hf; cases hf
 | some l =>
  rw [h1] at hf
  simp only [Option.bind_some] at hf
  refine ha.t O H₀ as σ H ds l _ S h1 fun vs H1 e1 r1 => ?_
  unfold zipD at hf
  split at hf
  . rename_i d1 d2
    cases hl : seqOf d1 with
    | none => rw [hl] at hf; cases hf
    | some l1 =>
     cases hl2 : seqOf d2 with
     | none => rw [hl, hl2] at hf; cases hf
     | some l2 =>
      rw [hl, hl2] at hf
      cases hf
      cases r1 with
      | cons r rr =>
       cases rr with
       | cons r' rr =>
        cases rr
        obtain ⟨a, k1, xs, rfl, s1, t1⟩ := r.seqK hl
        obtain ⟨b, k2, ys, rfl, s2, t2⟩ := r'.seqK hl2
        refine ⟨a, b, k1, k2, rfl, ⟨xs, hid_all.seqK s1⟩, ⟨ys, hid_all.seqK s2⟩, q _ H1 e1 fun H' e' i => ?_⟩
        have s1' : SqK k1 X.K H' a xs := e'.seqK (hid_O.seqK s1)
        have s2' : SqK k2 X.K H' b ys := e'.seqK (hid_O.seqK s2)
        have g1 := t1.length
        have g2 := t2.length
        rw [List.length_zipWith]
        refine ⟨fun hi => ⟨xs, ys, xs[i]'(by omega), ys[i]'(by omega), s1', s2', List.getElem?_eq_getElem _, List.getElem?_eq_getElem _⟩, fun hi => ⟨xs, ys, s1', s2', by omega⟩, fun x H'' y hi => ?_⟩
        obtain ⟨pp, z1, z2, x', y', z3, z4⟩ := y
        obtain ⟨z5, z6⟩ := z4 xs ys s1' s2'
        subst z1
        subst z3
        obtain ⟨dx, ex, hx⟩ := t1.get' z5
        obtain ⟨dy, ey, hy⟩ := t2.get' z6
        refine ⟨Same.new z2, .tuple [dx, dy], by rw [List.getElem?_zipWith, ex, ey], fun vb hv hO => ?_⟩
        refine .tup (SqT.of (hid_some.mpr ⟨fun z => ?_, fun z => ?_, upd_same⟩)) (.cons (it_seq hx e' (Same.new z2) hv) (.cons (it_seq hy e' (Same.new z2) hv) .nil))
        . obtain ⟨o, z⟩ := hO _ z
          rw [e' _ _ z] at z2
          cases z2
        . obtain ⟨_, o, z⟩ := hv _ z
          rw [z] at z2
          cases z2
  . cases hf⟩
end
noncomputable def TGB (K : PySem.W.Frag) (n : Nat) (g : TG) (gt : PyData -> Option (List PyData)) : Prop :=
 ∀ (O : List Addr) (va : As) (H : Hp) (v : V) (d : PyData) (σ : St) (bs : List PyData) (Q : St -> Hp -> Prop), Dt K (hid H va O) v d -> gt d = some bs -> (∀ vs, Dts K (hid H va O) vs bs -> vs.length = n -> Q (vs.map some ++ σ) H) -> g v (List.replicate n none ++ σ) H Q
noncomputable def gtName : PyData -> Option (List PyData) := fun d => some [d]
noncomputable def gtTup (n : Nat) : PyData -> Option (List PyData)
 | .tuple l => if l.length = n then some l else none
 | _ => none
theorem tgb_name {K : PySem.W.Frag} : TGB K 1 (gName 0) gtName := by
 intro O va H v d σ bs Q hd hg q
 cases hg
 exact q [v] (.cons hd .nil) rfl
theorem len2 {α : Type} : ∀ {l : List α}, l.length = 2 -> ∃ x y, l = [x, y]
 | [x, y], _ => ⟨x, y, rfl⟩
theorem len3 {α : Type} : ∀ {l : List α}, l.length = 3 -> ∃ x y z, l = [x, y, z]
 | [x, y, z], _ => ⟨x, y, z, rfl⟩
theorem tgb_tup2 {K : PySem.W.Frag} : TGB K 2 (gTup K 2 (gCons (gName 0) (gCons (gName 1) gNil))) (gtTup 2) := by
 intro O va H v d σ bs Q hd hg q
 cases hd with
 | tup hs ht =>
  rename_i a xs l
  have hg' : (if l.length = 2 then some l else none) = some bs := hg
  split at hg'
  . rename_i hl
    have e : l = bs := Option.some.inj hg'
    rw [e] at ht hl
    have hx : xs.length = 2 := ht.length.trans hl
    obtain ⟨x, y, rfl⟩ := len2 hx
    exact ⟨a, [x, y], rfl, hid_all.seqT hs, rfl, x, [y], rfl, y, [], rfl, rfl, q [x, y] ht rfl⟩
  . cases hg'
 | _ => cases hg
noncomputable def dats (l : List PyData) : Ds := l.map fun d => some (.dat d)
@[simp] theorem dats_nil : dats [] = [] := rfl
@[simp] theorem dats_cons (d : PyData) (l : List PyData) : dats (d :: l) = some (.dat d) :: dats l := rfl
theorem Dts.slots {K : PySem.W.Frag} {H : Hp} {vs : List V} {l : List PyData} (h : Dts K H vs l) {i : Nat} {pv : PV} (e : (dats l)[i]? = some (some pv)) : ∃ d v, pv = .dat d /\ vs[i]? = some v /\ Dt K H v d := by
 unfold dats at e
 rw [List.getElem?_map] at e
 cases hd : l[i]? with
 | none => rw [hd] at e; cases e
 | some d =>
  rw [hd] at e
  cases e
  obtain ⟨x, h1, h2⟩ := h.get hd
  exact ⟨d, x, rfl, h1, h2⟩
theorem hid_pre {H : Hp} {n : Nat} {as : As} {O : List Addr} : hid H (List.replicate n none ++ as) O = hid H as O := by
 funext b
 unfold hid
 have : some b ∈ List.replicate n none ++ as ↔ some b ∈ as := by
  rw [List.mem_append]
  exact ⟨fun z => z.elim (fun z => absurd z rep_mem) id, .inr⟩
 by_cases c : b ∈ O \/ some b ∈ as
 . rw [if_pos (c.imp id this.mpr), if_pos c]
 . rw [if_neg (fun z => c (z.imp id this.mp)), if_neg c]
theorem DS.pre {K : PySem.W.Frag} {O : List Addr} {H₀ H : Hp} {as : As} {σ : St} {ds : Ds} {vs : List V} {l : List PyData} (S : DS K O H₀ as σ H ds) (h : Dts K (hid H as O) vs l) :
  DS K O H₀ (List.replicate l.length none ++ as) (vs.map some ++ σ) H (dats l ++ ds) where
 ls := by simp [dats, S.ls, h.length]
 la := by simp [dats, S.la]
 same := S.same
 new := fun a z => S.new a ((List.mem_append.mp z).elim (fun z => absurd z rep_mem) id)
 dom := S.dom
 inj := fun i j a h1 h2 => by
  have f : ∀ i, (List.replicate l.length none ++ as)[i]? = some (some a) -> l.length <= i /\ as[i - l.length]? = some (some a) := fun i z => by
   rw [List.getElem?_append] at z
   split at z
   . exact absurd (List.mem_of_getElem? z) rep_mem
   . rename_i hi
     rw [List.length_replicate] at hi z
     exact ⟨by omega, z⟩
  obtain ⟨h3, h4⟩ := f i h1
  obtain ⟨h5, h6⟩ := f j h2
  have := S.inj _ _ a h4 h6
  omega
 slot := fun i pv e => by
  have hl := h.length
  have ld : (dats l).length = l.length := by simp [dats]
  rw [List.getElem?_append] at e
  split at e
  . rename_i hi
    rw [ld] at hi
    obtain ⟨d, v, rfl, h1, h2⟩ := h.slots e
    refine ⟨v, ?_, by rw [hid_pre]; exact h2⟩
    rw [List.getElem?_append_left (by simp; omega), List.getElem?_map, h1]
    rfl
  . rename_i hi
    rw [ld] at hi e
    have sl := S.slot _ pv e
    rw [List.getElem?_append_right (by simp; omega), List.getElem?_append_right (by simp; omega)]
    simp only [List.length_map, List.length_replicate, hl]
    cases pv with
    | dat d => obtain ⟨v, e1, h⟩ := sl; exact ⟨v, e1, by rw [hid_pre]; exact h⟩
    | own l' => obtain ⟨a, xs, e1, e2, e3, h⟩ := sl; exact ⟨a, xs, e1, e2, e3, by rw [hid_pre]; exact h⟩
noncomputable def compD (gt : PyData -> Option (List PyData)) (Fc : Ds -> Option Bool) (Fe : Ds -> Option PV) (ds : Ds) : List PyData -> Option (List PyData)
 | [] => some []
 | x :: r => (gt x).bind fun bs => (Fc (dats bs ++ ds)).bind fun b => if b = true then (Fe (dats bs ++ ds)).bind fun y => (compD gt Fc Fe ds r).bind fun l => some (y.d :: l) else compD gt Fc Fe ds r
noncomputable def fComp (Fi : Ds -> Option (List PyData)) (gt : PyData -> Option (List PyData)) (Fc : Ds -> Option Bool) (Fe : Ds -> Option PV) : Ds -> Option PV := fun ds => (Fi ds).bind fun items => if items.length <= 1000000 then (compD gt Fc Fe ds items).bind fun l => some (.own l) else none
structure PIfsX (X : Cx) (ifs : List Expr) (t : TT) (F : Ds -> Option Bool) : Prop where
 p : PIfs X ifs t
 t : TTX X.K t F
noncomputable def bTrue : Ds -> Option Bool := fun _ => some true
theorem pifsx_nil {X : Cx} : PIfsX X [] tIfs0 bTrue := ⟨pifs_nil, by
 intro O H₀ as σ H ds b Q S hf q
 cases hf
 exact q H (Same.refl H)⟩
theorem px_comp {X : Cx} {bs nb : List Str} {elt tg iter : Expr} {ifs : List Expr} {scope : Scope} {pos : Pos} {wi : TI} {g : TG} {tt : TT} {te : TE} {Fi : Ds -> Option (List PyData)} {gt : PyData -> Option (List PyData)} {Fc : Ds -> Option Bool} {Fe : Ds -> Option PV}
  (hc : X.calm = true) (B : BlkOk X bs nb scope) (hi : PIX X true tg iter wi Fi) (go : GOwn bs.length g) (hg : ∀ cl C fp s H pins, PG (blk X bs nb scope cl C fp s H pins) tg g) (hgt : TGB X.K bs.length g gt) (ht : ∀ cl C fp s H pins, PIfsX (blk X bs nb scope cl C fp s H pins) ifs tt Fc) (he : ∀ cl C fp s H pins, PX (blk X bs nb scope cl C fp s H pins) true elt te Fe)
  (hs : ∀ x, foldedSetIterable iter X.env x = pure x := by intro _; rfl) : PX X true (.ListComp elt [⟨tg, iter, ifs, 0⟩] scope pos) (tComp bs wi g tt te) (fComp Fi gt Fc Fe) := ⟨pe_comp hc B hi.p go hg (fun _ _ _ _ _ _ => (ht _ _ _ _ _ _).p) (fun _ _ _ _ _ _ => (he _ _ _ _ _ _).p) hs, by
 intro O H₀ as σ H ds pv Q S hf q
 have tE : TX X.K true te Fe := (he [] 0 [] X.s₀ X.H₀ []).t
 have tC : TTX X.K tt Fc := (ht [] 0 [] X.s₀ X.H₀ []).t
 unfold fComp at hf
 cases h1 : Fi ds with
 | none => rw [h1] at hf; cases hf
 | some items =>
  rw [h1] at hf
  simp only [Option.bind_some] at hf
  split at hf
  . rename_i hn
    cases h2 : compD gt Fc Fe ds items with
    | none => rw [h2] at hf; cases hf
    | some l =>
     rw [h2] at hf
     cases hf
     refine hi.t O H₀ as σ H ds items _ S h1 fun J H1 e1 it => ?_
     have S1 := S.grow e1
     have it' : ItOk X.K O (hid H1 as []) J items := it
     refine ⟨items.length, fun i ys H' => i <= items.length /\ Same H1 H' /\ ∃ l1 l2, Dts X.K (hid H' as O) ys l1 /\ compD gt Fc Fe ds (items.drop i) = some l2 /\ l1 ++ l2 = l, szM hn, ⟨Nat.zero_le _, Same.refl _, [], l, .nil, h2, rfl⟩, ?_⟩
     rintro i ys H' ⟨hi', e2, l1, l2, d1, c2, el⟩
     have S2 := S1.grow e2
     obtain ⟨go', st', yl'⟩ := it' H' (hid_all.trans e2) i
     by_cases hlt : i < items.length
     . refine .inr ⟨go' hlt, hlt, fun x H'' y => ?_⟩
       obtain ⟨e3, d, ed, dt⟩ := yl' x H'' y hlt
       have S3 := S2.grow e3
       have dx : Dt X.K (hid H'' as O) x d := dt as (fun b hb => ⟨by unfold hid; rw [if_pos (.inr hb)], let ⟨_, z⟩ := (S2.new b hb).2; ⟨_, z⟩⟩) fun b hb => by
        obtain ⟨o, z⟩ := S.dom b hb
        refine ⟨o, hid_some.mpr ⟨by simp, fun z2 => ?_, S1.same _ _ z⟩⟩
        rw [(S.new b z2).1] at z
        cases z
       have ed' : items.drop i = d :: items.drop (i + 1) := by
        rw [List.drop_eq_getElem_cons hlt]
        have : items[i] = d := by
         have z := List.getElem?_eq_getElem hlt
         rw [ed] at z
         exact (Option.some.inj z).symm
        rw [this]
       rw [ed'] at c2
       unfold compD at c2
       cases h3 : gt d with
       | none => rw [h3] at c2; cases c2
       | some bs' =>
        rw [h3] at c2
        simp only [Option.bind_some] at c2
        cases h4 : Fc (dats bs' ++ ds) with
        | none => rw [h4] at c2; cases c2
        | some b =>
         rw [h4] at c2
         simp only [Option.bind_some] at c2
         refine hgt O as H'' x d σ bs' _ dx h3 fun vs dv lv => ?_
         have S4 := S3.pre dv
         refine tC O H₀ _ _ H'' _ b _ S4 h4 fun H5 e5 => ?_
         cases b with
         | false =>
          rw [if_neg (by decide)] at c2
          rw [if_neg (by decide)]
          exact ⟨hlt, (e2.trans e3).trans e5, l1, l2, d1.same (hid_same (e3.trans e5)), c2, el⟩
         | true =>
          rw [if_pos rfl] at c2
          rw [if_pos rfl]
          cases h5 : Fe (dats bs' ++ ds) with
          | none => rw [h5] at c2; cases c2
          | some yv =>
           rw [h5] at c2
           simp only [Option.bind_some] at c2
           cases h6 : compD gt Fc Fe ds (items.drop (i + 1)) with
           | none => rw [h6] at c2; cases c2
           | some l3 =>
            rw [h6] at c2
            cases c2
            refine tE O H₀ _ _ H5 _ yv _ (S4.grow e5) h5 fun u H6 e6 r6 => ?_
            have d6 := r6.dt (S4.grow e5).dm
            have d7 : Dt X.K (hid H6 as O) u yv.d := by
             have z : Dt X.K (hid H6 (List.replicate bs'.length none ++ as) O) u yv.d := d6
             rw [hid_pre] at z
             exact z
            exact ⟨hlt, ((e2.trans e3).trans e5).trans e6, l1 ++ [yv.d], l3, (d1.same (hid_same ((e3.trans e5).trans e6))).append (.cons d7 .nil), h6, by rw [<- el]; simp⟩
     . have hi2 : i = items.length := by omega
       subst hi2
       rw [List.drop_length] at c2
       cases c2
       rw [List.append_nil] at el
       subst el
       exact .inl ⟨st' (Nat.le_refl _), fun p hp => q _ _ ((e1.trans e2).trans (Same.new hp)) (RX.back (rx_lst hp d1) (e1.trans e2))⟩
  . cases hf⟩
end L2
namespace L2
open PySem PySem.Spec PyProof.Rows
inductive Out where
 | next (ds : Ds)
 | ret (pv : PV)
 | brk (ds : Ds)
 | cont (ds : Ds)
 | up (x : PyData)
noncomputable def UpAt (K : PySem.W.Frag) (O : List Addr) (H : Hp) (ea : Addr) (x : PyData) : Prop := ∃ C dx fld v d, x = excD C fld d /\ ExcC K C /\ PySem.W.findIn K (.ref C) fld = some none /\ H ea = some (.ext (ExcIs ea C (some dx))) /\ H dx = some (.xd [(fld, v)]) /\ dx ∉ O /\ Dt K (hid H [] (ea :: O)) v d
noncomputable def EndsOk (X : Cx) (O : List Addr) (H₀ : Hp) (D : Ends) : Out -> Prop
 | .next ds => ∀ as σ H, DS X.K O H₀ as σ H ds -> D.nx σ H
 | .brk ds => ∀ as σ H, DS X.K O H₀ as σ H ds -> D.bk σ H
 | .cont ds => ∀ as σ H, DS X.K O H₀ as σ H ds -> D.ct σ H
 | .ret pv => ∀ v H, Same H₀ H -> RX X.K O [] H₀ H v pv -> D.rt v H
 | .up x => ∀ ea H, Same H₀ H -> H₀ ea = none -> UpAt X.K O H ea x -> ∀ pins σ s, Inv X pins σ H s -> X.xe (.ref ea) s
noncomputable def TSX (X : Cx) (t : TS) (G : Ds -> Option Out) : Prop :=
 ∀ (O : List Addr) (H₀ : Hp) (as : As) (σ : St) (H : Hp) (ds : Ds) (D : Ends) (o : Out), DS X.K O H₀ as σ H ds -> G ds = some o -> EndsOk X O H₀ D o -> t D σ H
structure PSX (X : Cx) (st : Stmt) (t : TS) (G : Ds -> Option Out) : Prop where
 p : PS X st t
 t : TSX X t G
structure PSsX (X : Cx) (st : List Stmt) (t : TS) (G : Ds -> Option Out) : Prop where
 p : PSs X st t
 t : TSX X t G
noncomputable def gNext : Ds -> Option Out := fun ds => some (.next ds)
noncomputable def gSeq (G1 G2 : Ds -> Option Out) : Ds -> Option Out := fun ds => (G1 ds).bind fun o => match o with
 | .next ds' => G2 ds'
 | o => some o
section
variable {X : Cx} {st : Stmt} {rest sa sb : List Stmt} {t u : TS} {G G1 G2 : Ds -> Option Out} {fr : Bool} {e c : Expr} {te : TE} {tt : TT} {F : Ds -> Option PV} {Ft : Ds -> Option Bool} {pos : Pos}
theorem pssx_nil : PSsX X [] tNext gNext := ⟨pss_nil, by
 intro O H₀ as σ H ds D o S hf q
 cases hf
 exact q as σ H S⟩
theorem pssx_one (h : PSX X st t G) : PSsX X [st] t G := ⟨pss_one h.p, h.t⟩
theorem pssx_cons (h1 : PSX X st t G1) (h2 : PSsX X rest u G2) : PSsX X (st :: rest) (tSeq t u) (gSeq G1 G2) := ⟨pss_cons h1.p h2.p, by
 intro O H₀ as σ H ds D o S hf q
 unfold gSeq at hf
 cases e1 : G1 ds with
 | none => rw [e1] at hf; cases hf
 | some o1 =>
  rw [e1] at hf
  simp only [Option.bind_some] at hf
  refine h1.t O H₀ as σ H ds { D with nx := u D } o1 S e1 ?_
  cases o1 with
  | next ds1 => exact fun as' σ' H' S' => h2.t O H₀ as' σ' H' ds1 D o S' hf q
  | ret pv => cases hf; exact q
  | brk ds1 => cases hf; exact q
  | cont ds1 => cases hf; exact q
  | up x => cases hf; exact q⟩
noncomputable def gFrz1 (i : Nat) (G : Ds -> Option Out) : Ds -> Option Out := fun ds => G (frz1 i ds)
theorem DS.set {K : PySem.W.Frag} {O : List Addr} {H₀ H : Hp} {as : As} {σ : St} {ds : Ds} {v : V} {d : PyData} (S : DS K O H₀ as σ H ds) (i : Nat) (h : Dt K (hid H as O) v d) : DS K O H₀ (as.set i none) (σ.set i (some v)) H (ds.set i (some (.dat d))) := by
 have sub : ∀ b, some b ∈ as.set i none -> some b ∈ as := fun b z => by
  rcases List.mem_or_eq_of_mem_set z with z | z
  . exact z
  . cases z
 refine ⟨by simp [S.ls], by simp [S.la], S.same, fun a h => S.new a (sub a h), S.dom, fun j k a h1 h2 => ?_, fun j pv hj => ?_⟩
 . have f : ∀ j, (as.set i none)[j]? = some (some a) -> as[j]? = some (some a) := fun j z => by
     rw [List.getElem?_set] at z
     split at z
     . split at z <;> cases z
     . exact z
   exact S.inj j k a (f j h1) (f k h2)
 . by_cases hij : i = j
   . subst hij
     rw [List.getElem?_set] at hj
     rw [if_pos rfl] at hj
     split at hj
     . rename_i hl
       cases hj
       exact ⟨v, by rw [List.getElem?_set_self (by rw [S.ls]; exact hl)], h.same (hid_sub (Same.refl _) sub)⟩
     . cases hj
   . rw [List.getElem?_set_ne hij] at hj
     have sl := S.slot j pv hj
     rw [List.getElem?_set_ne hij, List.getElem?_set_ne hij]
     cases pv with
     | dat d => obtain ⟨v, e1, h⟩ := sl; exact ⟨v, e1, h.same (hid_sub (Same.refl _) sub)⟩
     | own l' => obtain ⟨a, xs, e1, e2, e3, h⟩ := sl; exact ⟨a, xs, e1, e2, e3, h.same (hid_sub (Same.refl _) sub)⟩
theorem DS.setO {K : PySem.W.Frag} {O : List Addr} {H₀ H : Hp} {as : As} {σ : St} {ds : Ds} {l : List PyData} (S : DS K O H₀ as σ H ds) (i : Nat) {a : Addr} {xs : List V} (hn : H₀ a = none) (ha : some a ∉ as) (hH : H a = some (.lst xs))
  (hv : ∀ j pv, ds[j]? = some (some pv) -> j ≠ i -> SlotOk K O (some a :: as) H σ[j]? as[j]? pv) (h : Dts K (hid H (some a :: as) O) xs l) : DS K O H₀ (as.set i (some a)) (σ.set i (some (.ref a))) H (ds.set i (some (.own l))) := by
 have sub : ∀ b, some b ∈ as.set i (some a) -> some b ∈ some a :: as := fun b z => by
  rcases List.mem_or_eq_of_mem_set z with z | z
  . exact List.mem_cons_of_mem _ z
  . rw [z]; exact List.mem_cons_self
 refine ⟨by simp [S.ls], by simp [S.la], S.same, fun b hb => ?_, S.dom, fun j k b h1 h2 => ?_, fun j pv hj => ?_⟩
 . rcases List.mem_cons.mp (sub b hb) with z | z
   . cases z; exact ⟨hn, _, hH⟩
   . exact S.new b z
 . have f : ∀ j, (as.set i (some a))[j]? = some (some b) -> (j = i /\ b = a) \/ (j ≠ i /\ as[j]? = some (some b)) := fun j z => by
     rw [List.getElem?_set] at z
     split at z
     . rename_i e
       split at z
       . cases z; exact .inl ⟨e.symm, rfl⟩
       . cases z
     . rename_i e
       exact .inr ⟨fun q => e q.symm, z⟩
   rcases f j h1 with ⟨e1, e2⟩ | ⟨e1, e2⟩ <;> rcases f k h2 with ⟨e3, e4⟩ | ⟨e3, e4⟩
   . rw [e1, e3]
   . subst e2; exact absurd (List.mem_of_getElem? e4) ha
   . subst e4; exact absurd (List.mem_of_getElem? e2) ha
   . exact S.inj j k b e2 e4
 . by_cases hij : i = j
   . subst hij
     rw [List.getElem?_set] at hj
     rw [if_pos rfl] at hj
     split at hj
     . rename_i hl
       cases hj
       exact ⟨a, xs, by rw [List.getElem?_set_self (by rw [S.ls]; exact hl)], by rw [List.getElem?_set_self (by rw [S.la]; exact hl)], hH, h.same (hid_sub (Same.refl _) sub)⟩
     . cases hj
   . rw [List.getElem?_set_ne hij] at hj
     have sl := hv j pv hj (fun z => hij z.symm)
     rw [List.getElem?_set_ne hij, List.getElem?_set_ne hij]
     cases pv with
     | dat d => obtain ⟨v, e1, h⟩ := sl; exact ⟨v, e1, h.same (hid_sub (Same.refl _) sub)⟩
     | own l' => obtain ⟨a, xs, e1, e2, e3, h⟩ := sl; exact ⟨a, xs, e1, e2, e3, h.same (hid_sub (Same.refl _) sub)⟩
theorem DS.store {K : PySem.W.Frag} {O : List Addr} {H₀ H H1 : Hp} {as : As} {σ : St} {ds : Ds} {v : V} {pv : PV} (S : DS K O H₀ as σ H ds) (e1 : Same H H1) (i : Nat) (r : RX K O as H H1 v pv) : ∃ as', DS K O H₀ as' (σ.set i (some v)) H1 (ds.set i (some pv)) := by
 have S1 := S.grow e1
 cases pv with
 | dat d => exact ⟨_, S1.set i r⟩
 | own l =>
  obtain ⟨a, xs, rfl, e2, e3, h⟩ := r
  have na : some a ∉ as := fun z => by
   obtain ⟨_, o, z⟩ := S.new a z
   rw [e2] at z; cases z
  have sm : Same (hid H as O) (hid H1 (some a :: as) O) := hid_le fun b o h1 h2 h3 => ⟨h1, fun z => by
   rcases List.mem_cons.mp z with z | z
   . cases z; rw [e2] at h3; cases h3
   . exact h2 z, e1 _ _ h3⟩
  refine ⟨_, S1.setO i (S.same.free e2) na e3 (fun j pv hj _ => ?_) h⟩
  have sl := S.slot j pv hj
  cases pv with
  | dat d => obtain ⟨v, z1, z⟩ := sl; exact ⟨v, z1, z.same sm⟩
  | own l' => obtain ⟨a', xs', z1, z2, z3, z⟩ := sl; exact ⟨a', xs', z1, z2, e1 _ _ z3, z.same sm⟩
noncomputable def gSet (i : Nat) (F : Ds -> Option PV) : Ds -> Option Out := fun ds => (F ds).bind fun pv => some (.next (ds.set i (some pv)))
noncomputable def gSetD (i : Nat) (F : Ds -> Option PV) : Ds -> Option Out := fun ds => (F ds).bind fun pv => some (.next (ds.set i (some (.dat pv.d))))
theorem psx_set {i : Nat} {x : Str} {pos' : Pos} (hN : X.N.Nodup) (hi : X.N[i]? = some x) (hx : Loc X.env.scope x) (he : PX X true e te F) (hs : swapsWith e (some (.Name x pos')) pos.line X.env = pure false := by rfl) (hf : X.fn x = true \/ X.env.scope.names.lookup x = some .local := by first | exact .inl rfl | exact .inr rfl | assumption) :
  PSX X (.Assign [.Name x pos'] e pos) (tAsg te (gName i)) (gSet i F) := ⟨ps_set hN hi hx he.p hs hf, by
 intro O H₀ as σ H ds D o S h q
 unfold gSet at h
 cases e1 : F ds with
 | none => rw [e1] at h; cases h
 | some pv =>
  rw [e1] at h
  cases h
  refine he.t O H₀ as σ H ds pv _ S e1 fun v H1 s1 r1 => ?_
  obtain ⟨as', S'⟩ := S.store s1 i r1
  exact q as' _ _ S'⟩
theorem psx_setD {i : Nat} {x : Str} {pos' : Pos} (hN : X.N.Nodup) (hi : X.N[i]? = some x) (hx : Loc X.env.scope x) (he : PX X true e te F) (hs : swapsWith e (some (.Name x pos')) pos.line X.env = pure false := by rfl) (hf : X.fn x = true \/ X.env.scope.names.lookup x = some .local := by first | exact .inl rfl | exact .inr rfl | assumption) :
  PSX X (.Assign [.Name x pos'] e pos) (tAsg te (gName i)) (gSetD i F) := ⟨ps_set hN hi hx he.p hs hf, by
 intro O H₀ as σ H ds D o S h q
 unfold gSetD at h
 cases e1 : F ds with
 | none => rw [e1] at h; cases h
 | some pv =>
  rw [e1] at h
  cases h
  refine he.t O H₀ as σ H ds pv _ S e1 fun v H1 s1 r1 => ?_
  exact q _ _ _ ((S.grow s1).set i (r1.dt S.dm))⟩
noncomputable def gPar (i j : Nat) (Fl : Ds -> Option (List PyData)) : Ds -> Option Out := fun ds => (Fl ds).bind fun l => match l with
 | [a, b] => some (.next ((ds.set i (some (.dat a))).set j (some (.dat b))))
 | _ => none
noncomputable def gRet (F : Ds -> Option PV) : Ds -> Option Out := fun ds => (F ds).bind fun pv => some (.ret pv)
theorem psx_ret (he : PX X fr e te F) : PSX X (.Return (some e) pos) (tRet te) (gRet F) := ⟨ps_ret he.p, by
 intro O H₀ as σ H ds D o S h q
 unfold gRet at h
 cases e1 : F ds with
 | none => rw [e1] at h; cases h
 | some pv =>
  rw [e1] at h
  cases h
  refine he.t O H₀ as σ H ds pv _ S e1 fun v H1 s1 r1 => ?_
  exact q v H1 (S.same.trans s1) ((r1.back S.same).less fun b z => by simp at z)⟩
noncomputable def gRetV (i : Nat) : Ds -> Option Out := fun ds => match ds[i]? with
 | some (some pv) => some (.ret pv)
 | _ => none
theorem psx_retV (i : Nat) (h : PE X e (tVar i)) : PSX X (.Return (some e) pos) (tRet (tVar i)) (gRetV i) := ⟨ps_ret h, by
 intro O H₀ as σ H ds D o S h q
 unfold gRetV at h
 split at h
 . rename_i pv hd
   cases h
   have sl := S.slot i pv hd
   cases pv with
   | dat d =>
    obtain ⟨v, e1, h⟩ := sl
    exact ⟨v, e1, q v H S.same (Dt.same (hid_sub (Same.refl _) fun b z => by simp at z) h)⟩
   | own l =>
    obtain ⟨a, xs, e1, e2, e3, h⟩ := sl
    have ha := List.mem_of_getElem? e2
    refine ⟨_, e1, q _ H S.same ⟨a, xs, rfl, (S.new a ha).1, e3, h.same (hid_sub (Same.refl _) fun b z => ?_)⟩⟩
    have z' : b = a := by simpa using z
    rw [z']; exact ha
 . cases h⟩
noncomputable def gRetN : Ds -> Option Out := fun _ => some (.ret (.dat .none))
noncomputable def gIf (Ft : Ds -> Option Bool) (G1 G2 : Ds -> Option Out) : Ds -> Option Out := fun ds => (Ft ds).bind fun b => if b = true then G1 ds else G2 ds
theorem psx_if (hc : PTX X c tt Ft) (ha : PSsX X sa t G1) (hb : PSsX X sb u G2) : PSX X (.If c sa sb pos) (tIfS tt t u) (gIf Ft G1 G2) := ⟨ps_if hc.p ha.p hb.p, by
 intro O H₀ as σ H ds D o S h q
 unfold gIf at h
 cases e1 : Ft ds with
 | none => rw [e1] at h; cases h
 | some b =>
  rw [e1] at h
  simp only [Option.bind_some] at h
  refine hc.t O H₀ as σ H ds b _ S e1 fun H1 s1 => ?_
  cases b with
  | true => exact ha.t O H₀ as σ H1 ds D o (S.grow s1) h q
  | false => exact hb.t O H₀ as σ H1 ds D o (S.grow s1) h q⟩
noncomputable def gPass : Ds -> Option Out := fun ds => some (.next ds)
noncomputable def gBreak : Ds -> Option Out := fun ds => some (.brk ds)
noncomputable def gCont : Ds -> Option Out := fun ds => some (.cont ds)
noncomputable def gNever : Ds -> Option Out := fun _ => none
theorem psx_never : PSX X st tNever gNever := ⟨ps_never, by
 intro O H₀ as σ H ds D o S h q
 cases h⟩
noncomputable def gDrop (F : Ds -> Option PV) : Ds -> Option Out := fun ds => (F ds).bind fun _ => some (.next ds)
end
theorem DS.turn {K : PySem.W.Frag} {O : List Addr} {H₀ H : Hp} {as : As} {σ : St} {ds : Ds} {l l' : List PyData} {xs xs' : List V} {i : Nat} {a : Addr} (S : DS K O H₀ as σ H ds) (hd : ds[i]? = some (some (.own l))) (e1 : σ[i]? = some (some (.ref a))) (e2 : as[i]? = some (some a)) (hv : Dts K (hid H as O) xs' l') :
  DS K O H₀ as σ (upd H a (.lst xs')) (ds.set i (some (.own l'))) := by
 have ha := List.mem_of_getElem? e2
 have sm : Same (hid H as O) (hid (upd H a (.lst xs')) as O) := hid_le fun b o h1 h2 h3 => ⟨h1, h2, by
  rw [upd_ne (fun z => h2 (by rw [z]; exact ha))]; exact h3⟩
 have hl : i < ds.length := (List.getElem?_eq_some_iff.mp hd).1
 refine ⟨by simp [S.ls], by simp [S.la], fun b o h => ?_, fun b hb => ⟨(S.new b hb).1, ?_⟩, S.dom, S.inj, fun j pv hj => ?_⟩
 . rw [upd_ne (fun z => ?_)]
   . exact S.same _ _ h
   . rw [z, (S.new a ha).1] at h; cases h
 . by_cases z : b = a
   . exact ⟨_, by rw [z]; exact upd_same⟩
   . obtain ⟨_, o, h⟩ := S.new b hb
     exact ⟨o, by rw [upd_ne z]; exact h⟩
 . by_cases hij : i = j
   . subst hij
     rw [List.getElem?_set_self hl] at hj
     cases hj
     exact ⟨a, xs', e1, e2, upd_same, hv.same sm⟩
   . rw [List.getElem?_set_ne hij] at hj
     have sl := S.slot j pv hj
     cases pv with
     | dat d => obtain ⟨v, z1, z⟩ := sl; exact ⟨v, z1, z.same sm⟩
     | own l' =>
      obtain ⟨a', xs', z1, z2, z3, z⟩ := sl
      refine ⟨a', xs', z1, z2, ?_, z.same sm⟩
      rw [upd_ne (fun w => hij ?_)]
      . exact z3
      . rw [w] at z2; exact S.inj i j a e2 z2
noncomputable def gApp (i : Nat) (F : Ds -> Option PV) : Ds -> Option Out := fun ds => (F ds).bind fun pv => match ds[i]? with
 | some (some (.own l)) => if l.length < 1000000 then some (.next (ds.set i (some (.own (l ++ [pv.d]))))) else none
 | _ => none
section
variable {X : Cx} {e o : Expr} {te : TE} {F : Ds -> Option PV} {pos cpos apos : Pos}
theorem psx_app (i : Nat) (ho : PE X o (tVar i)) (he : PX X true e te F) (hst : starEach [e] X.env = (false, eval e X.env) :: starEach [] X.env := by rfl)
  (hbase : attributeBase o "append" X.env (eval o X.env) = eval o X.env := by rfl)
  (hfew : ((backTo cpos (starEach [e] X.env)).all (fun x => !x.1) && (backToKw cpos (keywordEach [] X.env)).all (fun x => x.1.isSome)
   && decide ([e].length + ([] : List Keyword).length + (if ([] : List Keyword).isEmpty then 0 else 1) < 30)) = true := by rfl)
  (hline : (apos.endLine == cpos.line) = true := by rfl) (hplain : (backTo cpos (starEach [] X.env)).any (·.1) = false := by rfl)
  (hs : swapsWith (.Call (.Attribute o "append" apos) [e] [] cpos) none pos.line X.env = pure false := by rfl) :
  PSX X (.Expr (.Call (.Attribute o "append" apos) [e] [] cpos) pos) (tDrop (tBM X.K "list" rAppend (tVar i) (tCons te tNil))) (gApp i F) :=
 ⟨ps_expr (pe_bm PySem.F.plainAttrs_list PySem.F.slot_list_append PySem.F.type_list_append mt_append ho (pa_cons he.p pa_nil hst) hbase hfew hline hst hplain) hs, by
 intro O H₀ as σ H ds D o S h q
 unfold gApp at h
 cases e1 : F ds with
 | none => rw [e1] at h; cases h
 | some pv =>
  rw [e1] at h
  simp only [Option.bind_some] at h
  split at h
  . rename_i l hd
    split at h
    . rename_i hl
      cases h
      obtain ⟨a, xs, z1, z2, z3, z4⟩ := S.slot i _ hd
      refine ⟨_, z1, .inl ⟨rfl, xs, SqL.of z3⟩, ?_⟩
      refine he.t O H₀ as σ H ds pv _ S e1 fun v H1 s1 r1 => ?_
      have hx := z4.length
      refine ⟨a, xs, v, rfl, rfl, s1 _ _ z3, Nat.lt_of_lt_of_le (by omega) (szM (Nat.le_refl _)), q as σ _ ?_⟩
      exact (S.grow s1).turn (xs := xs) hd z1 z2 ((z4.same (hid_same s1)).append (.cons (r1.dt S.dm) .nil))
    . cases h
  . cases h⟩
end
theorem DS.rebase {K : PySem.W.Frag} {O : List Addr} {H₀ H : Hp} {as : As} {σ : St} {ds : Ds} (S : DS K O H₀ as σ H ds) : DS K O (hid H as []) as σ H ds where
 ls := S.ls
 la := S.la
 same := hid_all
 new := fun a h => ⟨by unfold hid; rw [if_pos (.inr h)], (S.new a h).2⟩
 dom := fun a h => by
  obtain ⟨o, z⟩ := S.dom a h
  refine ⟨o, hid_some.mpr ⟨by simp, fun q => ?_, S.same _ _ z⟩⟩
  rw [(S.new a q).1] at z
  cases z
 inj := S.inj
 slot := S.slot
theorem DS.unbase {K : PySem.W.Frag} {O : List Addr} {H₀ Hb H : Hp} {as : As} {σ : St} {ds : Ds} (S : DS K O Hb as σ H ds) (e : Same H₀ Hb) (hd : ∀ a ∈ O, ∃ o, H₀ a = some o) : DS K O H₀ as σ H ds :=
 ⟨S.ls, S.la, e.trans S.same, fun a h => ⟨e.free (S.new a h).1, (S.new a h).2⟩, hd, S.inj, S.slot⟩
theorem DS.toBase {K : PySem.W.Frag} {O : List Addr} {H₀ H : Hp} {as : As} {σ : St} {ds : Ds} (S : DS K O H₀ as σ H ds) : Same H₀ (hid H as []) := fun b o h => by
 refine hid_some.mpr ⟨by simp, fun q => ?_, S.same _ _ h⟩
 rw [(S.new b q).1] at h
 cases h
theorem EndsOk.unbase {X : Cx} {O : List Addr} {H₀ Hb : Hp} {D : Ends} {o : Out} (h : EndsOk X O H₀ D o) (e : Same H₀ Hb) (hd : ∀ a ∈ O, ∃ u, H₀ a = some u) : EndsOk X O Hb D o := by
 cases o with
 | next ds => exact fun as σ H S => h as σ H (S.unbase e hd)
 | brk ds => exact fun as σ H S => h as σ H (S.unbase e hd)
 | cont ds => exact fun as σ H S => h as σ H (S.unbase e hd)
 | ret pv => exact fun v H s r => h v H (e.trans s) (r.back e)
 | up x => exact fun ea H s n u => h ea H (e.trans s) (e.free n) u
noncomputable def TGX (K : PySem.W.Frag) (g : TG) (gt : PyData -> Ds -> Option Ds) : Prop :=
 ∀ (O : List Addr) (H₀ : Hp) (as : As) (σ : St) (H : Hp) (ds ds' : Ds) (v : V) (d : PyData) (Q : St -> Hp -> Prop), DS K O H₀ as σ H ds -> Dt K (hid H as O) v d -> gt d ds = some ds' -> (∀ as' σ', DS K O H₀ as' σ' H ds' -> Q σ' H) -> g v σ H Q
noncomputable def sName (i : Nat) : PyData -> Ds -> Option Ds := fun d ds => some (ds.set i (some (.dat d)))
theorem tgx_name {K : PySem.W.Frag} {i : Nat} : TGX K (gName i) (sName i) := by
 intro O H₀ as σ H ds ds' v d Q S h e q
 cases e
 exact q _ _ (S.set i h)
noncomputable def sNil : List PyData -> Ds -> Option Ds
 | [], ds => some ds
 | _, _ => none
noncomputable def sCons (i : Nat) (r : List PyData -> Ds -> Option Ds) : List PyData -> Ds -> Option Ds
 | d :: l, ds => r l (ds.set i (some (.dat d)))
 | [], _ => none
noncomputable def sTup (n : Nat) (r : List PyData -> Ds -> Option Ds) : PyData -> Ds -> Option Ds
 | .tuple l, ds => if l.length = n then r l ds else none
 | _, _ => none
noncomputable def forD (gt : PyData -> Ds -> Option Ds) (G : Ds -> Option Out) : List PyData -> Ds -> Option Out
 | [], ds => some (.next ds)
 | x :: r, ds => (gt x ds).bind fun ds1 => (G ds1).bind fun o => match o with
  | .next ds2 => forD gt G r ds2
  | .cont ds2 => forD gt G r ds2
  | .brk ds2 => some (.next ds2)
  | .ret pv => some (.ret pv)
  | .up x => some (.up x)
noncomputable def gFor (Fi : Ds -> Option (List PyData)) (gt : PyData -> Ds -> Option Ds) (G : Ds -> Option Out) : Ds -> Option Out := fun ds => (Fi ds).bind fun items => forD gt G items ds
section
variable {X : Cx} {tg iter c : Expr} {body : List Stmt} {wi : TI} {g : TG} {tb : TS} {tt : TT} {pos : Pos} {Fi : Ds -> Option (List PyData)} {gt : PyData -> Ds -> Option Ds} {G : Ds -> Option Out} {Fc : Ds -> Option Bool}
theorem psx_for (hp : PassesOwn (model X.prog X.w) X.A X.env X.xe) (hc : X.calm = true) (hi : PIX X true tg iter wi Fi) (hg : PG X tg g) (hgt : TGX X.K g gt) (hb : PSsX X body tb G)
  (hs : ∀ x, foldedSetIterable iter X.env x = pure x := by intro _; rfl) : PSX X (.For tg iter body [] pos) (tFor wi g tb) (gFor Fi gt G) := ⟨ps_for hp hc hi.p hg hb.p hs, by
 intro O H₀ as σ H ds D o S h q
 unfold gFor at h
 cases e1 : Fi ds with
 | none => rw [e1] at h; cases h
 | some items =>
  rw [e1] at h
  simp only [Option.bind_some] at h
  refine hi.t O H₀ as σ H ds items _ S e1 fun J H1 s1 it => ?_
  have S1 := S.grow s1
  have it' : ItOk X.K O (hid H1 as []) J items := it
  have Sb := S1.rebase
  have eb := S1.toBase
  have qb := q.unbase (Hb := hid H1 as []) eb S.dom
  refine ⟨fun i m σ' H' => i <= items.length /\ m = items.length - i /\ ∃ as' ds', DS X.K O (hid H1 as []) as' σ' H' ds' /\ forD gt G (items.drop i) ds' = some o, ⟨_, Nat.zero_le _, rfl, as, ds, Sb, h⟩, ?_⟩
  rintro i m σ2 H2 ⟨hi', em, as2, ds2, S2, f2⟩
  obtain ⟨go', st', yl'⟩ := it' H2 S2.same i
  by_cases hlt : i < items.length
  . have ed' : items.drop i = items[i] :: items.drop (i + 1) := List.drop_eq_getElem_cons hlt
    rw [ed'] at f2
    unfold forD at f2
    cases e3 : gt items[i] ds2 with
    | none => rw [e3] at f2; cases f2
    | some ds3 =>
     rw [e3] at f2
     simp only [Option.bind_some] at f2
     cases e4 : G ds3 with
     | none => rw [e4] at f2; cases f2
     | some o4 =>
      rw [e4] at f2
      simp only [Option.bind_some] at f2
      refine .inr ⟨go' hlt, fun σ' H' => ∃ as' ds', DS X.K O (hid H1 as []) as' σ' H' ds' /\ forD gt G (items.drop (i + 1)) ds' = some o, fun σ' H' z => ⟨items.length - (i + 1), by omega, hlt, rfl, z⟩, fun x H' y => ?_⟩
      obtain ⟨e5, d, ed, dt⟩ := yl' x H' y hlt
      have edd : items[i] = d := by
       rw [List.getElem?_eq_getElem hlt] at ed
       exact Option.some.inj ed
      have S3 := S2.grow e5
      have dx : Dt X.K (hid H' as2 O) x d := dt as2 (fun b hb => ⟨(S2.new b hb).1, let ⟨_, z⟩ := (S2.new b hb).2; ⟨_, z⟩⟩) S2.dom
      rw [edd] at e3
      refine hgt O _ as2 σ2 H' ds2 ds3 x d _ S3 dx e3 fun as4 σ4 S4 => ?_
      refine hb.t O _ as4 σ4 H' ds3 _ o4 S4 e4 ?_
      cases o4 with
      | next ds5 => exact fun as5 σ5 H5 S5 => ⟨as5, ds5, S5, f2⟩
      | cont ds5 => exact fun as5 σ5 H5 S5 => ⟨as5, ds5, S5, f2⟩
      | brk ds5 => cases f2; exact fun as5 σ5 H5 S5 => qb as5 σ5 H5 S5
      | ret pv => cases f2; exact qb
      | up x => cases f2; exact qb
  . have hi2 : i = items.length := by omega
    subst hi2
    rw [List.drop_length] at f2
    cases f2
    exact .inl ⟨st' (Nat.le_refl _), qb as2 σ2 H2 S2⟩⟩
noncomputable def whileD (Fc : Ds -> Option Bool) (G : Ds -> Option Out) : Nat -> Ds -> Option Out
 | 0, _ => none
 | n + 1, ds => (Fc ds).bind fun b => if b = true then (G ds).bind fun o => match o with
   | .next ds2 => whileD Fc G n ds2
   | .cont ds2 => whileD Fc G n ds2
   | .brk ds2 => some (.next ds2)
   | .ret pv => some (.ret pv)
   | .up x => some (.up x)
  else some (.next ds)
noncomputable def gWhile (μ : Ds -> Nat) (Fc : Ds -> Option Bool) (G : Ds -> Option Out) : Ds -> Option Out := fun ds => whileD Fc G (μ ds) ds
theorem psx_while (μ : Ds -> Nat) (hp : PassesOwn (model X.prog X.w) X.A X.env X.xe) (hc : PTX X c tt Fc) (hb : PSsX X body tb G) : PSX X (.While c body [] pos) (tWhile tt tb) (gWhile μ Fc G) := ⟨ps_while hp hc.p hb.p, by
 intro O H₀ as σ H ds D o S h q
 unfold gWhile at h
 refine ⟨fun m σ' H' => ∃ as' ds', DS X.K O H₀ as' σ' H' ds' /\ whileD Fc G m ds' = some o, ⟨_, as, ds, S, h⟩, ?_⟩
 rintro m σ2 H2 ⟨as2, ds2, S2, f2⟩
 cases m with
 | zero => cases f2
 | succ m =>
  unfold whileD at f2
  cases e1 : Fc ds2 with
  | none => rw [e1] at f2; cases f2
  | some b =>
   rw [e1] at f2
   simp only [Option.bind_some] at f2
   refine hc.t O H₀ as2 σ2 H2 ds2 b _ S2 e1 fun H3 s3 => ?_
   cases b with
   | false =>
    cases f2
    exact q as2 σ2 H3 (S2.grow s3)
   | true =>
    rw [if_pos rfl] at f2
    rw [if_pos rfl]
    cases e4 : G ds2 with
    | none => rw [e4] at f2; cases f2
    | some o4 =>
     rw [e4] at f2
     simp only [Option.bind_some] at f2
     refine ⟨fun σ' H' => ∃ as' ds', DS X.K O H₀ as' σ' H' ds' /\ whileD Fc G m ds' = some o, fun σ' H' z => ⟨m, Nat.lt_succ_self _, z⟩, ?_⟩
     refine hb.t O H₀ as2 σ2 H3 ds2 _ o4 (S2.grow s3) e4 ?_
     cases o4 with
     | next ds5 => exact fun as5 σ5 H5 S5 => ⟨as5, ds5, S5, f2⟩
     | cont ds5 => exact fun as5 σ5 H5 S5 => ⟨as5, ds5, S5, f2⟩
     | brk ds5 => cases f2; exact q
     | ret pv => cases f2; exact q
     | up x => cases f2; exact q⟩
end
noncomputable def outV : Out -> Option PV
 | .ret pv => some pv
 | .next _ => some (.dat .none)
 | _ => none
noncomputable def fnF (n N : Nat) (G : Ds -> Option Out) : List PyData -> Option PV := fun l => if l.length = n then (G (dats l ++ List.replicate (N - n) none)).bind outV else none
section
variable {P : Program} {w : World} {K : PySem.W.Frag} {mg : Str -> Option Value} {base : Heap}
theorem DS.start {O : List Addr} {H : Hp} {vs : List V} {l : List PyData} {N : List Str} (hO : ∀ a ∈ O, ∃ u, H a = some u) (h : Dts K (hid H [] O) vs l) : DS K O H (List.replicate (dats l ++ List.replicate (N.length - l.length) none).length none) (start N vs) H (dats l ++ List.replicate (N.length - l.length) none) := by
 have hl := h.length
 have S0 : DS K O H (List.replicate (N.length - l.length) none) (List.replicate (N.length - l.length) none) H (List.replicate (N.length - l.length) none) :=
  ⟨by simp, by simp, Same.refl H, fun a z => absurd z rep_mem, hO, fun i j a z _ => absurd (List.mem_of_getElem? z) rep_mem, fun i pv z => by
   have := List.mem_of_getElem? z
   simp [List.mem_replicate] at this⟩
 have S1 := S0.pre (vs := vs) (l := l) (by rw [hid_rep]; exact h)
 have e1 : (List.replicate (dats l ++ List.replicate (N.length - l.length) none).length none : As) = List.replicate l.length none ++ List.replicate (N.length - l.length) none := by
  rw [List.replicate_append_replicate, List.length_append, List.length_replicate]
  congr 1
  simp [dats]
 rw [e1]
 unfold L2.start
 rw [hl]
 exact S1
theorem Fun.okF {x qual : Str} {st : Stmt} {f : Addr} {fd : FuncData} {N ps : List Str} {k : Nat} {G : Ds -> Option Out} (F : Fun K x qual st f fd) (S : FnScope N ps (defScope st)) (hN : ps.length <= N.length)
  (hbody : ∀ (cdv : Value) (A : Around) (outer : List Env) (s : Shared) (H : Hp) (E : XK), Room k (A.deeper (envOfC qual (defScope st) s.heap.objs.size f cdv)) ->
   ∃ t, PSsX (cxOf CX0 P w K mg base N qual (defScope st) f cdv A outer s H E).nox (defBody st) t G) : FnOk P w K mg base CX0 (k + 1) f fd ps (spF K (fnF ps.length N.length G)) := by
 have ln : ∀ vs H Q E, spF K (fnF ps.length N.length G) vs H Q E -> vs.length = ps.length := fun vs H Q E h => by
  obtain ⟨O, ds, pv, h1, h2, h3, h4⟩ := h
  unfold fnF at h3
  split at h3
  . rename_i hl
    rw [h2.length]; exact hl
  . cases h3
 refine F.ok S ln fun cdv A outer s H vs Q E hr h => ?_
 obtain ⟨O, ds, pv, h1, h2, h3, h4⟩ := h
 obtain ⟨t, ht⟩ := hbody cdv A outer s H E hr
 refine ⟨t, ht.p, ?_⟩
 unfold fnF at h3
 split at h3
 . rename_i hl
   rw [<- hl] at h3
   cases e1 : G (dats ds ++ List.replicate (N.length - ds.length) none) with
   | none => rw [e1] at h3; cases h3
   | some o =>
    rw [e1] at h3
    simp only [Option.bind_some] at h3
    refine ht.t O H _ (L2.start N vs) H _ _ o (DS.start h1 h2) e1 ?_
    cases o with
    | next ds' => cases h3; exact fun as σ H' S' => h4 _ H' S'.same Dt.non
    | ret pv' => cases h3; exact fun v H' s r => h4 v H' s r
    | brk ds' => cases h3
    | cont ds' => cases h3
    | up x => cases h3
 . cases h3
end
end L2
namespace L2
open PySem PySem.Spec PyProof.Rows
noncomputable instance {m : Nat} {i : Int} : Decidable (Bt m i) := decidable_of_iff (i.natAbs < 2 ^ m) ⟨fun h => ⟨h⟩, fun h => h.lt⟩
noncomputable instance {i j : Int} : Decidable (CPow i j) := by unfold CPow; infer_instance
noncomputable def iiD (g : Int -> Int -> PyData) : PyData -> PyData -> Option PV
 | .int i, .int j => some (.dat (g i j))
 | _, _ => none
noncomputable def iicD (C : Int -> Int -> Prop) [∀ i j, Decidable (C i j)] (g : Int -> Int -> PyData) : PyData -> PyData -> Option PV
 | .int i, .int j => if C i j then some (.dat (g i j)) else none
 | _, _ => none
section
variable {K : PySem.W.Frag}
theorem r2x_i0 {g : Int -> Int -> V} {g' : Int -> Int -> PyData} (hg : ∀ i j H, Dt K H (g i j) (g' i j)) : R2X K (rI0 g) (iiD g') := by
 intro O va H x y d e pv Q D hx hy hf q
 cases hx with
 | int i =>
  cases hy with
  | int j =>
   cases hf
   exact ⟨i, j, rfl, rfl, q _ H (Same.refl H) (hg i j _)⟩
  | _ => cases hf
 | _ => cases hf
theorem r2x_ic {C C' : Int -> Int -> Prop} [∀ i j, Decidable (C i j)] {g : Int -> Int -> V} {g' : Int -> Int -> PyData} (hC : ∀ i j, C i j -> C' i j) (hg : ∀ i j H, Dt K H (g i j) (g' i j)) : R2X K (rI C' g) (iicD C g') := by
 intro O va H x y d e pv Q D hx hy hf q
 cases hx with
 | int i =>
  cases hy with
  | int j =>
   have hf' : (if C i j then some (PV.dat (g' i j)) else none) = some pv := hf
   split at hf'
   . rename_i hc
     cases hf'
     exact ⟨i, j, rfl, rfl, hC i j hc, q _ H (Same.refl H) (hg i j _)⟩
   . cases hf'
  | _ => cases hf
 | _ => cases hf
noncomputable def subD := iiD fun i j => .int (i - j)
noncomputable def mulD := iicD (fun i j => Bt 60000 i /\ Bt 60000 j) fun i j => .int (i * j)
noncomputable def fdivD := iicD (fun _ j => j ≠ 0 /\ Bt 8000 j) fun i j => .int (i.fdiv j)
noncomputable def modD := iicD (fun _ j => j ≠ 0) fun i j => .int (i.fmod j)
noncomputable def powD := iicD CPow fun i j => .int (i ^ j.toNat)
noncomputable def shrD := iicD (fun _ j => 0 <= j) fun i j => .int (i / 2 ^ j.toNat)
noncomputable def ltD := iiD fun i j => .bool (decide (i < j))
noncomputable def leD := iiD fun i j => .bool (decide (i <= j))
noncomputable def gtD := iiD fun i j => .bool (decide (j < i))
noncomputable def geD := iiD fun i j => .bool (decide (j <= i))
theorem x_sub : R2X K (rI0 fun i j => .int (i - j)) subD := r2x_i0 fun i j H => .int _
theorem x_mul : R2X K (rI (fun i j => Bt 60000 i /\ Bt 60000 j) fun i j => .int (i * j)) mulD := r2x_ic (fun _ _ h => h) fun i j H => .int _
theorem x_fdiv : R2X K (rI (fun _ j => j ≠ 0 /\ Bt 8000 j) fun i j => .int (i.fdiv j)) fdivD := r2x_ic (fun _ _ h => h) fun i j H => .int _
theorem x_mod : R2X K (rI (fun _ j => j ≠ 0) fun i j => .int (i.fmod j)) modD := r2x_ic (fun _ _ h => h) fun i j H => .int _
theorem x_pow : R2X K (rI CPow fun i j => .int (i ^ j.toNat)) powD := r2x_ic (fun _ _ h => h) fun i j H => .int _
theorem x_shr : R2X K (rI (fun _ j => 0 <= j) fun i j => .int (i / 2 ^ j.toNat)) shrD := r2x_ic (fun _ _ h => h) fun i j H => .int _
theorem x_lt : R2X K (rI0 fun i j => .bl (decide (i < j))) ltD := r2x_i0 fun i j H => .bl _
theorem x_le : R2X K (rI0 fun i j => .bl (decide (i <= j))) leD := r2x_i0 fun i j H => .bl _
theorem x_gt : R2X K (rI0 fun i j => .bl (decide (j < i))) gtD := r2x_i0 fun i j H => .bl _
theorem x_ge : R2X K (rI0 fun i j => .bl (decide (j <= i))) geD := r2x_i0 fun i j H => .bl _
noncomputable def negD : PyData -> Option PV
 | .int i => some (.dat (.int (-i)))
 | _ => none
theorem x_neg : R1X K (rU fun i => .int (-i)) negD := by
 intro O va H x d pv Q D hx hf q
 cases hx with
 | int i => cases hf; exact ⟨i, rfl, q _ H (Same.refl H) (Dt.int _)⟩
 | _ => cases hf
noncomputable def eqDD : PyData -> PyData -> Option PV
 | .str i, .str j => some (.dat (.bool (decide (i = j))))
 | d, e => if SeqAt.shaped d = true /\ SeqAt.shaped e = true then some (.dat (.bool (PyData.eqv d e))) else none
noncomputable def neDD : PyData -> PyData -> Option PV
 | .str i, .str j => some (.dat (.bool (!decide (i = j))))
 | d, e => if SeqAt.shaped d = true /\ SeqAt.shaped e = true then some (.dat (.bool (!PyData.eqv d e))) else none
noncomputable def rEqX (K : PySem.W.Frag) : R2 := fun x y H Q => rEq x y H Q \/ ∃ d e, Dt K H x d /\ Dt K H y e /\ SeqAt.shaped d = true /\ SeqAt.shaped e = true /\ Q (.bl (PyData.eqv d e)) H
noncomputable def rNeX (K : PySem.W.Frag) : R2 := fun x y H Q => rNe x y H Q \/ ∃ d e, Dt K H x d /\ Dt K H y e /\ SeqAt.shaped d = true /\ SeqAt.shaped e = true /\ Q (.bl (!PyData.eqv d e)) H
theorem op_eqX {X : Cx} (hu : X.A.units + 64 < cLine) : OpR X (compareOp .Eq) (rEqX X.K) := op_eq.or (op_eqD hu)
theorem op_neX {X : Cx} (hu : X.A.units + 64 < cLine) : OpR X (compareOp .NotEq) (rNeX X.K) := op_ne.or (op_neD hu)
theorem x_eq : R2X K (rEqX K) eqDD := by
 intro O va H x y d e pv Q D hx hy hf q
 unfold eqDD at hf
 split at hf
 . cases hf
   cases hx
   cases hy
   rename_i i j
   exact .inl ⟨rfl, q _ H (Same.refl H) (by rw [show decide (V.str i = V.str j) = decide (i = j) by simp]; exact Dt.bl _)⟩
 . split at hf
   . rename_i hs
     cases hf
     exact .inr ⟨d, e, hx.same hid_all, hy.same hid_all, hs.1, hs.2, q _ H (Same.refl H) (Dt.bl _)⟩
   . cases hf
theorem x_ne : R2X K (rNeX K) neDD := by
 intro O va H x y d e pv Q D hx hy hf q
 unfold neDD at hf
 split at hf
 . cases hf
   cases hx
   cases hy
   rename_i i j
   exact .inl ⟨rfl, q _ H (Same.refl H) (by rw [show decide (V.str i = V.str j) = decide (i = j) by simp]; exact Dt.bl _)⟩
 . split at hf
   . rename_i hs
     cases hf
     exact .inr ⟨d, e, hx.same hid_all, hy.same hid_all, hs.1, hs.2, q _ H (Same.refl H) (Dt.bl _)⟩
   . cases hf
noncomputable def isNoneD : PyData -> Bool
 | .none => true
 | _ => false
theorem Dt.non_iff {H : Hp} {x : V} {d : PyData} (h : Dt K H x d) : decide (x = .non) = isNoneD d := by
 cases h <;> simp [isNoneD, excD, fnD]
noncomputable def isD : PyData -> PyData -> Option PV
 | d, .none => some (.dat (.bool (isNoneD d)))
 | _, _ => none
noncomputable def isNotD : PyData -> PyData -> Option PV
 | d, .none => some (.dat (.bool (!isNoneD d)))
 | _, _ => none
theorem x_is : R2X K (fun x y H Q => y = .non /\ Q (.bl (decide (x = .non))) H) isD := by
 intro O va H x y d e pv Q D hx hy hf q
 cases hy with
 | non => cases hf; exact ⟨rfl, q _ H (Same.refl H) (by rw [hx.non_iff]; exact Dt.bl _)⟩
 | _ => cases hf
theorem x_isNot : R2X K (fun x y H Q => y = .non /\ Q (.bl (!decide (x = .non))) H) isNotD := by
 intro O va H x y d e pv Q D hx hy hf q
 cases hy with
 | non => cases hf; exact ⟨rfl, q _ H (Same.refl H) (by rw [hx.non_iff]; exact Dt.bl _)⟩
 | _ => cases hf
noncomputable def ixD : PyData -> PyData -> Option PV
 | .list l, .int i => (atI l i).bind fun d => some (.dat d)
 | .tuple l, .int i => (atI l i).bind fun d => some (.dat d)
 | .str z, .int i => if z.length <= 1000000 then (atI z.cps.toList i).bind fun c => some (.dat (.str ⟨#[c]⟩)) else none
 | _, _ => none
theorem Dts.atI {H : Hp} {xs : List V} {l : List PyData} {i : Int} {d : PyData} (h : Dts K H xs l) (e : L2.atI l i = some d) : ∃ x, L2.atI xs i = some x /\ Dt K H x d := by
 unfold L2.atI at e ⊢
 rw [h.length]
 cases hi : ixN l.length i with
 | none => rw [hi] at e; cases e
 | some j =>
  rw [hi] at e
  exact h.get e
theorem x_ix : R2X K (rIx K) ixD := by
 intro O va H x y d e pv Q D hx hy hf q
 cases hx with
 | lst hs ht =>
  cases hy with
  | int i =>
   rename_i a xs l
   have hf' : ((L2.atI l i).bind fun d => some (PV.dat d)) = some pv := hf
   cases h1 : L2.atI l i with
   | none => rw [h1] at hf'; cases hf'
   | some d =>
    rw [h1] at hf'
    cases hf'
    obtain ⟨v, h2, h3⟩ := ht.atI h1
    exact .inl ⟨a, xs, i, v, rfl, rfl, hid_all.seq hs, h2, q v H (Same.refl H) h3⟩
  | _ => cases hf
 | tup hs ht =>
  cases hy with
  | int i =>
   rename_i a xs l
   have hf' : ((L2.atI l i).bind fun d => some (PV.dat d)) = some pv := hf
   cases h1 : L2.atI l i with
   | none => rw [h1] at hf'; cases hf'
   | some d =>
    rw [h1] at hf'
    cases hf'
    obtain ⟨v, h2, h3⟩ := ht.atI h1
    exact .inr (.inl ⟨a, xs, i, v, rfl, rfl, hid_all.seqT hs, h2, q v H (Same.refl H) h3⟩)
  | _ => cases hf
 | str z =>
  cases hy with
  | int i =>
   have hf' : (if z.length <= 1000000 then (L2.atI z.cps.toList i).bind fun c => some (PV.dat (.str ⟨#[c]⟩)) else none) = some pv := hf
   split at hf'
   . rename_i hz
     cases h1 : L2.atI z.cps.toList i with
     | none => rw [h1] at hf'; cases hf'
     | some c =>
      rw [h1] at hf'
      cases hf'
      exact .inr (.inr ⟨z, i, c, rfl, rfl, szM hz, h1, q _ H (Same.refl H) (Dt.str _)⟩)
   . cases hf'
  | _ => cases hf
 | _ => cases hf
end
noncomputable def rCatX (K : PySem.W.Frag) : R2 := fun x y H Q => ∃ a b xs ys, x = .ref a /\ y = .ref b /\ SqT K H a xs /\ SqT K H b ys /\ xs.length + ys.length <= sizeLine /\
 (xs = [] -> Q (.ref b) H) /\ (xs ≠ [] -> ys = [] -> Q (.ref a) H) /\ (xs ≠ [] -> ys ≠ [] -> ∀ p, H p = none -> Q (.ref p) (upd H p (.tup (xs ++ ys))))
noncomputable def rCatL (K : PySem.W.Frag) : R2 := fun x y H Q => ∃ a b xs ys, x = .ref a /\ y = .ref b /\ SqL K H a xs /\ SqL K H b ys /\ xs.length + ys.length <= sizeLine /\ ∀ p, H p = none -> Q (.ref p) (upd H p (.lst (xs ++ ys)))
section
variable {X : Cx}
theorem op_catX : OpR X (binaryOp .Add) (rCatX X.K) := by
 intro pins s σ H x y v u Q I rx ry h
 obtain ⟨a, b, xs, ys, rfl, rfl, ha, hb, hz, q1, q2, q3⟩ := h
 by_cases hx : xs = []
 . subst hx
   cases rx
   cases ry
   obtain ⟨its, r1, p1, _⟩ := I.tuple ha
   obtain ⟨its2, r2, p2, _⟩ := I.tuple hb
   exact cat_nil p1 p2 (r1.nil_iff.mpr rfl) ⟨.ref b, H, I, rfl, q1 rfl⟩
 . exact op_catT pins s σ H (.ref a) (.ref b) v u Q I rx ry ⟨a, b, xs, ys, rfl, rfl, ha, hb, hx, hz, fun e => q2 hx e, fun e p hp => q3 hx e p hp⟩
theorem op_catL : OpR X (binaryOp .Add) (rCatL X.K) := by
 intro pins s σ H x y v u Q I rx ry h
 obtain ⟨l, b, xs, zs, rfl, rfl, hH, hB, hz, q⟩ := h
 cases rx
 cases ry
 obtain ⟨its, r, p1, z1⟩ := I.list hH
 obtain ⟨its2, r2, p2, z2⟩ := I.list hB
 obtain ⟨⟨cls, dd, data, sl⟩, ho, hc, n, hd⟩ := p1.isList
 obtain ⟨⟨cls2, dd2, data2, sl2⟩, ho2, hc2, n2, hd2⟩ := p2.isList
 simp only at hc hd hc2 hd2
 subst hc hd hc2 hd2
 have e : its.toArray ++ its2.toArray = (its ++ its2).toArray := by simp
 have h1 := r.length
 have h2 := r2.length
 refine concat_meets ⟨_, ho, rfl⟩ ⟨_, ho2, rfl⟩ noFill_list_add seq_list_add PySem.F.slot_list_add PySem.F.entry_list_add (PySem.F.args_list_add_2 _ _) (list_addW l b its.toArray its2.toArray n n2 dd dd2 sl sl2 (by simp; omega)) ⟨ho, ho2, ?_⟩
 rw [e]
 exact ⟨.ref _, _, I.lnew (t' := s.toks) (r.append r2) (by rw [List.length_append]; omega), rfl, q _ I.fresh⟩
noncomputable def rAddX (K : PySem.W.Frag) : R2 := fun x y H Q => (rI0 fun i j => .int (i + j)) x y H Q \/ (∃ i j, x = .str i /\ y = .str j /\ i.length + j.length <= sizeLine /\ Q (.str (i ++ j)) H) \/ rCatX K x y H Q \/ rCatL K x y H Q
theorem op_addX : OpR X (binaryOp .Add) (rAddX X.K) := op_add.or (op_add_str.or (op_catX.or op_catL))
end
noncomputable def addD : PyData -> PyData -> Option PV
 | .int i, .int j => some (.dat (.int (i + j)))
 | .str i, .str j => if i.length + j.length <= 1000000 then some (.dat (.str (i ++ j))) else none
 | .tuple l, .tuple m => if l.length + m.length <= 1000000 then some (.dat (.tuple (l ++ m))) else none
 | .list l, .list m => if l.length + m.length <= 1000000 then some (.own (l ++ m)) else none
 | _, _ => none
theorem x_add {K : PySem.W.Frag} : R2X K (rAddX K) addD := by
 intro O va H x y d e pv Q D hx hy hf q
 cases hx with
 | int i =>
  cases hy with
  | int j => cases hf; exact .inl ⟨i, j, rfl, rfl, q _ H (Same.refl H) (Dt.int _)⟩
  | _ => cases hf
 | str i =>
  cases hy with
  | str j =>
   have hf' : (if i.length + j.length <= 1000000 then some (PV.dat (.str (i ++ j))) else none) = some pv := hf
   split at hf'
   . rename_i hz
     cases hf'
     exact .inr (.inl ⟨i, j, rfl, rfl, szM hz, q _ H (Same.refl H) (Dt.str _)⟩)
   . cases hf'
  | _ => cases hf
 | tup hs ht =>
  cases hy with
  | tup hs2 ht2 =>
   rename_i a xs l b ys m
   have hf' : (if l.length + m.length <= 1000000 then some (PV.dat (.tuple (l ++ m))) else none) = some pv := hf
   split at hf'
   . rename_i hz
     cases hf'
     have g1 := ht.length
     have g2 := ht2.length
     refine .inr (.inr (.inl ⟨a, b, xs, ys, rfl, rfl, hid_all.seqT hs, hid_all.seqT hs2, by rw [g1, g2]; exact szM hz, fun e => ?_, fun e1 e2 => ?_, fun e1 e2 p hp => ?_⟩))
     . subst e
       cases ht
       exact q _ H (Same.refl H) (Dt.tup hs2 ht2)
     . subst e2
       cases ht2
       rw [List.append_nil] at q
       exact q _ H (Same.refl H) (Dt.tup hs ht)
     . exact q _ _ (Same.new hp) (rx_tup D hp (ht.append ht2))
   . cases hf'
  | _ => cases hf
 | lst hs ht =>
  cases hy with
  | lst hs2 ht2 =>
   rename_i a xs l b ys m
   have hf' : (if l.length + m.length <= 1000000 then some (PV.own (l ++ m)) else none) = some pv := hf
   split at hf'
   . rename_i hz
     cases hf'
     have g1 := ht.length
     have g2 := ht2.length
     exact .inr (.inr (.inr ⟨a, b, xs, ys, rfl, rfl, hid_all.seq hs, hid_all.seq hs2, by rw [g1, g2]; exact szM hz, fun p hp => q _ _ (Same.new hp) (rx_lst hp (ht.append ht2))⟩))
   . cases hf'
  | _ => cases hf
 | _ => cases hf
noncomputable def cutD {α : Type} (xs : List α) (lo hi : Option Int) : List α := (xs.drop (HT.sIx xs.length 0 lo)).take (HT.sIx xs.length xs.length hi - HT.sIx xs.length 0 lo)
theorem Dts.cut {K : PySem.W.Frag} {H : Hp} {xs : List V} {l : List PyData} (h : Dts K H xs l) (lo hi : Option Int) : Dts K H (cutV xs lo hi) (cutD l lo hi) := by
 unfold cutV cutD
 rw [h.length]
 exact (h.drop _).take _
noncomputable def rSlX (K : PySem.W.Frag) : V -> Option Int -> Option Int -> Hp -> VK -> Prop := fun x lo hi H Q => ∃ a xs, x = .ref a /\ SqT K H a xs /\ (cutV xs lo hi = xs -> Q (.ref a) H) /\ ∀ p, H p = none -> Q (.ref p) (upd H p (.tup (cutV xs lo hi)))
section
variable {X : Cx}
theorem sl_tupX : SlR X (rSlX X.K) := by
 intro pins s σ H x v vl vu lo hi sl Q I rx hs pl pu h
 obtain ⟨a, xs, rfl, hx, q1, q2⟩ := h
 by_cases hw : HT.sIx xs.length 0 lo = 0 /\ HT.sIx xs.length xs.length hi = xs.length
 . cases rx
   obtain ⟨its, r, ht, hz⟩ := I.tuple hx
   have hlen : its.toArray.size = xs.length := by rw [List.size_toArray]; exact r.length.symm
   refine ⟨"tuple", _, PyProof.Rows.slot_tuple_getitem.lookup, ht.typeIs, ?_⟩
   refine getItem_whole ht hs pl pu (by rw [hlen]; exact hw) ⟨.ref a, H, I, rfl, q1 ?_⟩
   unfold cutV; rw [hw.1, hw.2]; simp
 . exact sl_tup pins s σ H (.ref a) v vl vu lo hi sl Q I rx hs pl pu ⟨a, xs, rfl, hx, hw, q2⟩
end
noncomputable def rSl (K : PySem.W.Frag) : V -> Option Int -> Option Int -> Hp -> VK -> Prop := fun x lo hi H Q => rSlX K x lo hi H Q \/ rSlL K x lo hi H Q
theorem sl_seq {X : Cx} : SlR X (rSl X.K) := sl_tupX.or sl_list
noncomputable def slD : PyData -> Option Int -> Option Int -> Option PV
 | .tuple l, lo, hi => some (.dat (.tuple (cutD l lo hi)))
 | .list l, lo, hi => some (.own (cutD l lo hi))
 | _, _, _ => none
noncomputable def R3X (K : PySem.W.Frag) (r : V -> Option Int -> Option Int -> Hp -> VK -> Prop) (f : PyData -> Option Int -> Option Int -> Option PV) : Prop :=
 ∀ (O : List Addr) (va : As) (H : Hp) (x : V) (lo hi : Option Int) (d : PyData) (pv : PV) (Q : VK), Dom H va O -> Dt K (hid H va O) x d -> f d lo hi = some pv -> (∀ v H', Same H H' -> RX K O va H H' v pv -> Q v H') -> r x lo hi H Q
theorem x_sl {K : PySem.W.Frag} : R3X K (rSl K) slD := by
 intro O va H x lo hi d pv Q D hx hf q
 cases hx with
 | tup hs ht =>
  cases hf
  refine .inl ⟨_, _, rfl, hid_all.seqT hs, fun e => ?_, fun p hp => q _ _ (Same.new hp) (rx_tup D hp (ht.cut lo hi))⟩
  have h2 := ht.cut lo hi
  rw [e] at h2
  exact q _ H (Same.refl H) (Dt.tup hs h2)
 | lst hs ht =>
  cases hf
  exact .inr ⟨_, _, rfl, hid_all.seq hs, fun p hp => q _ _ (Same.new hp) (rx_lst hp (ht.cut lo hi))⟩
 | _ => cases hf
noncomputable def TOX (K : PySem.W.Frag) (to : TO) (F : Ds -> Option (Option Int)) : Prop :=
 ∀ (O : List Addr) (H₀ : Hp) (as : As) (σ : St) (H : Hp) (ds : Ds) (b : Option Int) (Q : Option Int -> Hp -> Prop), DS K O H₀ as σ H ds -> F ds = some b -> (∀ H', Same H H' -> Q b H') -> to σ H Q
structure POX (X : Cx) (e : Option Expr) (to : TO) (F : Ds -> Option (Option Int)) : Prop where
 p : PO X e to
 t : TOX X.K to F
noncomputable def oNone : Ds -> Option (Option Int) := fun _ => some none
noncomputable def asI : PyData -> Option Int
 | .int i => some i
 | _ => none
noncomputable def oSome (F : Ds -> Option PV) : Ds -> Option (Option Int) := fun ds => (F ds).bind fun pv => (asI pv.d).bind fun i => some (some i)
section
variable {X : Cx} {fr : Bool} {e : Expr} {te : TE} {F : Ds -> Option PV} {p2 pos : Pos}
theorem pox_none : POX X none tNoPart oNone := ⟨po_none, by
 intro O H₀ as σ H ds b Q S hf q
 cases hf
 exact q H (Same.refl H)⟩
theorem pox_some (h : PX X fr e te F) : POX X (some e) (tPart te) (oSome F) := ⟨po_some h.p, by
 intro O H₀ as σ H ds b Q S hf q
 unfold oSome at hf
 cases h1 : F ds with
 | none => rw [h1] at hf; cases hf
 | some pv =>
  rw [h1] at hf
  simp only [Option.bind_some] at hf
  refine h.t O H₀ as σ H ds pv _ S h1 fun v H1 e1 r1 => ?_
  have d := r1.dt S.dm
  generalize pv.d = z at d hf
  cases d with
  | int i => cases hf; exact ⟨i, rfl, q H1 e1⟩
  | _ => cases hf⟩
noncomputable def fSl (f : PyData -> Option Int -> Option Int -> Option PV) (F : Ds -> Option PV) (Fl Fh : Ds -> Option (Option Int)) : Ds -> Option PV := fun ds => (F ds).bind fun x => (Fl ds).bind fun lo => (Fh ds).bind fun hi => f x.d lo hi
theorem px_slice {r : V -> Option Int -> Option Int -> Hp -> VK -> Prop} {f : PyData -> Option Int -> Option Int -> Option PV} {lo hi : Option Expr} {tl th : TO} {Fl Fh : Ds -> Option (Option Int)} (ho : SlR X r) (hr : R3X X.K r f) (he : PX X fr e te F) (hl : POX X lo tl Fl) (hh : POX X hi th Fh) :
  PX X fr (.Subscript e (.Slice lo hi none p2) pos) (tSl r te tl th) (fSl f F Fl Fh) := ⟨pe_slice ho he.p hl.p hh.p, by
 intro O H₀ as σ H ds pv Q S hf q
 unfold fSl at hf
 cases h1 : F ds with
 | none => rw [h1] at hf; cases hf
 | some x =>
  cases h2 : Fl ds with
  | none => rw [h1, h2] at hf; cases hf
  | some l =>
   cases h3 : Fh ds with
   | none => rw [h1, h2, h3] at hf; cases hf
   | some h =>
    rw [h1, h2, h3] at hf
    simp only [Option.bind_some] at hf
    refine he.t O H₀ as σ H ds x _ S h1 fun v H1 e1 r1 => ?_
    refine hl.t O H₀ as σ H1 ds l _ (S.grow e1) h2 fun H2 e2 => ?_
    refine hh.t O H₀ as σ H2 ds h _ ((S.grow e1).grow e2) h3 fun H3 e3 => ?_
    refine hr O (vis fr as) H3 v l h x.d pv Q (((S.grow e1).grow e2).grow e3).dm ((r1.grow (e2.trans e3)).dt S.dm) hf fun w H4 e4 r4 => ?_
    exact q w H4 (((e1.trans e2).trans e3).trans e4) (r4.back ((e1.trans e2).trans e3))⟩
end
section
variable {X : Cx}
theorem RNX.one {K : PySem.W.Frag} {r : List V -> Hp -> VK -> Prop} {f : PyData -> Option PV} (h : R1X K (fun x => r [x]) f) : RNX K r (fun l => match l with
  | [d] => f d
  | _ => none) := by
 intro O va H xs ds pv Q D hx hf q
 cases hx with
 | nil => cases hf
 | cons h1 t =>
  cases t with
  | nil => exact h O va H _ _ pv Q D h1 hf q
  | cons _ _ => cases hf
noncomputable def rLen (K : PySem.W.Frag) : List V -> Hp -> VK -> Prop := fun xs H Q => (∃ p ys, xs = [.ref p] /\ (SqL K H p ys \/ SqT K H p ys) /\ Q (.int ys.length) H) \/ (∃ z, xs = [.str z] /\ z.length <= sizeLine /\ Q (.int z.length) H)
theorem call_lenX : CallR X (.builtin "len") (rLen X.K) := call_len_seq.or call_len_str
noncomputable def lenD : List PyData -> Option PV
 | [.list l] => some (.dat (.int (l.length : Nat)))
 | [.tuple l] => some (.dat (.int (l.length : Nat)))
 | [.str z] => if z.length <= 1000000 then some (.dat (.int (z.length : Nat))) else none
 | _ => none
theorem Dts.inv1 {K : PySem.W.Frag} {H : Hp} {xs : List V} {d : PyData} (h : Dts K H xs [d]) : ∃ x, xs = [x] /\ Dt K H x d := by
 cases h with
 | cons h t => cases t; exact ⟨_, rfl, h⟩
theorem Dts.inv2 {K : PySem.W.Frag} {H : Hp} {xs : List V} {d e : PyData} (h : Dts K H xs [d, e]) : ∃ x y, xs = [x, y] /\ Dt K H x d /\ Dt K H y e := by
 cases h with
 | cons h t =>
  cases t with
  | cons h2 t => cases t; exact ⟨_, _, rfl, h, h2⟩
theorem x_len {K : PySem.W.Frag} : RNX K (rLen K) lenD := by
 intro O va H xs ds pv Q D hx hf q
 unfold lenD at hf
 split at hf
 . cases hf
   obtain ⟨x, rfl, h⟩ := hx.inv1
   cases h with
   | lst hs ht => exact .inl ⟨_, _, rfl, .inl (hid_all.seq hs), q _ H (Same.refl H) (by rw [ht.length]; exact Dt.int _)⟩
 . cases hf
   obtain ⟨x, rfl, h⟩ := hx.inv1
   cases h with
   | tup hs ht => exact .inl ⟨_, _, rfl, .inr (hid_all.seqT hs), q _ H (Same.refl H) (by rw [ht.length]; exact Dt.int _)⟩
 . split at hf
   . rename_i hz
     cases hf
     obtain ⟨x, rfl, h⟩ := hx.inv1
     cases h
     exact .inr ⟨_, rfl, szM hz, q _ H (Same.refl H) (Dt.int _)⟩
   . cases hf
 . cases hf
noncomputable def absD : List PyData -> Option PV
 | [.int i] => some (.dat (.int (if i < 0 then -i else i)))
 | _ => none
theorem x_abs {K : PySem.W.Frag} : RNX K (fun xs H Q => ∃ i, xs = [.int i] /\ Q (.int (if i < 0 then -i else i)) H) absD := by
 intro O va H xs ds pv Q D hx hf q
 unfold absD at hf
 split at hf
 . cases hf
   obtain ⟨x, rfl, h⟩ := hx.inv1
   cases h
   exact ⟨_, rfl, q _ H (Same.refl H) (Dt.int _)⟩
 . cases hf
noncomputable def minD : List PyData -> Option PV
 | [.int i, .int j] => some (.dat (.int (if j < i then j else i)))
 | _ => none
noncomputable def maxD : List PyData -> Option PV
 | [.int i, .int j] => some (.dat (.int (if j > i then j else i)))
 | _ => none
theorem x_min {K : PySem.W.Frag} : RNX K (fun xs H Q => ∃ i j, xs = [.int i, .int j] /\ Q (.int (if j < i then j else i)) H) minD := by
 intro O va H xs ds pv Q D hx hf q
 unfold minD at hf
 split at hf
 . cases hf
   obtain ⟨x, y, rfl, h, h2⟩ := hx.inv2
   cases h; cases h2
   exact ⟨_, _, rfl, q _ H (Same.refl H) (Dt.int _)⟩
 . cases hf
theorem x_max {K : PySem.W.Frag} : RNX K (fun xs H Q => ∃ i j, xs = [.int i, .int j] /\ Q (.int (if j > i then j else i)) H) maxD := by
 intro O va H xs ds pv Q D hx hf q
 unfold maxD at hf
 split at hf
 . cases hf
   obtain ⟨x, y, rfl, h, h2⟩ := hx.inv2
   cases h; cases h2
   exact ⟨_, _, rfl, q _ H (Same.refl H) (Dt.int _)⟩
 . cases hf
noncomputable def tupD : List PyData -> Option PV
 | [.list l] => some (.dat (.tuple l))
 | [.tuple l] => some (.dat (.tuple l))
 | _ => none
theorem x_tuple {K : PySem.W.Frag} : RNX K (fun xs H Q => ∃ p ys, xs = [.ref p] /\ ((SqL K H p ys /\ ∀ l, H l = none -> Q (.ref l) (upd H l (.tup ys))) \/ (SqT K H p ys /\ Q (.ref p) H))) tupD := by
 intro O va H xs ds pv Q D hx hf q
 unfold tupD at hf
 split at hf
 . cases hf
   obtain ⟨x, rfl, h⟩ := hx.inv1
   cases h with
   | lst hs ht => exact ⟨_, _, rfl, .inl ⟨hid_all.seq hs, fun p hp => q _ _ (Same.new hp) (rx_tup D hp ht)⟩⟩
 . cases hf
   obtain ⟨x, rfl, h⟩ := hx.inv1
   cases h with
   | tup hs ht => exact ⟨_, _, rfl, .inr ⟨hid_all.seqT hs, q _ H (Same.refl H) (Dt.tup hs ht)⟩⟩
 . cases hf
noncomputable def listD : List PyData -> Option PV
 | [.list l] => some (.own l)
 | [.tuple l] => some (.own l)
 | _ => none
theorem x_list {K : PySem.W.Frag} : RNX K (fun xs H Q => ∃ p ys, xs = [.ref p] /\ (SqL K H p ys \/ SqT K H p ys) /\ ∀ l, H l = none -> Q (.ref l) (upd H l (.lst ys))) listD := by
 intro O va H xs ds pv Q D hx hf q
 unfold listD at hf
 split at hf
 . cases hf
   obtain ⟨x, rfl, h⟩ := hx.inv1
   cases h with
   | lst hs ht => exact ⟨_, _, rfl, .inl (hid_all.seq hs), fun p hp => q _ _ (Same.new hp) (rx_lst hp ht)⟩
 . cases hf
   obtain ⟨x, rfl, h⟩ := hx.inv1
   cases h with
   | tup hs ht => exact ⟨_, _, rfl, .inr (hid_all.seqT hs), fun p hp => q _ _ (Same.new hp) (rx_lst hp ht)⟩
 . cases hf
noncomputable def intD : List PyData -> Option PV
 | [.int i] => some (.dat (.int i))
 | [.bool k] => some (.dat (.int (if k then 1 else 0)))
 | _ => none
theorem x_int {K : PySem.W.Frag} : RNX K (fun xs H Q => (∃ i, xs = [.int i] /\ Q (.int i) H) \/ ∃ k, xs = [.bl k] /\ Q (.int (if k then 1 else 0)) H) intD := by
 intro O va H xs ds pv Q D hx hf q
 unfold intD at hf
 split at hf
 . cases hf
   obtain ⟨x, rfl, h⟩ := hx.inv1
   cases h
   exact .inl ⟨_, rfl, q _ H (Same.refl H) (Dt.int _)⟩
 . cases hf
   obtain ⟨x, rfl, h⟩ := hx.inv1
   cases h
   exact .inr ⟨_, rfl, q _ H (Same.refl H) (Dt.int _)⟩
 . cases hf
noncomputable def strD : List PyData -> Option PV
 | [.int i] => if i.natAbs.log2 < 1920 then some (.dat (.str (toString i))) else none
 | _ => none
theorem x_str {K : PySem.W.Frag} : RNX K (fun xs H Q => ∃ i, xs = [.int i] /\ i.natAbs.log2 < 1920 /\ Q (.str (toString i)) H) strD := by
 intro O va H xs ds pv Q D hx hf q
 unfold strD at hf
 split at hf
 . split at hf
   . rename_i hz
     cases hf
     obtain ⟨x, rfl, h⟩ := hx.inv1
     cases h
     exact ⟨_, rfl, hz, q _ H (Same.refl H) (Dt.str _)⟩
   . cases hf
 . cases hf
noncomputable def boolsOf : List PyData -> Option (List Bool)
 | [] => some []
 | .bool b :: r => (boolsOf r).bind fun l => some (b :: l)
 | _ => none
noncomputable def allD : List PyData -> Option PV
 | [.list l] => (boolsOf l).bind fun bs => some (.dat (.bool (bs.all id)))
 | _ => none
theorem Dts.bools {K : PySem.W.Frag} {H : Hp} : ∀ {l : List PyData} {xs : List V} {bs : List Bool}, Dts K H xs l -> boolsOf l = some bs -> xs = bs.map V.bl
 | [], _, _, h, e => by cases e; cases h; rfl
 | d :: r, xs, bs, h, e => by
  cases h with
  | cons h t =>
   cases h with
   | bl b =>
    have e' : ((boolsOf r).bind fun l => some (b :: l)) = some bs := e
    cases h1 : boolsOf r with
    | none => rw [h1] at e'; cases e'
    | some l =>
     rw [h1] at e'
     cases e'
     rw [t.bools h1]
     rfl
   | _ => cases e
theorem x_all {K : PySem.W.Frag} {A : Around} (hh : A.handled = none) : RNX K (fun xs H Q => ∃ (p : Addr) (bs : List Bool), xs = [.ref p] /\ SqL K H p (bs.map V.bl) /\ A.handled = none /\ Q (.bl (bs.all id)) H) allD := by
 intro O va H xs ds pv Q D hx hf q
 unfold allD at hf
 split at hf
 . rename_i l
   cases h1 : boolsOf l with
   | none => rw [h1] at hf; cases hf
   | some bs =>
    rw [h1] at hf
    cases hf
    obtain ⟨x, rfl, h⟩ := hx.inv1
    cases h with
    | lst hs ht =>
     have e := ht.bools h1
     subst e
     exact ⟨_, bs, rfl, hid_all.seq hs, hh, q _ H (Same.refl H) (Dt.bl _)⟩
 . cases hf
noncomputable def fIsin (n : String) (F : Ds -> Option PV) : Ds -> Option PV := fun ds => (F ds).bind fun x => if isFnD x.d = true then none else some (.dat (.bool (isI x.d n)))
theorem px_isin {fr : Bool} {e c : Expr} {te : TE} {F : Ds -> Option PV} {x : Str} {p pos : Pos} {n : String} (h5 : five n) (hg : Gl X x) (hm : X.mg x = none) (hv : bootBuiltins x = some (.builtin "isinstance")) (h : PX X fr e te F) (hc : PE X c (tC (.ty n))) (hn : x ≠ "__name__" := by decide) (hdb : (x == ("__debug__" : Str)) = false := by decide)
  (hs1 : starEach [e, c] X.env = (false, eval e X.env) :: starEach [c] X.env := by rfl) (hs2 : starEach [c] X.env = (false, eval c X.env) :: starEach [] X.env := by rfl) (hpl : (backTo pos (starEach [c] X.env)).any (·.1) = false := by rfl) :
  PX X fr (.Call (.Name x p) [e, c] [] pos) (tCB (fun xs H Q => ∃ x n d, xs = [x, .ty n] /\ Dt X.K H x d /\ isFnD d = false /\ five n /\ Q (.bl (isI d n)) H) (tCons te (tCons (tC (.ty n)) tNil))) (fIsin n F) :=
 ⟨pe_callB call_isD hg hm hv (pa_cons h.p (pa_cons hc pa_nil hs2) hs1) hn hdb hs1 hpl, by
 intro O H₀ as σ H ds pv Q S hf q
 unfold fIsin at hf
 cases h1 : F ds with
 | none => rw [h1] at hf; cases hf
 | some w =>
  rw [h1] at hf
  simp only [Option.bind_some] at hf
  split at hf
  . cases hf
  . rename_i hfn
    cases hf
    refine h.t O H₀ as σ H ds w _ S h1 fun v H1 e1 r1 => ?_
    exact ⟨v, n, w.d, rfl, (r1.dt S.dm).same hid_all, by simpa using hfn, h5, q _ H1 e1 (Dt.bl _)⟩⟩
end
noncomputable abbrev rTupC (K : PySem.W.Frag) : List V -> Hp -> VK -> Prop := fun xs H Q => ∃ p ys, xs = [.ref p] /\ ((SqL K H p ys /\ ∀ l, H l = none -> Q (.ref l) (upd H l (.tup ys))) \/ (SqT K H p ys /\ Q (.ref p) H))
noncomputable abbrev rListC (K : PySem.W.Frag) : List V -> Hp -> VK -> Prop := fun xs H Q => ∃ p ys, xs = [.ref p] /\ (SqL K H p ys \/ SqT K H p ys) /\ ∀ l, H l = none -> Q (.ref l) (upd H l (.lst ys))
noncomputable def rAllC (K : PySem.W.Frag) : List V -> Hp -> VK -> Prop := fun xs H Q => ∃ (p : Addr) (bs : List Bool), xs = [.ref p] /\ SqL K H p (bs.map V.bl) /\ Q (.bl (bs.all id)) H
theorem call_allX {X : Cx} (hh : X.A.handled = none) : CallR X (.builtin "all") (rAllC X.K) := fun pins s σ H xs us Q I r h => by
 obtain ⟨p, bs, e, hs, q⟩ := h
 exact call_all pins s σ H xs us Q I r ⟨p, bs, e, hs, hh, q⟩
theorem x_allX {K : PySem.W.Frag} : RNX K (rAllC K) allD := by
 intro O va H xs ds pv Q D hx hf q
 obtain ⟨p, bs, e, hs, _, z⟩ := x_all (A := callerA) rfl O va H xs ds pv Q D hx hf q
 exact ⟨p, bs, e, hs, z⟩
theorem px_callK {X : Cx} {K' : PySem.W.Frag} {fr : Bool} {e : Expr} {es : List Expr} {t : TA} {Fl : Ds -> Option (List PyData)} {pos : Pos} {CX : CXT} {E : XK} {k : Nat} {f : Addr} {fd : FuncData} {ps : List Str} {x : Str} {p : Pos} {f' : List PyData -> Option PV} (eK : X.K = K') (G : FnOk X.prog X.w K' X.mg X.base CX k f fd ps (spF K' f')) (hr : Room k X.A) (hg : Gl X x) (hm : X.mg x = some (.ref f)) (hk : PySem.W.keepIn K' (.ref f) = true) (hb : Binds K' fd ps []) (hx : Passes CX X E)
  (ha : PAX X fr (e :: es) t Fl) (hdb : (x == ("__debug__" : Str)) = false := by decide) (he : starEach (e :: es) X.env = (false, eval e X.env) :: starEach es X.env := by rfl) (hpl : (backTo pos (starEach es X.env)).any (·.1) = false := by rfl) :
  PX X fr (.Call (.Name x p) (e :: es) [] pos) (tCall (spF K' f') [] E t) (fCall f' Fl) := by
 subst eK
 exact px_call G hr hg hm hk hb hx ha hdb he hpl
noncomputable def rIsin (K : PySem.W.Frag) : List V -> Hp -> VK -> Prop := fun xs H Q => ∃ x n d, xs = [x, .ty n] /\ Dt K H x d /\ isFnD d = false /\ five n /\ Q (.bl (isI d n)) H
theorem px_isinK {X : Cx} {K' : PySem.W.Frag} (eK : X.K = K') {fr : Bool} {e c : Expr} {te : TE} {F : Ds -> Option PV} {x : Str} {p pos : Pos} {n : String} (h5 : five n) (hg : Gl X x) (hm : X.mg x = none) (hv : bootBuiltins x = some (.builtin "isinstance")) (h : PX X fr e te F) (hc : PE X c (tC (.ty n))) (hn : x ≠ "__name__" := by decide) (hdb : (x == ("__debug__" : Str)) = false := by decide)
  (hs1 : starEach [e, c] X.env = (false, eval e X.env) :: starEach [c] X.env := by rfl) (hs2 : starEach [c] X.env = (false, eval c X.env) :: starEach [] X.env := by rfl) (hpl : (backTo pos (starEach [c] X.env)).any (·.1) = false := by rfl) :
  PX X fr (.Call (.Name x p) [e, c] [] pos) (tCB (rIsin K') (tCons te (tCons (tC (.ty n)) tNil))) (fIsin n F) := by
 subst eK
 exact px_isin h5 hg hm hv h hc hn hdb hs1 hs2 hpl
theorem five_tuple : five "tuple" := .inl rfl
theorem five_list : five "list" := .inr (.inl rfl)
theorem five_bool : five "bool" := .inr (.inr (.inl rfl))
theorem five_int : five "int" := .inr (.inr (.inr (.inl rfl)))
theorem five_str : five "str" := .inr (.inr (.inr (.inr rfl)))
noncomputable def muAbs (i : Nat) (ds : Ds) : Nat := match ds[i]? with
 | some (some (.dat (.int k))) => k.natAbs + 1
 | _ => 0
end L2
namespace L2
open PySem PySem.Spec PyProof.Rows
theorem hid_nil {H : Hp} : hid H [] [] = H := by
 funext b
 unfold hid
 rw [if_neg (by simp)]
theorem sqL_hid {K : PySem.W.Frag} {H : Hp} {a : Addr} {xs : List V} (h : SqL K H a xs) : SqL K (hid H [] []) a xs := by rw [hid_nil]; exact h
theorem dts_ints {K : PySem.W.Frag} {H : Hp} : ∀ ns : List Int, Dts K H (ns.map V.int) (ns.map PyData.int)
 | [] => .nil
 | n :: r => .cons (.int n) (dts_ints r)
theorem dt_true {K : PySem.W.Frag} {H H' : Hp} {v : V} (r : RX K [] [] H H' v (.dat (.bool true))) : v = .bl true := by
 have r' : Dt K (hid H' [] []) v (.bool true) := r
 cases r'
 rfl
end L2
namespace L2
open PySem PySem.Spec PyProof.Rows
noncomputable def seqK (o : Option Out) (G : Ds -> Option Out) : Option Out := o.bind fun o => match o with
 | .next ds' => G ds'
 | o => some o
theorem gSeq_eq (G1 G2 : Ds -> Option Out) (ds : Ds) : gSeq G1 G2 ds = seqK (G1 ds) G2 := rfl
theorem seqK_next (ds : Ds) (G : Ds -> Option Out) : seqK (some (.next ds)) G = G ds := rfl
theorem seqK_ret (pv : PV) (G : Ds -> Option Out) : seqK (some (.ret pv)) G = some (.ret pv) := rfl
theorem seqK_brk (ds : Ds) (G : Ds -> Option Out) : seqK (some (.brk ds)) G = some (.brk ds) := rfl
theorem seqK_cont (ds : Ds) (G : Ds -> Option Out) : seqK (some (.cont ds)) G = some (.cont ds) := rfl
theorem asB_bool (b : Bool) : asB (.bool b) = some b := rfl
theorem asI_int (i : Int) : asI (.int i) = some i := rfl
theorem seqOf_list (l : List PyData) : seqOf (.list l) = some l := rfl
theorem seqOf_tup (l : List PyData) : seqOf (.tuple l) = some l := rfl
theorem outV_ret (pv : PV) : outV (.ret pv) = some pv := rfl
theorem outV_next (ds : Ds) : outV (.next ds) = some (.dat .none) := rfl
noncomputable def letK (o : Option PV) (i : Nat) (ds : Ds) : Option Out := o.bind fun pv => some (.next (ds.set i (some (.dat pv.d))))
theorem gSetD_eq (i : Nat) (F : Ds -> Option PV) (ds : Ds) : gSetD i F ds = letK (F ds) i ds := rfl
theorem letK_some (pv : PV) (i : Nat) (ds : Ds) : letK (some pv) i ds = some (.next (ds.set i (some (.dat pv.d)))) := rfl
noncomputable def letP (o : Option PV) (i : Nat) (ds : Ds) : Option Out := o.bind fun pv => some (.next (ds.set i (some pv)))
theorem gSet_eq (i : Nat) (F : Ds -> Option PV) (ds : Ds) : gSet i F ds = letP (F ds) i ds := rfl
theorem letP_some (pv : PV) (i : Nat) (ds : Ds) : letP (some pv) i ds = some (.next (ds.set i (some pv))) := rfl
noncomputable def appK (o : Option PV) (i : Nat) (ds : Ds) : Option Out := o.bind fun pv => match ds[i]? with
 | some (some (.own l)) => if l.length < 1000000 then some (.next (ds.set i (some (.own (l ++ [pv.d]))))) else none
 | _ => none
theorem gApp_eq (i : Nat) (F : Ds -> Option PV) (ds : Ds) : gApp i F ds = appK (F ds) i ds := rfl
theorem appK_some {i : Nat} {ds : Ds} {l : List PyData} (pv : PV) (h : ds[i]? = some (some (.own l))) (hl : l.length < 1000000) : appK (some pv) i ds = some (.next (ds.set i (some (.own (l ++ [pv.d]))))) := by
 unfold appK
 simp only [Option.bind_some, h]
 rw [if_pos hl]
noncomputable abbrev iD (n : Int) : Option PV := some (.dat (.int n))
theorem atI_0 {α : Type} (x : α) (l : List α) : atI (x :: l) 0 = some x := by
 unfold atI ixN
 rw [if_pos (by decide), if_pos (by simp)]
 rfl
theorem atI_lit {α : Type} {l : List α} {i : Int} {n : Nat} (hi : i = (n : Int)) (h : n < l.length) : atI l i = l[n]? := by
 subst hi
 unfold atI ixN
 rw [if_pos (by omega), if_pos (by omega)]
 simp
theorem atI_1 {α : Type} (x y : α) (l : List α) : atI (x :: y :: l) 1 = some y := atI_lit (n := 1) rfl (by simp)
theorem atI_2 {α : Type} (x y z : α) (l : List α) : atI (x :: y :: z :: l) 2 = some z := atI_lit (n := 2) rfl (by simp)
theorem atI_3 {α : Type} (x y z u : α) (l : List α) : atI (x :: y :: z :: u :: l) 3 = some u := atI_lit (n := 3) rfl (by simp)
theorem atI_4 {α : Type} (x y z u v : α) (l : List α) : atI (x :: y :: z :: u :: v :: l) 4 = some v := atI_lit (n := 4) rfl (by simp)
theorem atI_5 {α : Type} (x y z u v w : α) (l : List α) : atI (x :: y :: z :: u :: v :: w :: l) 5 = some w := atI_lit (n := 5) rfl (by simp)
theorem atI_6 {α : Type} (x y z u v w a : α) (l : List α) : atI (x :: y :: z :: u :: v :: w :: a :: l) 6 = some a := atI_lit (n := 6) rfl (by simp)
theorem addD_int (i j : Int) : addD (.int i) (.int j) = some (.dat (.int (i + j))) := rfl
theorem subD_int (i j : Int) : subD (.int i) (.int j) = some (.dat (.int (i - j))) := rfl
theorem mulD_int {i j : Int} (h : Bt 60000 i) (k : Bt 60000 j) : mulD (.int i) (.int j) = some (.dat (.int (i * j))) := by
 unfold mulD iicD
 simp only []
 rw [if_pos ⟨h, k⟩]
theorem fdivD_int {i j : Int} (h : j ≠ 0) (k : Bt 8000 j) : fdivD (.int i) (.int j) = some (.dat (.int (i.fdiv j))) := by
 unfold fdivD iicD
 simp only []
 rw [if_pos ⟨h, k⟩]
theorem modD_int {i j : Int} (h : j ≠ 0) : modD (.int i) (.int j) = some (.dat (.int (i.fmod j))) := if_pos h
theorem powD_int {i j : Int} (h : CPow i j) : powD (.int i) (.int j) = some (.dat (.int (i ^ j.toNat))) := if_pos h
theorem shrD_int {i j : Int} (h : 0 <= j) : shrD (.int i) (.int j) = some (.dat (.int (i / 2 ^ j.toNat))) := if_pos h
theorem ltD_int (i j : Int) : ltD (.int i) (.int j) = some (.dat (.bool (decide (i < j)))) := rfl
theorem leD_int (i j : Int) : leD (.int i) (.int j) = some (.dat (.bool (decide (i <= j)))) := rfl
theorem gtD_int (i j : Int) : gtD (.int i) (.int j) = some (.dat (.bool (decide (j < i)))) := rfl
theorem geD_int (i j : Int) : geD (.int i) (.int j) = some (.dat (.bool (decide (j <= i)))) := rfl
theorem eqv_int (i j : Int) : PyData.eqv (.int i) (.int j) = decide (i = j) := by
 simp only [PyData.eqv]
 rw [Bool.eq_iff_iff]
 simp
theorem shaped_int (i : Int) : SeqAt.shaped (.int i) = true := by simp [SeqAt.shaped, PyData.canLay0, PyData.depth]
theorem eqDD_int (i j : Int) : eqDD (.int i) (.int j) = some (.dat (.bool (decide (i = j)))) := by
 show (if SeqAt.shaped (.int i) = true /\ SeqAt.shaped (.int j) = true then some (PV.dat (.bool (PyData.eqv (.int i) (.int j)))) else none) = _
 rw [if_pos ⟨shaped_int i, shaped_int j⟩, eqv_int]
theorem neDD_int (i j : Int) : neDD (.int i) (.int j) = some (.dat (.bool (!decide (i = j)))) := by
 show (if SeqAt.shaped (.int i) = true /\ SeqAt.shaped (.int j) = true then some (PV.dat (.bool (!PyData.eqv (.int i) (.int j)))) else none) = _
 rw [if_pos ⟨shaped_int i, shaped_int j⟩, eqv_int]
theorem eqDD_str (i j : Str) : eqDD (.str i) (.str j) = some (.dat (.bool (decide (i = j)))) := by
 rfl
theorem neDD_str (i j : Str) : neDD (.str i) (.str j) = some (.dat (.bool (!decide (i = j)))) := by
 rfl
theorem ixD_tup (l : List PyData) (i : Int) : ixD (.tuple l) (.int i) = (atI l i).bind fun d => some (.dat d) := rfl
theorem ixD_list (l : List PyData) (i : Int) : ixD (.list l) (.int i) = (atI l i).bind fun d => some (.dat d) := rfl
theorem absD_int (i : Int) : absD [.int i] = some (.dat (.int (if i < 0 then -i else i))) := rfl
theorem negD_int (i : Int) : negD (.int i) = some (.dat (.int (-i))) := rfl
theorem lenD_list (l : List PyData) : lenD [.list l] = some (.dat (.int (l.length : Nat))) := rfl
theorem lenD_tup (l : List PyData) : lenD [.tuple l] = some (.dat (.int (l.length : Nat))) := rfl
theorem tupD_list (l : List PyData) : tupD [.list l] = some (.dat (.tuple l)) := rfl
theorem tupD_tup (l : List PyData) : tupD [.tuple l] = some (.dat (.tuple l)) := rfl
theorem listD_list (l : List PyData) : listD [.list l] = some (.own l) := rfl
theorem listD_tup (l : List PyData) : listD [.tuple l] = some (.own l) := rfl
theorem addD_str {l m : Str} (h : l.length + m.length <= 1000000) : addD (.str l) (.str m) = some (.dat (.str (l ++ m))) := if_pos h
theorem slD_tup (l : List PyData) (lo hi : Option Int) : slD (.tuple l) lo hi = some (.dat (.tuple (cutD l lo hi))) := rfl
theorem slD_list (l : List PyData) (lo hi : Option Int) : slD (.list l) lo hi = some (.own (cutD l lo hi)) := rfl
theorem isD_none (d : PyData) : isD d .none = some (.dat (.bool (isNoneD d))) := rfl
theorem isNotD_none (d : PyData) : isNotD d .none = some (.dat (.bool (!isNoneD d))) := rfl
theorem rng1_int {j : Int} (h : -(4611686018427387904) <= j /\ j < 4611686018427387904) : rng1 [.int j] = some (rngI 0 j.toNat) := @if_pos _ (Classical.propDecidable _) h _ _ _
theorem forD_rng {gt : PyData -> Ds -> Option Ds} {G : Ds -> Option Out} {lo : Int} {n : Nat} (I : Nat -> Ds -> Prop) {ds : Ds} (h0 : I 0 ds) (hs : ∀ i ds, i < n -> I i ds -> ∃ ds1 ds2, gt (.int (lo + (i : Nat))) ds = some ds1 /\ (G ds1 = some (.next ds2) \/ G ds1 = some (.cont ds2)) /\ I (i + 1) ds2) : ∃ ds', forD gt G (rngI lo n) ds = some (.next ds') /\ I n ds' := by
 have key : ∀ (k i : Nat) (ds : Ds), i + k = n -> I i ds -> ∃ ds', forD gt G ((List.range' i k).map fun k => PyData.int (lo + (k : Nat))) ds = some (.next ds') /\ I n ds' := by
  intro k
  induction k with
  | zero =>
   intro i ds e hi
   have h2 : i = n := by omega
   subst h2
   exact ⟨ds, rfl, hi⟩
  | succ k ih =>
   intro i ds e hi
   obtain ⟨ds1, ds2, e1, e2, e3⟩ := hs i ds (by omega) hi
   rw [List.range'_succ, List.map_cons]
   unfold forD
   rw [e1]
   simp only [Option.bind_some]
   obtain ⟨ds', e4, e5⟩ := ih (i + 1) ds2 (by omega) e3
   refine ⟨ds', ?_, e5⟩
   rcases e2 with e2 | e2 <;> rw [e2] <;> exact e4
 obtain ⟨ds', h1, h2⟩ := key n 0 ds (by omega) h0
 refine ⟨ds', ?_, h2⟩
 unfold rngI
 rw [List.range_eq_range']
 exact h1
theorem whileD_false {Fc : Ds -> Option Bool} {G : Ds -> Option Out} {n : Nat} {ds : Ds} (h : Fc ds = some false) : whileD Fc G (n + 1) ds = some (.next ds) := by
 unfold whileD
 rw [h]
 rfl
theorem whileD_step {Fc : Ds -> Option Bool} {G : Ds -> Option Out} {n : Nat} {ds ds2 : Ds} (h : Fc ds = some true) (k : G ds = some (.next ds2)) : whileD Fc G (n + 1) ds = whileD Fc G n ds2 := by
 rw [whileD, h]
 simp only [Option.bind_some, if_true]
 rw [k]
 rfl
theorem whileD_by {Fc : Ds -> Option Bool} {G : Ds -> Option Out} (I : Ds -> Prop) (μ : Ds -> Nat) (hs : ∀ ds, I ds -> Fc ds = some false \/ (Fc ds = some true /\ ∃ ds2, G ds = some (.next ds2) /\ I ds2 /\ μ ds2 < μ ds)) :
  ∀ (n : Nat) (ds : Ds), I ds -> μ ds < n -> ∃ ds', whileD Fc G n ds = some (.next ds') /\ I ds' /\ Fc ds' = some false := by
 intro n
 induction n with
 | zero => intro ds _ h; omega
 | succ n ih =>
  intro ds hi hm
  rcases hs ds hi with h | ⟨h, ds2, k, i2, m2⟩
  . exact ⟨ds, whileD_false h, hi, h⟩
  . obtain ⟨ds', e, r⟩ := ih ds2 i2 (by omega)
    exact ⟨ds', by rw [whileD_step h k]; exact e, r⟩
theorem Bt.s62 {m : Nat} {i : Int} (h1 : -4611686018427387904 < i) (h2 : i < 4611686018427387904) (hm : 62 <= m := by decide) : Bt m i := (Bt.small (by omega) (by omega)).mono hm
theorem Bt.lit {m : Nat} {i : Int} (h1 : -4611686018427387904 < i := by decide) (h2 : i < 4611686018427387904 := by decide) (hm : 62 <= m := by decide) : Bt m i := Bt.s62 h1 h2 hm
end L2
namespace L2
open PySem PySem.Spec PyProof.Rows
noncomputable def gMut0 (i : Nat) (f : List PyData -> List PyData) : Ds -> Option Out := fun ds => match ds[i]? with
 | some (some (.own l)) => some (.next (ds.set i (some (.own (f l)))))
 | _ => none
section
variable {X : Cx} {e o : Expr} {te : TE} {F : Ds -> Option PV} {pos cpos apos : Pos}
theorem psx_rev (i : Nat) (ho : PE X o (tVar i)) (hbase : attributeBase o "reverse" X.env (eval o X.env) = eval o X.env := by rfl) (hline : (apos.endLine == cpos.line) = true := by rfl)
  (hs : swapsWith (.Call (.Attribute o "reverse" apos) [] [] cpos) none pos.line X.env = pure false := by rfl) :
  PSX X (.Expr (.Call (.Attribute o "reverse" apos) [] [] cpos) pos) (tDrop (tBM0 X.K "list" rReverse (tVar i))) (gMut0 i List.reverse) :=
 ⟨ps_expr (pe_bm0 PySem.F.plainAttrs_list PySem.F.slot_list_reverse PySem.F.type_list_reverse mt_reverse ho hbase hline) hs, by
 intro O H₀ as σ H ds D o S h q
 unfold gMut0 at h
 split at h
 . rename_i l hd
   cases h
   obtain ⟨a, xs, z1, z2, z3, z4⟩ := S.slot i _ hd
   exact ⟨_, z1, .inl ⟨rfl, xs, SqL.of z3⟩, a, xs, rfl, rfl, z3, q as σ _ (S.turn (xs := xs) hd z1 z2 z4.reverse)⟩
 . cases h⟩
end
noncomputable def eqF : PyData -> PyData -> Bool
 | .none, .none => true
 | .bool a, .bool b => a == b
 | .bool a, .int b => (if a then 1 else 0) == b
 | .int a, .bool b => a == (if b then 1 else 0)
 | .int a, .int b => a == b
 | .str a, .str b => a == b
 | _, _ => false
theorem Dt.flatV {K : PySem.W.Frag} {H : Hp} {x : V} {d : PyData} (h : Dt K H x d) (f : Flat d = true) : L2.flatV x = true := by
 cases h with
 | non => rfl
 | bl _ => rfl
 | int _ => rfl
 | str _ => rfl
 | tup _ _ => cases f
 | lst _ _ => cases f
 | exc _ _ _ _ _ => cases f
 | fn _ => cases f
theorem Dt.eqF {K : PySem.W.Frag} {H : Hp} {x y : V} {d e : PyData} (h : Dt K H x d) (k : Dt K H y e) (f : Flat d = true) (g : Flat e = true) : eqV x y = L2.eqF d e := by
 cases h with
 | tup _ _ => cases f
 | lst _ _ => cases f
 | exc _ _ _ _ _ => cases f
 | fn _ => cases f
 | non => cases k with
  | tup _ _ => cases g
  | lst _ _ => cases g
  | exc _ _ _ _ _ => cases g
  | fn _ => cases g
  | _ => rfl
 | bl _ => cases k with
  | tup _ _ => cases g
  | lst _ _ => cases g
  | exc _ _ _ _ _ => cases g
  | fn _ => cases g
  | _ => rfl
 | int _ => cases k with
  | tup _ _ => cases g
  | lst _ _ => cases g
  | exc _ _ _ _ _ => cases g
  | fn _ => cases g
  | _ => rfl
 | str _ => cases k with
  | tup _ _ => cases g
  | lst _ _ => cases g
  | exc _ _ _ _ _ => cases g
  | fn _ => cases g
  | _ => rfl
theorem Dts.inV {K : PySem.W.Frag} {H : Hp} {x : V} {d : PyData} (h : Dt K H x d) (f : Flat d = true) : ∀ {xs : List V} {l : List PyData}, Dts K H xs l -> l.all Flat = true -> xs.all flatV = true /\ L2.inV x xs = l.any (fun y => L2.eqF y d)
 | _, _, .nil, _ => ⟨rfl, rfl⟩
 | _, _, .cons k t, g => by
  rw [List.all_cons, Bool.and_eq_true] at g
  obtain ⟨h1, h2⟩ := Dts.inV h f t g.2
  refine ⟨by rw [List.all_cons, k.flatV g.1, h1]; rfl, ?_⟩
  unfold L2.inV at h2 ⊢
  rw [List.any_cons, List.any_cons, h2, k.eqF h g.1 f]
noncomputable def inD : PyData -> PyData -> Option PV := fun d e => (seqOf e).bind fun l => if Flat d = true /\ l.all Flat = true then some (.dat (.bool (l.any fun y => eqF y d))) else none
noncomputable def notInD : PyData -> PyData -> Option PV := fun d e => (seqOf e).bind fun l => if Flat d = true /\ l.all Flat = true then some (.dat (.bool (!l.any fun y => eqF y d))) else none
theorem in_core {K : PySem.W.Frag} {O : List Addr} {va : As} {H : Hp} {x y : V} {d e : PyData} {l : List PyData} (hx : Dt K (hid H va O) x d) (hy : Dt K (hid H va O) y e) (hl : seqOf e = some l) (hf : Flat d = true /\ l.all Flat = true) :
  ∃ p xs, y = .ref p /\ (SqL K H p xs \/ SqT K H p xs) /\ flatV x = true /\ xs.all flatV = true /\ inV x xs = l.any (fun y => eqF y d) := by
 cases hy with
 | lst hs ht =>
  cases hl
  obtain ⟨h1, h2⟩ := Dts.inV hx hf.1 ht hf.2
  exact ⟨_, _, rfl, .inl (hid_all.seq hs), hx.flatV hf.1, h1, h2⟩
 | tup hs ht =>
  cases hl
  obtain ⟨h1, h2⟩ := Dts.inV hx hf.1 ht hf.2
  exact ⟨_, _, rfl, .inr (hid_all.seqT hs), hx.flatV hf.1, h1, h2⟩
 | _ => cases hl
theorem x_in {K : PySem.W.Frag} : R2X K (rIn K false) inD := by
 intro O va H x y d e pv Q D hx hy hf q
 unfold inD at hf
 cases hl : seqOf e with
 | none => rw [hl] at hf; cases hf
 | some l =>
  rw [hl] at hf
  simp only [Option.bind_some] at hf
  split at hf
  . rename_i hc
    cases hf
    obtain ⟨p, xs, e1, h1, h2, h3, h4⟩ := in_core hx hy hl hc
    refine ⟨p, xs, e1, h1, h2, h3, q _ H (Same.refl H) ?_⟩
    rw [h4]
    exact Dt.bl _
  . cases hf
theorem x_notIn {K : PySem.W.Frag} : R2X K (rIn K true) notInD := by
 intro O va H x y d e pv Q D hx hy hf q
 unfold notInD at hf
 cases hl : seqOf e with
 | none => rw [hl] at hf; cases hf
 | some l =>
  rw [hl] at hf
  simp only [Option.bind_some] at hf
  split at hf
  . rename_i hc
    cases hf
    obtain ⟨p, xs, e1, h1, h2, h3, h4⟩ := in_core hx hy hl hc
    refine ⟨p, xs, e1, h1, h2, h3, q _ H (Same.refl H) ?_⟩
    rw [h4]
    exact Dt.bl _
  . cases hf
end L2
namespace L2
open PySem PySem.Spec PyProof.Rows
noncomputable def fIxO (i : Nat) (F : Ds -> Option PV) : Ds -> Option PV := fun ds => match ds[i]? with
 | some (some pv) => (F ds).bind fun k => ixD pv.d k.d
 | _ => none
noncomputable def fListO (i : Nat) : Ds -> Option PV := fun ds => match ds[i]? with
 | some (some pv) => listD [pv.d]
 | _ => none
noncomputable def intsOf : List PyData -> Option (List Int)
 | [] => some []
 | .int i :: r => (intsOf r).bind fun l => some (i :: l)
 | _ => none
noncomputable def sumD : List PyData -> Option PV
 | [.list l] => (intsOf l).bind fun is => some (.dat (.int is.sum))
 | _ => none
noncomputable def enumFrom : Int -> List PyData -> List PyData
 | _, [] => []
 | k, d :: r => .tuple [.int k, d] :: enumFrom (k + 1) r
noncomputable def enumD : List PyData -> Option (List PyData)
 | [d] => (seqOf d).bind fun l => some (enumFrom 0 l)
 | _ => none
theorem chain_if (a b : Prop) [Decidable a] [Decidable b] : (if a then some (PV.dat (.bool (decide b))) else some (PV.dat (.bool false))) = some (PV.dat (.bool (decide (a /\ b)))) := by
 by_cases h : a
 . rw [if_pos h]; simp [h]
 . rw [if_neg h]; simp [h]
theorem intD_int (i : Int) : intD [.int i] = some (.dat (.int i)) := rfl
theorem intD_bool (b : Bool) : intD [.bool b] = some (.dat (.int (if b = true then 1 else 0))) := rfl
theorem sumD_list (l : List PyData) : sumD [.list l] = (intsOf l).bind fun is => some (.dat (.int is.sum)) := rfl
theorem enumD_seq (d : PyData) : enumD [d] = (seqOf d).bind fun l => some (enumFrom 0 l) := rfl
theorem forD_nil (gt : PyData -> Ds -> Option Ds) (G : Ds -> Option Out) (ds : Ds) : forD gt G [] ds = some (.next ds) := rfl
theorem forD_next {gt : PyData -> Ds -> Option Ds} {G : Ds -> Option Out} {d : PyData} {r : List PyData} {ds ds1 ds2 : Ds} (h1 : gt d ds = some ds1) (h2 : G ds1 = some (.next ds2)) : forD gt G (d :: r) ds = forD gt G r ds2 := by
 rw [forD, h1]
 simp only [Option.bind_some]
 rw [h2]
 rfl
theorem comp_map {α : Type} {g f : α -> PyData} {Fe : Ds -> Option PV} {ds : Ds} : ∀ {l : List α}, (∀ x ∈ l, ∃ pv, Fe (some (.dat (g x)) :: ds) = some pv /\ pv.d = f x) -> compD gtName bTrue Fe ds (l.map g) = some (l.map f)
 | [], _ => rfl
 | x :: r, h => by
  obtain ⟨pv, h2, h3⟩ := h x List.mem_cons_self
  rw [List.map_cons]
  unfold compD
  simp only [gtName, Option.bind_some, bTrue, if_true, dats_cons, dats_nil, List.cons_append, List.nil_append]
  rw [h2]
  simp only [Option.bind_some]
  rw [comp_map (fun y hy => h y (List.mem_cons_of_mem _ hy))]
  simp [h3]
section
variable {X : Cx} {fr : Bool} {b o : Expr} {tb : TE} {Fb : Ds -> Option PV} {pos p : Pos}
theorem px_ixO (i : Nat) (ho : PE X o (tVar i)) (hb : PX X fr b tb Fb) (hs : PlainIx b := by intro _ _; rfl) : PX X fr (.Subscript o b pos) (tOp (rIx X.K) (tVar i) tb) (fIxO i Fb) := ⟨pe_ix ix_seq ho hb.p hs, by
 intro O H₀ as σ H ds pv Q S hf q
 unfold fIxO at hf
 split at hf
 . rename_i w hd
   cases h1 : Fb ds with
   | none => rw [h1] at hf; cases hf
   | some k =>
    rw [h1] at hf
    simp only [Option.bind_some] at hf
    have sl := S.slot i _ hd
    cases w with
    | dat d =>
     obtain ⟨v, e1, hv⟩ := sl
     refine ⟨v, e1, hb.t O H₀ as σ H ds k _ S h1 fun y H1 s1 r1 => ?_⟩
     exact x_ix O (vis fr as) H1 v y d k.d pv Q (S.grow s1).dm (hv.same (hid_vis.trans (hid_same s1))) (r1.dt S.dm) hf fun u H2 e2 r2 => q u H2 (s1.trans e2) (r2.back s1)
    | own l =>
     obtain ⟨a, xs, e1, e2, e3, hv⟩ := sl
     refine ⟨_, e1, hb.t O H₀ as σ H ds k _ S h1 fun y H1 s1 r1 => ?_⟩
     have dy := r1.dt S.dm
     generalize k.d = kk at hf dy
     cases dy with
     | int j =>
      have hf' : ((L2.atI l j).bind fun d => some (PV.dat d)) = some pv := hf
      cases h2 : L2.atI l j with
      | none => rw [h2] at hf'; cases hf'
      | some d =>
       rw [h2] at hf'
       cases hf'
       obtain ⟨v, h3, h4⟩ := hv.atI h2
       exact .inl ⟨a, xs, j, v, rfl, rfl, SqL.of (s1 _ _ e3), h3, q v H1 s1 (Dt.same (hid_vis.trans (hid_same s1)) h4)⟩
     | _ => cases hf
 . cases hf⟩
theorem px_listO {x : Str} (i : Nat) (ho : PE X o (tVar i)) (hg : Gl X x) (hm : X.mg x = none) (hv : bootBuiltins x = some (.type "list")) (hn : x ≠ "__name__" := by decide) (hdb : (x == ("__debug__" : Str)) = false := by decide)
  (he : starEach [o] X.env = (false, eval o X.env) :: starEach [] X.env := by rfl) (hpl : (backTo pos (starEach [] X.env)).any (·.1) = false := by rfl) : PX X fr (.Call (.Name x p) [o] [] pos) (tCB (rListC X.K) (tCons (tVar i) tNil)) (fListO i) :=
 ⟨pe_callTy call_list_of hg hm hv (pa_cons ho pa_nil he) hn hdb he hpl, by
 intro O H₀ as σ H ds pv Q S hf q
 unfold fListO at hf
 split at hf
 . rename_i w hd
   have sl := S.slot i _ hd
   cases w with
   | dat d =>
    obtain ⟨v, e1, h⟩ := sl
    refine ⟨v, e1, ?_⟩
    exact x_list O (vis fr as) H [v] [d] pv Q S.dm (.cons (h.same hid_vis) .nil) hf fun u H2 e2 r2 => q u H2 e2 r2
   | own l =>
    obtain ⟨a, xs, e1, e2, e3, h⟩ := sl
    have hf' : some (PV.own l) = some pv := hf
    cases hf'
    refine ⟨_, e1, a, xs, rfl, .inl (SqL.of e3), fun z hz => q _ _ (Same.new hz) (rx_lst hz (h.same hid_vis))⟩
 . cases hf⟩
theorem px_const {x : Str} {u : Value} {v : V} {d : PyData} (hg : Gl X x) (h : X.mg x = some u /\ RelV v u /\ ∀ H, Dt X.K H v d) (hd : (x == ("__debug__" : Str)) = false := by decide) : PX X fr (.Name x pos) (tC v) (fC d) :=
 px_c (pe_glob hg h.1 h.2.1 hd) h.2.2
end
theorem const_tup {K : PySem.W.Frag} {mg : Str -> Option Value} {x : Str} {a : Addr} {dd : Option Addr} {its : Array Value} {n : Nat} {sl : Array (Option Value)} {vs : List V} {ds : List PyData} (hm : mg x = some (.ref a)) (hk : K.lookup a = some ⟨.type "tuple", dd, .seq its n, sl⟩) (hz : its.size <= 1000) (r : Vals vs its.toList) (hd : ∀ H, Dts K H vs ds) :
  mg x = some (.ref a) /\ RelV (.ref a) (.ref a) /\ ∀ H, Dt K H (.ref a) (.tuple ds) := ⟨hm, rfl, fun H => .tup (.inr ⟨_, its, n, hk, rfl, rfl, Nat.le_trans hz (by rw [sizeLine_eq]; decide), r⟩) (hd H)⟩
theorem const_flat {K : PySem.W.Frag} {mg : Str -> Option Value} {x : Str} {u : Value} {v : V} {d : PyData} (hm : mg x = some u) (r : RelV v u) (hd : ∀ H, Dt K H v d) : mg x = some u /\ RelV v u /\ ∀ H, Dt K H v d := ⟨hm, r, hd⟩
section
variable {X : Cx} {bs nb : List Str} {elt tg iter : Expr} {ifs : List Expr} {scope : Scope} {cpos pos pos' : Pos} {wi : TI} {g : TG} {tt : TT} {te : TE} {Fi : Ds -> Option (List PyData)} {gt : PyData -> Option (List PyData)} {Fc : Ds -> Option Bool} {Fe : Ds -> Option PV} {i : Nat} {x : Str}
theorem psx_setCD (hN : X.N.Nodup) (hi' : X.N[i]? = some x) (hx : Loc X.env.scope x) (hc : X.calm = true) (B : BlkOk X bs nb scope) (hi : PIX X true tg iter wi Fi) (go : GOwn bs.length g) (hg : ∀ cl C fp s H pins, PG (blk X bs nb scope cl C fp s H pins) tg g) (hgt : TGB X.K bs.length g gt) (ht : ∀ cl C fp s H pins, PIfsX (blk X bs nb scope cl C fp s H pins) ifs tt Fc) (he : ∀ cl C fp s H pins, PX (blk X bs nb scope cl C fp s H pins) true elt te Fe)
  (hsw : swapsWith (.ListComp elt [⟨tg, iter, ifs, 0⟩] scope cpos) (some (.Name x pos')) pos.line X.env = pure true := by rfl) (hf : X.fn x = true \/ X.env.scope.names.lookup x = some .local := by first | exact .inl rfl | exact .inr rfl | assumption)
  (hs : ∀ x, foldedSetIterable iter X.env x = pure x := by intro _; rfl) : PSX X (.Assign [.Name x pos'] (.ListComp elt [⟨tg, iter, ifs, 0⟩] scope cpos) pos) (tAsg (tComp bs wi g tt te) (gName i)) (gSetD i (fComp Fi gt Fc Fe)) :=
 ⟨ps_setC hN hi' hx hc B hi.p go hg (fun _ _ _ _ _ _ => (ht _ _ _ _ _ _).p) (fun _ _ _ _ _ _ => (he _ _ _ _ _ _).p) hsw hf hs, by
 have hF := (px_comp (pos := cpos) hc B hi go hg hgt ht he hs).t
 intro O H₀ as σ H ds D o S h q
 unfold gSetD at h
 cases e1 : fComp Fi gt Fc Fe ds with
 | none => rw [e1] at h; cases h
 | some pv =>
  rw [e1] at h
  cases h
  refine hF O H₀ as σ H ds pv _ S e1 fun v H1 s1 r1 => ?_
  exact q _ _ _ ((S.grow s1).set i (r1.dt S.dm))⟩
end
end L2
namespace L2
open PySem PySem.Spec PyProof.Rows
mutual
noncomputable def LF : PyData -> Bool
 | .none => true
 | .bool _ => true
 | .int _ => true
 | .str _ => true
 | .tuple l => LFs l
 | _ => false
noncomputable def LFs : List PyData -> Bool
 | [] => true
 | d :: r => LF d && LFs r
end
theorem seqT_lf {K : PySem.W.Frag} {H H' : Hp} {a : Addr} {xs : List V} (e : ∀ b o, H b = some o -> (∀ xs, o ≠ .lst xs) -> H' b = some o) (h : SqT K H a xs) : SqT K H' a xs := by
 rcases h with (h | ⟨o, h⟩) | h
 . exact .inl (.inl (e _ _ h (fun _ z => by cases z)))
 . exact .inl (.inr ⟨o, e _ _ h (fun _ z => by cases z)⟩)
 . exact .inr h
mutual
theorem Dt.lf {K : PySem.W.Frag} {H H' : Hp} (e : ∀ b o, H b = some o -> (∀ xs, o ≠ .lst xs) -> H' b = some o) {x : V} {d : PyData} (h : Dt K H x d) (f : LF d = true) : Dt K H' x d := by
 cases h with
 | non => exact .non
 | bl b => exact .bl b
 | int i => exact .int i
 | str y => exact .str y
 | tup hs ht => exact .tup (seqT_lf e hs) (Dts.lf e ht (by rw [LF] at f; exact f))
 | lst hs ht => simp [LF] at f
 | exc _ _ _ _ _ => simp [LF, excD] at f
 | fn _ => simp [LF, fnD] at f
theorem Dts.lf {K : PySem.W.Frag} {H H' : Hp} (e : ∀ b o, H b = some o -> (∀ xs, o ≠ .lst xs) -> H' b = some o) {xs : List V} {ds : List PyData} (h : Dts K H xs ds) (f : LFs ds = true) : Dts K H' xs ds := by
 cases h with
 | nil => exact .nil
 | cons a t =>
  rw [LFs, Bool.and_eq_true] at f
  exact .cons (Dt.lf e a f.1) (Dts.lf e t f.2)
end
noncomputable def fMeth (f : PyData -> List PyData -> Option PV) (Fo : Ds -> Option PV) (Fl : Ds -> Option (List PyData)) : Ds -> Option PV := fun ds => (Fo ds).bind fun o => (Fl ds).bind fun l => f o.d l
theorem isNone_tup (l : List PyData) : isNoneD (.tuple l) = false := rfl
theorem isNone_lst (l : List PyData) : isNoneD (.list l) = false := rfl
theorem isNone_int (i : Int) : isNoneD (.int i) = false := rfl
theorem isNone_non : isNoneD .none = true := rfl
end L2
namespace L2
open PySem PySem.Spec PyProof.Rows
section
variable {X : Cx} {pins : List (Addr × Obj)} {σ : St} {H : Hp} {s : Shared}
end
end L2
namespace L2
open PySem PySem.Spec PyProof.Rows
section
variable {X : Cx} {pins : List (Addr × Obj)} {σ : St} {H : Hp} {s : Shared} {h' : Heap}
theorem ObjOk.get {P : Program} {w : World} {H : Hp} {h : Heap} {a : Addr} {o : HO} (x : ObjOk P w H h a o) : ∃ ob, h.get? a = some ob := by
 induction o with
 | lst xs => obtain ⟨_, _, _, _, e⟩ := x; exact ⟨_, e⟩
 | tup xs => obtain ⟨_, _, _, o, e, _⟩ := x; exact ⟨_, e⟩
 | dK kvs => obtain ⟨_, _, _, _, o, _, _, e, _⟩ := x; exact ⟨_, e⟩
 | dT kvs => obtain ⟨_, _, _, _, o, _, _, e, _⟩ := x; exact ⟨_, e⟩
 | set S n => obtain ⟨o, _, _, _, e, _⟩ := x; exact ⟨_, e⟩
 | ins C dx fs => obtain ⟨_, _, _, e, _⟩ := x; exact ⟨_, e⟩
 | own y => exact x
 | xd fs => obtain ⟨_, ⟨o, _, _, e, _⟩, _⟩ := x; exact ⟨_, e⟩
 | met f y => exact ⟨_, x⟩
 | rng lo hi => obtain ⟨_, _, _, e⟩ := x; exact ⟨_, e⟩
 | frz o u ih => exact ⟨_, x.1⟩
 | tbl ps => exact ⟨_, x⟩
 | ext φ => exact x.2.1
end
end L2
namespace L2
open PySem PySem.Spec PyProof.Rows
section
variable {prog : Program} {w : World} {A : Around} {E : Value -> Shared -> Prop} {s : Shared}
end
end L2
namespace L2
open PySem PySem.Spec PyProof.Rows
noncomputable def EndsI (X : Cx) (O : List Addr) (H₀ : Hp) (i : Nat) (a : Addr) (D : Ends) : Out -> Prop
 | .next ds => ∀ as σ H, DS X.K O H₀ as σ H ds -> σ[i]? = some (some (.ref a)) -> D.nx σ H
 | .brk ds => ∀ as σ H, DS X.K O H₀ as σ H ds -> σ[i]? = some (some (.ref a)) -> D.bk σ H
 | .cont ds => ∀ as σ H, DS X.K O H₀ as σ H ds -> σ[i]? = some (some (.ref a)) -> D.ct σ H
 | .ret _ => False
 | .up _ => False
noncomputable def TSI (X : Cx) (i : Nat) (t : TS) (G : Ds -> Option Out) : Prop :=
 ∀ (a : Addr) (O : List Addr) (H₀ : Hp) (as : As) (σ : St) (H : Hp) (ds : Ds) (D : Ends) (o : Out), DS X.K O H₀ as σ H ds -> σ[i]? = some (some (.ref a)) -> G ds = some o -> EndsI X O H₀ i a D o -> t D σ H
structure PSI (X : Cx) (i : Nat) (st : Stmt) (t : TS) (G : Ds -> Option Out) : Prop where
 p : PS X st t
 t : TSI X i t G
structure PSsI (X : Cx) (i : Nat) (st : List Stmt) (t : TS) (G : Ds -> Option Out) : Prop where
 p : PSs X st t
 t : TSI X i t G
section
variable {X : Cx} {i : Nat} {st : Stmt} {rest sa sb : List Stmt} {t u : TS} {G G1 G2 : Ds -> Option Out} {fr : Bool} {e c : Expr} {te : TE} {tt : TT} {F : Ds -> Option PV} {Ft : Ds -> Option Bool} {pos : Pos}
end
section
variable {X : Cx} {i : Nat} {e o : Expr} {te : TE} {F : Ds -> Option PV} {pos cpos apos : Pos}
end
section
variable {X : Cx} {i j : Nat} {tg iter : Expr} {body : List Stmt} {wi : TI} {tb : TS} {pos : Pos} {Fi : Ds -> Option (List PyData)} {G : Ds -> Option Out}
end
noncomputable abbrev IOF := Ds -> Option (PyData × List PyData)
noncomputable def TIO (X : Cx) (i : Nat) (t : TS) (G : IOF) : Prop :=
 ∀ (a : Addr) (O : List Addr) (H₀ : Hp) (as : As) (σ : St) (H : Hp) (ds : Ds) (D : Ends) (d : PyData) (l : List PyData), DS X.K O H₀ as σ H ds -> σ[i]? = some (some (.ref a)) -> G ds = some (d, l) ->
  (∀ v H' xs, Same H₀ H' -> H' a = some (.lst xs) -> Dts X.K (hid H' [some a] O) xs l -> Dt X.K (hid H' [some a] O) v d -> D.rt v H') -> t D σ H
structure PIO (X : Cx) (i : Nat) (st : List Stmt) (t : TS) (G : IOF) : Prop where
 p : PSs X st t
 t : TIO X i t G
section
variable {X : Cx} {i : Nat} {st : Stmt} {rest : List Stmt} {t u : TS} {G1 : Ds -> Option Out} {G : IOF} {e : Expr} {te : TE} {F : Ds -> Option PV} {pos : Pos}
end
section
variable {P : Program} {w : World} {K : PySem.W.Frag} {mg : Str -> Option Value} {base : Heap}
theorem DS.startIO {O : List Addr} {H : Hp} {vs xs : List V} {ds l : List PyData} {N : List Str} {i : Nat} {a : Addr} (hO : ∀ b ∈ O, ∃ u, H b = some u) (ha : a ∉ O) (hv : vs[i]? = some (.ref a)) (hH : H a = some (.lst xs)) (h : Dts K (hid H [some a] O) (vs.set i .non) (ds.set i .none)) (hx : Dts K (hid H [some a] O) xs l) :
  ∃ as, DS K O (hid H [some a] []) as (L2.start N vs) H ((dats (ds.set i .none) ++ List.replicate (N.length - ds.length) none).set i (some (.own l))) := by
 have hl : vs.length = ds.length := by have := h.length; simpa using this
 have hi : i < vs.length := (List.getElem?_eq_some_iff.mp hv).1
 have hh : hid (hid H [some a] []) [] O = hid H [some a] O := by
  funext b
  unfold hid
  by_cases c1 : b ∈ O
  . rw [if_pos (.inl c1), if_pos (.inl c1)]
  . rw [if_neg (by simp [c1])]
    by_cases c2 : some b ∈ [some a]
    . rw [if_pos (.inr c2), if_pos (.inr c2)]
    . rw [if_neg (by simp only [List.not_mem_nil, false_or]; exact c2), if_neg (fun z => z.elim c1 c2)]
 have h0 : Same (hid H [some a] []) H := hid_all
 have S0 := DS.start (K := K) (O := O) (H := hid H [some a] []) (N := N) (vs := vs.set i .non) (l := ds.set i .none) (fun b hb => by
  obtain ⟨u, z⟩ := hO b hb
  refine ⟨u, hid_some.mpr ⟨by simp, fun q => ?_, z⟩⟩
  have q' : b = a := by simpa using q
  rw [q'] at hb
  exact ha hb) (by rw [hh]; exact h)
 have S1 := S0.grow h0
 rw [List.length_set] at S0 S1
 have na : some a ∉ (List.replicate (dats (ds.set i .none) ++ List.replicate (N.length - ds.length) none).length none : As) := rep_mem
 have S2 := S1.setO (l := l) i (a := a) (xs := xs) (by unfold hid; rw [if_pos (.inr (by simp))]) na hH (fun j pv hj hji => ?_) ?_
 . have e : (L2.start N (vs.set i .non)).set i (some (.ref a)) = L2.start N vs := by
     unfold L2.start
     rw [List.length_set, List.set_append_left _ _ (by simpa using hi)]
     congr 1
     rw [List.map_set, List.set_set]
     refine List.ext_getElem? fun n => ?_
     by_cases c : i = n
     . subst c
       rw [List.getElem?_set_self (by simpa using hi), List.getElem?_map, hv]
       rfl
     . rw [List.getElem?_set_ne c]
   rw [e] at S2
   exact ⟨_, S2⟩
 . have sl := S0.slot j pv hj
   have sm : Same (hid (hid H [some a] []) (List.replicate (dats (ds.set i .none) ++ List.replicate (N.length - ds.length) none).length none) O) (hid H (some a :: List.replicate (dats (ds.set i .none) ++ List.replicate (N.length - ds.length) none).length none) O) := hid_le fun b o z1 z2 z3 => by
    obtain ⟨y1, y2, y3⟩ := hid_some.mp z3
    refine ⟨z1, fun z => ?_, y3⟩
    rcases List.mem_cons.mp z with z | z
    . exact y2 (by rw [z]; simp)
    . exact z2 z
   cases pv with
   | dat d => obtain ⟨v, z1, z⟩ := sl; exact ⟨v, z1, z.same sm⟩
   | own l' => obtain ⟨a', xs', z1, z2, z3, z⟩ := sl; exact ⟨a', xs', z1, z2, h0 _ _ z3, z.same sm⟩
 . refine hx.same (hid_le fun b o z1 z2 z3 => ⟨z1, fun z => ?_, z3⟩)
   rcases List.mem_cons.mp z with z | z
   . exact z2 (by rw [z]; simp)
   . exact rep_mem z
end
noncomputable def TAO (K : PySem.W.Frag) (i p : Nat) (t : TA) (Fl : Ds -> Option (List PyData)) : Prop :=
 ∀ (O : List Addr) (H₀ : Hp) (as : As) (σ : St) (H : Hp) (ds : Ds) (l : List PyData) (l0 : List PyData) (a : Addr) (Q : List V -> Hp -> Prop), DS K O H₀ as σ H ds -> Fl ds = some l -> ds[p]? = some (some (.own l0)) -> σ[p]? = some (some (.ref a)) ->
  (∀ vs H', Same H H' -> vs[i]? = some (.ref a) -> l[i]? = some (.list l0) -> Dts K (hid H' as O) (vs.set i .non) (l.set i .none) -> Q vs H') -> t σ H Q
structure PAO (X : Cx) (i m : Nat) (es : List Expr) (t : TA) (Fl : Ds -> Option (List PyData)) : Prop where
 p : PA X es t
 t : TAO X.K i m t Fl
section
variable {X : Cx} {i p : Nat} {e : Expr} {es : List Expr} {te : TE} {t : TA} {F : Ds -> Option PV} {Fl : Ds -> Option (List PyData)} {pos : Pos}
theorem pao_here (p : Nat) (h : PE X e (tVar p)) (ha : PAX X true es t Fl) (hs : starEach (e :: es) X.env = (false, eval e X.env) :: starEach es X.env := by rfl) : PAO X 0 p (e :: es) (tCons (tVar p) t) (aCons (fVarB p) Fl) := ⟨pa_cons h ha.p hs, by
 intro O H₀ as σ H ds l l0 a Q S hf hd hk q
 unfold aCons fVarB at hf
 rw [hd] at hf
 simp only [Option.bind_some] at hf
 cases e1 : Fl ds with
 | none => rw [e1] at hf; cases hf
 | some l1 =>
  rw [e1] at hf
  cases hf
  refine ⟨_, hk, ?_⟩
  refine ha.t O H₀ as σ H ds l1 _ S e1 fun vs H1 s1 r1 => q _ H1 s1 rfl rfl ?_
  exact .cons .non r1⟩
theorem DS.io {K : PySem.W.Frag} {O : List Addr} {H₀ H H' : Hp} {as : As} {σ : St} {ds : Ds} {l l' : List PyData} {xs : List V} {p : Nat} {a : Addr} (S : DS K O H₀ as σ H ds) (hd : ds[p]? = some (some (.own l))) (e1 : σ[p]? = some (some (.ref a))) (e2 : as[p]? = some (some a)) (sm : Same (hid H [some a] []) H') (h1 : H' a = some (.lst xs)) (hv : Dts K (hid H' as O) xs l') :
  DS K O H₀ as σ H' (ds.set p (some (.own l'))) := by
 have ha := List.mem_of_getElem? e2
 have sn : ∀ b o, b ≠ a -> H b = some o -> H' b = some o := fun b o c z => sm b o (hid_some.mpr ⟨by simp, by simpa using c, z⟩)
 have sq : Same (hid H as O) (hid H' as O) := hid_le fun b o z1 z2 z3 => ⟨z1, z2, sn b o (fun c => z2 (by rw [c]; exact ha)) z3⟩
 have hl : p < ds.length := (List.getElem?_eq_some_iff.mp hd).1
 refine ⟨by simp [S.ls], by simp [S.la], fun b o z => ?_, fun b hb => ⟨(S.new b hb).1, ?_⟩, S.dom, S.inj, fun j pv hj => ?_⟩
 . refine sn b o (fun c => ?_) (S.same _ _ z)
   rw [c, (S.new a ha).1] at z; cases z
 . by_cases z : b = a
   . exact ⟨_, by rw [z]; exact h1⟩
   . obtain ⟨_, o, h⟩ := S.new b hb
     exact ⟨o, sn b _ z h⟩
 . by_cases hij : p = j
   . subst hij
     rw [List.getElem?_set_self hl] at hj
     cases hj
     exact ⟨a, xs, e1, e2, h1, hv⟩
   . rw [List.getElem?_set_ne hij] at hj
     have sl := S.slot j pv hj
     cases pv with
     | dat d => obtain ⟨v, z1, z⟩ := sl; exact ⟨v, z1, z.same sq⟩
     | own l' =>
      obtain ⟨a', xs', z1, z2, z3, z⟩ := sl
      refine ⟨a', xs', z1, z2, sn a' _ (fun c => ?_) z3, z.same sq⟩
      subst c
      exact hij (S.inj p j a' e2 z2)
end
end L2
namespace L2
open PySem PySem.Spec PyProof.Rows
structure Kp (i : Nat × Nat) (a : Addr × Addr) (σ : St) : Prop where
 one : σ[i.1]? = some (some (.ref a.1))
 two : σ[i.2]? = some (some (.ref a.2))
theorem Kp.set {i : Nat × Nat} {a : Addr × Addr} {σ : St} {j : Nat} {v : Option V} (k : Kp i a σ) (h : j ≠ i.1 /\ j ≠ i.2) : Kp i a (σ.set j v) :=
 ⟨by rw [List.getElem?_set_ne h.1]; exact k.one, by rw [List.getElem?_set_ne h.2]; exact k.two⟩
noncomputable def EndsJ (X : Cx) (O : List Addr) (H₀ : Hp) (i : Nat × Nat) (a : Addr × Addr) (D : Ends) : Out -> Prop
 | .next ds => ∀ as σ H, DS X.K O H₀ as σ H ds -> Kp i a σ -> D.nx σ H
 | .brk ds => ∀ as σ H, DS X.K O H₀ as σ H ds -> Kp i a σ -> D.bk σ H
 | .cont ds => ∀ as σ H, DS X.K O H₀ as σ H ds -> Kp i a σ -> D.ct σ H
 | .ret _ => False
 | .up _ => False
noncomputable def TSJ (X : Cx) (i : Nat × Nat) (t : TS) (G : Ds -> Option Out) : Prop :=
 ∀ (a : Addr × Addr) (O : List Addr) (H₀ : Hp) (as : As) (σ : St) (H : Hp) (ds : Ds) (D : Ends) (o : Out), DS X.K O H₀ as σ H ds -> Kp i a σ -> G ds = some o -> EndsJ X O H₀ i a D o -> t D σ H
structure PSJ (X : Cx) (i : Nat × Nat) (st : Stmt) (t : TS) (G : Ds -> Option Out) : Prop where
 p : PS X st t
 t : TSJ X i t G
structure PSsJ (X : Cx) (i : Nat × Nat) (st : List Stmt) (t : TS) (G : Ds -> Option Out) : Prop where
 p : PSs X st t
 t : TSJ X i t G
theorem EndsJ.unbase {X : Cx} {O : List Addr} {H₀ Hb : Hp} {i : Nat × Nat} {a : Addr × Addr} {D : Ends} {o : Out} (h : EndsJ X O H₀ i a D o) (e : Same H₀ Hb) (hd : ∀ a ∈ O, ∃ u, H₀ a = some u) : EndsJ X O Hb i a D o := by
 cases o with
 | next ds => exact fun as σ H S k => h as σ H (S.unbase e hd) k
 | brk ds => exact fun as σ H S k => h as σ H (S.unbase e hd) k
 | cont ds => exact fun as σ H S k => h as σ H (S.unbase e hd) k
 | ret pv => exact h
 | up x => exact h
section
variable {X : Cx} {i : Nat × Nat} {st : Stmt} {rest sa sb : List Stmt} {t u : TS} {G G1 G2 : Ds -> Option Out} {fr : Bool} {e c : Expr} {te : TE} {tt : TT} {F : Ds -> Option PV} {Ft : Ds -> Option Bool} {pos : Pos}
theorem pssj_nil : PSsJ X i [] tNext gNext := ⟨pss_nil, by
 intro a O H₀ as σ H ds D o S k hf q
 cases hf
 exact q as σ H S k⟩
theorem pssj_one (h : PSJ X i st t G) : PSsJ X i [st] t G := ⟨pss_one h.p, h.t⟩
theorem pssj_cons (h1 : PSJ X i st t G1) (h2 : PSsJ X i rest u G2) : PSsJ X i (st :: rest) (tSeq t u) (gSeq G1 G2) := ⟨pss_cons h1.p h2.p, by
 intro a O H₀ as σ H ds D o S k hf q
 unfold gSeq at hf
 cases e1 : G1 ds with
 | none => rw [e1] at hf; cases hf
 | some o1 =>
  rw [e1] at hf
  simp only [Option.bind_some] at hf
  refine h1.t a O H₀ as σ H ds { D with nx := u D } o1 S k e1 ?_
  cases o1 with
  | next ds1 => exact fun as' σ' H' S' k' => h2.t a O H₀ as' σ' H' ds1 D o S' k' hf q
  | ret pv => cases hf; exact q
  | brk ds1 => cases hf; exact q
  | cont ds1 => cases hf; exact q
  | up x => cases hf; exact q⟩
theorem psj_setD {j : Nat} {x : Str} {pos' : Pos} (hN : X.N.Nodup) (hi : X.N[j]? = some x) (hx : Loc X.env.scope x) (he : PX X true e te F) (hij : j ≠ i.1 /\ j ≠ i.2 := by decide) (hs : swapsWith e (some (.Name x pos')) pos.line X.env = pure false := by rfl) (hf : X.fn x = true \/ X.env.scope.names.lookup x = some .local := by first | exact .inl rfl | exact .inr rfl | assumption) :
  PSJ X i (.Assign [.Name x pos'] e pos) (tAsg te (gName j)) (gSetD j F) := ⟨ps_set hN hi hx he.p hs hf, by
 intro a O H₀ as σ H ds D o S k h q
 unfold gSetD at h
 cases e1 : F ds with
 | none => rw [e1] at h; cases h
 | some pv =>
  rw [e1] at h
  cases h
  refine he.t O H₀ as σ H ds pv _ S e1 fun v H1 s1 r1 => ?_
  exact q _ _ _ ((S.grow s1).set j (r1.dt S.dm)) (k.set hij)⟩
theorem psj_if (hc : PTX X c tt Ft) (ha : PSsJ X i sa t G1) (hb : PSsJ X i sb u G2) : PSJ X i (.If c sa sb pos) (tIfS tt t u) (gIf Ft G1 G2) := ⟨ps_if hc.p ha.p hb.p, by
 intro a O H₀ as σ H ds D o S k h q
 unfold gIf at h
 cases e1 : Ft ds with
 | none => rw [e1] at h; cases h
 | some b =>
  rw [e1] at h
  simp only [Option.bind_some] at h
  refine hc.t O H₀ as σ H ds b _ S e1 fun H1 s1 => ?_
  cases b with
  | true => exact ha.t a O H₀ as σ H1 ds D o (S.grow s1) k h q
  | false => exact hb.t a O H₀ as σ H1 ds D o (S.grow s1) k h q⟩
end
section
variable {X : Cx} {i : Nat × Nat} {e o : Expr} {te : TE} {F : Ds -> Option PV} {pos cpos apos : Pos}
theorem psj_app (j : Nat) (ho : PE X o (tVar j)) (he : PX X true e te F) (hst : starEach [e] X.env = (false, eval e X.env) :: starEach [] X.env := by rfl)
  (hbase : attributeBase o "append" X.env (eval o X.env) = eval o X.env := by rfl)
  (hfew : ((backTo cpos (starEach [e] X.env)).all (fun x => !x.1) && (backToKw cpos (keywordEach [] X.env)).all (fun x => x.1.isSome)
   && decide ([e].length + ([] : List Keyword).length + (if ([] : List Keyword).isEmpty then 0 else 1) < 30)) = true := by rfl)
  (hline : (apos.endLine == cpos.line) = true := by rfl) (hplain : (backTo cpos (starEach [] X.env)).any (·.1) = false := by rfl)
  (hs : swapsWith (.Call (.Attribute o "append" apos) [e] [] cpos) none pos.line X.env = pure false := by rfl) :
  PSJ X i (.Expr (.Call (.Attribute o "append" apos) [e] [] cpos) pos) (tDrop (tBM X.K "list" rAppend (tVar j) (tCons te tNil))) (gApp j F) :=
 ⟨(psx_app j ho he hst hbase hfew hline hplain hs).p, by
 intro a O H₀ as σ H ds D o S k h q
 unfold gApp at h
 cases e1 : F ds with
 | none => rw [e1] at h; cases h
 | some pv =>
  rw [e1] at h
  simp only [Option.bind_some] at h
  split at h
  . rename_i l hd
    split at h
    . rename_i hl
      cases h
      obtain ⟨a', xs, z1, z2, z3, z4⟩ := S.slot j _ hd
      refine ⟨_, z1, .inl ⟨rfl, xs, SqL.of z3⟩, ?_⟩
      refine he.t O H₀ as σ H ds pv _ S e1 fun v H1 s1 r1 => ?_
      have hx := z4.length
      refine ⟨a', xs, v, rfl, rfl, s1 _ _ z3, Nat.lt_of_lt_of_le (by omega) (szM (Nat.le_refl _)), q as σ _ ?_ k⟩
      exact (S.grow s1).turn (xs := xs) hd z1 z2 ((z4.same (hid_same s1)).append (.cons (r1.dt S.dm) .nil))
    . cases h
  . cases h⟩
end
section
variable {X : Cx} {i : Nat × Nat} {j : Nat} {tg iter : Expr} {body : List Stmt} {wi : TI} {tb : TS} {pos : Pos} {Fi : Ds -> Option (List PyData)} {G : Ds -> Option Out}
theorem psj_for (hp : PassesOwn (model X.prog X.w) X.A X.env X.xe) (hc : X.calm = true) (hi : PIX X true tg iter wi Fi) (hg : PG X tg (gName j)) (hb : PSsJ X i body tb G) (hij : j ≠ i.1 /\ j ≠ i.2 := by decide)
  (hs : ∀ x, foldedSetIterable iter X.env x = pure x := by intro _; rfl) : PSJ X i (.For tg iter body [] pos) (tFor wi (gName j) tb) (gFor Fi (sName j) G) := ⟨ps_for hp hc hi.p hg hb.p hs, by
 intro a O H₀ as σ H ds D o S k h q
 unfold gFor at h
 cases e1 : Fi ds with
 | none => rw [e1] at h; cases h
 | some items =>
  rw [e1] at h
  simp only [Option.bind_some] at h
  refine hi.t O H₀ as σ H ds items _ S e1 fun J H1 s1 it => ?_
  have S1 := S.grow s1
  have it' : ItOk X.K O (hid H1 as []) J items := it
  have Sb := S1.rebase
  have eb := S1.toBase
  have qb := q.unbase (Hb := hid H1 as []) eb S.dom
  refine ⟨fun n m σ' H' => n <= items.length /\ m = items.length - n /\ ∃ as' ds', DS X.K O (hid H1 as []) as' σ' H' ds' /\ Kp i a σ' /\ forD (sName j) G (items.drop n) ds' = some o, ⟨_, Nat.zero_le _, rfl, as, ds, Sb, k, h⟩, ?_⟩
  rintro n m σ2 H2 ⟨hi', em, as2, ds2, S2, k2, f2⟩
  obtain ⟨go', st', yl'⟩ := it' H2 S2.same n
  by_cases hlt : n < items.length
  . have ed' : items.drop n = items[n] :: items.drop (n + 1) := List.drop_eq_getElem_cons hlt
    rw [ed'] at f2
    unfold forD at f2
    have e3 : sName j items[n] ds2 = some (ds2.set j (some (.dat items[n]))) := rfl
    rw [e3] at f2
    simp only [Option.bind_some] at f2
    cases e4 : G (ds2.set j (some (.dat items[n]))) with
    | none => rw [e4] at f2; cases f2
    | some o4 =>
     rw [e4] at f2
     simp only [Option.bind_some] at f2
     refine .inr ⟨go' hlt, fun σ' H' => ∃ as' ds', DS X.K O (hid H1 as []) as' σ' H' ds' /\ Kp i a σ' /\ forD (sName j) G (items.drop (n + 1)) ds' = some o, fun σ' H' z => ⟨items.length - (n + 1), by omega, hlt, rfl, z⟩, fun x H' y => ?_⟩
     obtain ⟨e5, d, ed, dt⟩ := yl' x H' y hlt
     have edd : items[n] = d := by
      rw [List.getElem?_eq_getElem hlt] at ed
      exact Option.some.inj ed
     have S3 := S2.grow e5
     have dx : Dt X.K (hid H' as2 O) x d := dt as2 (fun b hb => ⟨(S2.new b hb).1, let ⟨_, z⟩ := (S2.new b hb).2; ⟨_, z⟩⟩) S2.dom
     rw [edd] at e4
     refine hb.t a O _ _ _ H' _ _ o4 (S3.set j dx) (k2.set hij) e4 ?_
     cases o4 with
     | next ds5 => exact fun as5 σ5 H5 S5 k5 => ⟨as5, ds5, S5, k5, f2⟩
     | cont ds5 => exact fun as5 σ5 H5 S5 k5 => ⟨as5, ds5, S5, k5, f2⟩
     | brk ds5 => cases f2; exact fun as5 σ5 H5 S5 k5 => qb as5 σ5 H5 S5 k5
     | ret pv => cases f2; exact qb
     | up x => cases f2; exact qb
  . have hi2 : n = items.length := by omega
    subst hi2
    rw [List.drop_length] at f2
    cases f2
    exact .inl ⟨st' (Nat.le_refl _), qb as2 σ2 H2 S2 k2⟩⟩
end
noncomputable abbrev IOF2 := Ds -> Option (PyData × List PyData × List PyData)
noncomputable def TIO2 (X : Cx) (i : Nat × Nat) (t : TS) (G : IOF2) : Prop :=
 ∀ (a : Addr × Addr) (O : List Addr) (H₀ : Hp) (as : As) (σ : St) (H : Hp) (ds : Ds) (D : Ends) (d : PyData) (l m : List PyData), DS X.K O H₀ as σ H ds -> Kp i a σ -> G ds = some (d, l, m) -> (∀ σ H, D.rt .non H -> D.nx σ H) ->
  (∀ v H' xs ys, Same H₀ H' -> H' a.1 = some (.lst xs) -> H' a.2 = some (.lst ys) -> Dts X.K (hid H' [some a.1, some a.2] O) xs l -> Dts X.K (hid H' [some a.1, some a.2] O) ys m -> Dt X.K (hid H' [some a.1, some a.2] O) v d -> D.rt v H') -> t D σ H
structure PIO2 (X : Cx) (i : Nat × Nat) (st : List Stmt) (t : TS) (G : IOF2) : Prop where
 p : PSs X st t
 t : TIO2 X i t G
noncomputable def io2Ret (i : Nat × Nat) (F : Ds -> Option PV) : IOF2 := fun ds => match ds[i.1]?, ds[i.2]? with
 | some (some (.own l)), some (some (.own m)) => (F ds).bind fun pv => some (pv.d, l, m)
 | _, _ => none
noncomputable def io2End (i : Nat × Nat) : Ds -> Option Out -> Option (PyData × List PyData × List PyData) := fun _ o => match o with
 | some (.next ds) => match ds[i.1]?, ds[i.2]? with
  | some (some (.own l)), some (some (.own m)) => some (.none, l, m)
  | _, _ => none
 | _ => none
noncomputable def io2Seq (G1 : Ds -> Option Out) (G2 : IOF2) : IOF2 := fun ds => (G1 ds).bind fun o => match o with
 | .next ds' => G2 ds'
 | _ => none
noncomputable def io2Last (i : Nat × Nat) (G1 : Ds -> Option Out) : IOF2 := fun ds => io2End i ds (G1 ds)
section
variable {X : Cx} {i : Nat × Nat} {st : Stmt} {rest : List Stmt} {t u : TS} {G1 : Ds -> Option Out} {G : IOF2} {e : Expr} {te : TE} {F : Ds -> Option PV} {pos : Pos}
theorem io2_two {K : PySem.W.Frag} {O : List Addr} {H₀ H : Hp} {as : As} {σ : St} {ds : Ds} {a : Addr × Addr} {l m : List PyData} (S : DS K O H₀ as σ H ds) (k : Kp i a σ) (h1 : ds[i.1]? = some (some (.own l))) (h2 : ds[i.2]? = some (some (.own m))) :
  some a.1 ∈ as /\ some a.2 ∈ as /\ ∃ xs ys, H a.1 = some (.lst xs) /\ H a.2 = some (.lst ys) /\ Dts K (hid H as O) xs l /\ Dts K (hid H as O) ys m := by
 obtain ⟨a', xs, z1, z2, z3, z4⟩ := S.slot i.1 _ h1
 obtain ⟨b', ys, y1, y2, y3, y4⟩ := S.slot i.2 _ h2
 rw [k.one] at z1
 rw [k.two] at y1
 cases z1
 cases y1
 exact ⟨List.mem_of_getElem? z2, List.mem_of_getElem? y2, xs, ys, z3, y3, z4, y4⟩
theorem io2_sub {O : List Addr} {H : Hp} {as : As} {a b : Addr} (h1 : some a ∈ as) (h2 : some b ∈ as) : Same (hid H as O) (hid H [some a, some b] O) := hid_sub (Same.refl _) fun c z => by
 rcases List.mem_cons.mp z with z | z
 . rw [z]; exact h1
 . rw [List.mem_singleton.mp z]; exact h2
theorem pio2_ret (he : PX X true e te F) : PIO2 X i [.Return (some e) pos] (tRet te) (io2Ret i F) := ⟨pss_one (ps_ret he.p), by
 intro a O H₀ as σ H ds D d l m S k hf hn q
 unfold io2Ret at hf
 split at hf
 . rename_i l0 m0 hd1 hd2
   cases e1 : F ds with
   | none => rw [e1] at hf; cases hf
   | some pv =>
    rw [e1] at hf
    cases hf
    obtain ⟨m1, m2, xs, ys, z1, z2, z3, z4⟩ := io2_two S k hd1 hd2
    refine he.t O H₀ as σ H ds pv _ S e1 fun v H1 s1 r1 => ?_
    have sm : Same (hid H1 as O) (hid H1 [some a.1, some a.2] O) := io2_sub m1 m2
    exact q v H1 xs ys (S.same.trans s1) (s1 _ _ z1) (s1 _ _ z2) ((z3.same (hid_same s1)).same sm) ((z4.same (hid_same s1)).same sm) ((r1.dt S.dm).same sm)
 . cases hf⟩
theorem pio2_cons (h1 : PSJ X i st t G1) (h2 : PIO2 X i rest u G) : PIO2 X i (st :: rest) (tSeq t u) (io2Seq G1 G) := ⟨pss_cons h1.p h2.p, by
 intro a O H₀ as σ H ds D d l m S k hf hn q
 unfold io2Seq at hf
 cases e1 : G1 ds with
 | none => rw [e1] at hf; cases hf
 | some o1 =>
  rw [e1] at hf
  simp only [Option.bind_some] at hf
  refine h1.t a O H₀ as σ H ds { D with nx := u D } o1 S k e1 ?_
  cases o1 with
  | next ds1 => exact fun as' σ' H' S' k' => h2.t a O H₀ as' σ' H' ds1 D d l m S' k' hf hn q
  | _ => cases hf⟩
theorem pio2_last (h1 : PSJ X i st t G1) : PIO2 X i [st] t (io2Last i G1) := ⟨pss_one h1.p, by
 intro a O H₀ as σ H ds D d l m S k hf hn q
 unfold io2Last io2End at hf
 cases e1 : G1 ds with
 | none => rw [e1] at hf; cases hf
 | some o1 =>
  rw [e1] at hf
  refine h1.t a O H₀ as σ H ds D o1 S k e1 ?_
  cases o1 with
  | next ds1 =>
   simp only at hf
   split at hf
   . rename_i l0 m0 hd1 hd2
     cases hf
     intro as' σ' H' S' k'
     obtain ⟨m1, m2, xs, ys, z1, z2, z3, z4⟩ := io2_two S' k' hd1 hd2
     have sm : Same (hid H' as' O) (hid H' [some a.1, some a.2] O) := io2_sub m1 m2
     exact hn _ _ (q .non H' xs ys S'.same z1 z2 (z3.same sm) (z4.same sm) Dt.non)
   . cases hf
  | _ => cases hf⟩
end
noncomputable def spIO2 (K : PySem.W.Frag) (i : Nat × Nat) (f : List PyData -> Option (PyData × List PyData × List PyData)) : Sp := fun vs H Q _ => ∃ (O : List Addr) (ds : List PyData) (a b : Addr) (xs ys : List V) (l m : List PyData) (d : PyData) (l' m' : List PyData),
 (∀ c ∈ O, ∃ u, H c = some u) /\ a ∉ O /\ b ∉ O /\ a ≠ b /\ vs[i.1]? = some (.ref a) /\ vs[i.2]? = some (.ref b) /\ H a = some (.lst xs) /\ H b = some (.lst ys) /\ ds[i.1]? = some (.list l) /\ ds[i.2]? = some (.list m) /\
 Dts K (hid H [some a, some b] O) ((vs.set i.2 .non).set i.1 .non) ((ds.set i.2 .none).set i.1 .none) /\ Dts K (hid H [some a, some b] O) xs l /\ Dts K (hid H [some a, some b] O) ys m /\ f ds = some (d, l', m') /\
 ∀ v H' xs' ys', Same (hid H [some a, some b] []) H' -> H' a = some (.lst xs') -> H' b = some (.lst ys') -> Dts K (hid H' [some a, some b] O) xs' l' -> Dts K (hid H' [some a, some b] O) ys' m' -> Dt K (hid H' [some a, some b] O) v d -> Q v H'
noncomputable def fnIO2 (n N : Nat) (i : Nat × Nat) (G : IOF2) : List PyData -> Option (PyData × List PyData × List PyData) := fun l => if l.length = n then match l[i.1]?, l[i.2]? with
 | some (.list l0), some (.list m0) => G (((dats ((l.set i.2 .none).set i.1 .none) ++ List.replicate (N - n) none).set i.1 (some (.own l0))).set i.2 (some (.own m0)))
 | _, _ => none
 else none
section
variable {P : Program} {w : World} {K : PySem.W.Frag} {mg : Str -> Option Value} {base : Heap}
theorem hid_two {H : Hp} {a b : Addr} {O : List Addr} : hid (hid H [some b] []) [some a] O = hid H [some a, some b] O := by
 funext c
 unfold hid
 by_cases c1 : c ∈ O
 . rw [if_pos (.inl c1), if_pos (.inl c1)]
 . by_cases c2 : c = a
   . subst c2
     rw [if_pos (.inr (by simp)), if_pos (.inr (by simp))]
   . rw [if_neg (by simp [c1, c2])]
     by_cases c3 : c = b
     . subst c3
       rw [if_pos (.inr (by simp)), if_pos (.inr (by simp))]
     . rw [if_neg (by simp [c3]), if_neg (by simp [c1, c2, c3])]
theorem start_set {N : List Str} {vs : List V} {i : Nat} {v : V} (h : vs[i]? = some v) : (L2.start N (vs.set i .non)).set i (some v) = L2.start N vs := by
 have hi : i < vs.length := (List.getElem?_eq_some_iff.mp h).1
 unfold L2.start
 rw [List.length_set, List.set_append_left _ _ (by simpa using hi)]
 congr 1
 rw [List.map_set, List.set_set]
 refine List.ext_getElem? fun n => ?_
 by_cases c : i = n
 . subst c
   rw [List.getElem?_set_self (by simpa using hi), List.getElem?_map, h]
   rfl
 . rw [List.getElem?_set_ne c]
theorem DS.startIO2 {O : List Addr} {H : Hp} {vs xs ys : List V} {ds l m : List PyData} {N : List Str} {i : Nat × Nat} {a b : Addr} (hO : ∀ c ∈ O, ∃ u, H c = some u) (ha : a ∉ O) (hb : b ∉ O) (hab : a ≠ b) (hij : i.1 ≠ i.2) (hv1 : vs[i.1]? = some (.ref a)) (hv2 : vs[i.2]? = some (.ref b)) (hH1 : H a = some (.lst xs)) (hH2 : H b = some (.lst ys))
  (h : Dts K (hid H [some a, some b] O) ((vs.set i.2 .non).set i.1 .non) ((ds.set i.2 .none).set i.1 .none)) (hx : Dts K (hid H [some a, some b] O) xs l) (hy : Dts K (hid H [some a, some b] O) ys m) :
  ∃ as, DS K O (hid H [some a, some b] []) as (L2.start N vs) H (((dats ((ds.set i.2 .none).set i.1 .none) ++ List.replicate (N.length - ds.length) none).set i.1 (some (.own l))).set i.2 (some (.own m))) := by
 have hn : hid H [some b] [] b = none := by unfold hid; rw [if_pos (.inr (by simp))]
 obtain ⟨as, S1⟩ := DS.startIO (K := K) (N := N) (H := hid H [some b] []) (O := O) (vs := vs.set i.2 .non) (ds := ds.set i.2 .none) (i := i.1) (a := a) (xs := xs) (l := l) (fun c hc => by
  obtain ⟨u, z⟩ := hO c hc
  exact ⟨u, hid_some.mpr ⟨by simp, fun q => hb (by have : c = b := by simpa using q
                                                   rw [<- this]; exact hc), z⟩⟩) ha (by rw [List.getElem?_set_ne (Ne.symm hij)]; exact hv1) (hid_some.mpr ⟨by simp, by simpa using hab, hH1⟩) (by rw [hid_two]; exact h) (by rw [hid_two]; exact hx)
 rw [List.length_set, hid_two] at S1
 have h0 : Same (hid H [some b] []) H := hid_all
 have S2 := S1.grow h0
 have nb : some b ∉ as := fun z => by
  obtain ⟨_, q, z⟩ := S1.new b z
  rw [hn] at z
  cases z
 have S3 := S2.setO (l := m) i.2 (a := b) (xs := ys) (by unfold hid; rw [if_pos (.inr (by simp))]) nb hH2 (fun j pv hj hji => ?_) ?_
 . rw [start_set hv2] at S3
   exact ⟨_, S3⟩
 . have sl := S1.slot j pv hj
   have sm : Same (hid (hid H [some b] []) as O) (hid H (some b :: as) O) := hid_le fun c o z1 z2 z3 => by
    obtain ⟨y1, y2, y3⟩ := hid_some.mp z3
    refine ⟨z1, fun z => ?_, y3⟩
    rcases List.mem_cons.mp z with z | z
    . exact y2 (by rw [z]; simp)
    . exact z2 z
   cases pv with
   | dat d => obtain ⟨v, z1, z⟩ := sl; exact ⟨v, z1, z.same sm⟩
   | own l' => obtain ⟨a', xs', z1, z2, z3, z⟩ := sl; exact ⟨a', xs', z1, z2, h0 _ _ z3, z.same sm⟩
 . refine hy.same (hid_le fun c o z1 z2 z3 => ⟨z1, fun z => ?_, z3⟩)
   rcases List.mem_cons.mp z with z | z
   . exact z2 (by rw [z]; simp)
   . have := (S1.new c z).1
     rw [hid_some.mpr ⟨by simp, z2, z3⟩] at this
     cases this
theorem Fun.okIO2 {x qual : Str} {st : Stmt} {f : Addr} {fd : FuncData} {N ps : List Str} {k : Nat} {i : Nat × Nat} {G : IOF2} (F : Fun K x qual st f fd) (S : FnScope N ps (defScope st)) (hN : ps.length <= N.length) (hij : i.1 ≠ i.2)
  (hbody : ∀ (cdv : Value) (A : Around) (outer : List Env) (s : Shared) (H : Hp) (E : XK), Room k (A.deeper (envOfC qual (defScope st) s.heap.objs.size f cdv)) ->
   ∃ t, PIO2 (cxOf CX0 P w K mg base N qual (defScope st) f cdv A outer s H E).nox i (defBody st) t G) : FnOk P w K mg base CX0 (k + 1) f fd ps (spIO2 K i (fnIO2 ps.length N.length i G)) := by
 have ln : ∀ vs H Q E, spIO2 K i (fnIO2 ps.length N.length i G) vs H Q E -> vs.length = ps.length := fun vs H Q E h => by
  obtain ⟨O, ds, a, b, xs, ys, l, m, d, l', m', h1, h2, h3, h4, h5, h6, h7, h8, h9, g1, g2, g3, g4, g5, g6⟩ := h
  unfold fnIO2 at g5
  split at g5
  . rename_i hl
    have := g2.length
    simp only [List.length_set] at this
    omega
  . cases g5
 refine F.ok S ln fun cdv A outer s H vs Q E hr h => ?_
 obtain ⟨O, ds, a, b, xs, ys, l, m, d, l', m', h1, h2, h3, h4, h5, h6, h7, h8, h9, g1, g2, g3, g4, g5, g6⟩ := h
 obtain ⟨t, ht⟩ := hbody cdv A outer s H E hr
 refine ⟨t, ht.p, ?_⟩
 unfold fnIO2 at g5
 split at g5
 . rename_i hl
   rw [h9, g1] at g5
   simp only [] at g5
   obtain ⟨as, S'⟩ := DS.startIO2 (N := N) h1 h2 h3 h4 hij h5 h6 h7 h8 g2 g3 g4
   rw [hl] at S'
   have kp : ∀ (n : Nat) (c : Addr), vs[n]? = some (.ref c) -> (L2.start N vs)[n]? = some (some (.ref c)) := fun n c hc => by
    have hi : n < vs.length := (List.getElem?_eq_some_iff.mp hc).1
    unfold L2.start
    rw [List.getElem?_append_left (by simpa using hi), List.getElem?_map, hc]
    rfl
   exact ht.t (a, b) O _ as _ H _ _ d l' m' S' ⟨kp _ _ h5, kp _ _ h6⟩ g5 (fun _ _ z => z) g6
 . cases g5
end
noncomputable def TAO2 (K : PySem.W.Frag) (i p : Nat × Nat) (t : TA) (Fl : Ds -> Option (List PyData)) : Prop :=
 ∀ (O : List Addr) (H₀ : Hp) (as : As) (σ : St) (H : Hp) (ds : Ds) (l l0 m0 : List PyData) (a b : Addr) (Q : List V -> Hp -> Prop), DS K O H₀ as σ H ds -> Fl ds = some l -> ds[p.1]? = some (some (.own l0)) -> σ[p.1]? = some (some (.ref a)) -> ds[p.2]? = some (some (.own m0)) -> σ[p.2]? = some (some (.ref b)) ->
  (∀ vs H', Same H H' -> vs[i.1]? = some (.ref a) -> vs[i.2]? = some (.ref b) -> l[i.1]? = some (.list l0) -> l[i.2]? = some (.list m0) -> Dts K (hid H' as O) ((vs.set i.2 .non).set i.1 .non) ((l.set i.2 .none).set i.1 .none) -> Q vs H') -> t σ H Q
structure PAO2 (X : Cx) (i m : Nat × Nat) (es : List Expr) (t : TA) (Fl : Ds -> Option (List PyData)) : Prop where
 p : PA X es t
 t : TAO2 X.K i m t Fl
section
variable {X : Cx} {i p : Nat × Nat} {j q : Nat} {e : Expr} {es : List Expr} {te : TE} {t : TA} {F : Ds -> Option PV} {Fl : Ds -> Option (List PyData)} {pos : Pos}
theorem pao2_here (p : Nat) (h : PE X e (tVar p)) (ha : PAO X j q es t Fl) (hs : starEach (e :: es) X.env = (false, eval e X.env) :: starEach es X.env := by rfl) : PAO2 X (0, j + 1) (p, q) (e :: es) (tCons (tVar p) t) (aCons (fVarB p) Fl) := ⟨pa_cons h ha.p hs, by
 intro O H₀ as σ H ds l l0 m0 a b Q S hf hd1 hk1 hd2 hk2 z
 unfold aCons fVarB at hf
 rw [hd1] at hf
 simp only [Option.bind_some] at hf
 cases e1 : Fl ds with
 | none => rw [e1] at hf; cases hf
 | some l1 =>
  rw [e1] at hf
  cases hf
  refine ⟨_, hk1, ?_⟩
  refine ha.t O H₀ as σ H ds l1 m0 b _ S e1 hd2 hk2 fun vs H1 s1 y1 y2 r1 => z _ H1 s1 rfl (by simpa using y1) rfl (by simpa using y2) ?_
  exact .cons .non r1⟩
theorem pao2_later {i1 i2 : Nat} (he : PX X true e te F) (ha : PAO2 X (i1, i2) p es t Fl) (hs : starEach (e :: es) X.env = (false, eval e X.env) :: starEach es X.env := by rfl) : PAO2 X (i1 + 1, i2 + 1) p (e :: es) (tCons te t) (aCons F Fl) := ⟨pa_cons he.p ha.p hs, by
 intro O H₀ as σ H ds l l0 m0 a b Q S hf hd1 hk1 hd2 hk2 z
 unfold aCons at hf
 cases e0 : F ds with
 | none => rw [e0] at hf; cases hf
 | some pv =>
  rw [e0] at hf
  simp only [Option.bind_some] at hf
  cases e1 : Fl ds with
  | none => rw [e1] at hf; cases hf
  | some l1 =>
   rw [e1] at hf
   cases hf
   refine he.t O H₀ as σ H ds pv _ S e0 fun v H1 s1 r1 => ?_
   refine ha.t O H₀ as σ H1 ds l1 l0 m0 a b _ (S.grow s1) e1 hd1 hk1 hd2 hk2 fun vs H2 s2 z1 z2 z3 z4 r2 => z _ H2 (s1.trans s2) (by simpa using z1) (by simpa using z2) (by simpa using z3) (by simpa using z4) ?_
   exact .cons ((r1.grow s2).dt S.dm) r2⟩
theorem DS.io2 {K : PySem.W.Frag} {O : List Addr} {H₀ H H' : Hp} {as : As} {σ : St} {ds : Ds} {l m l' m' : List PyData} {xs ys : List V} {p : Nat × Nat} {a b : Addr} (S : DS K O H₀ as σ H ds) (hpp : p.1 ≠ p.2) (hab : a ≠ b) (hd1 : ds[p.1]? = some (some (.own l))) (hd2 : ds[p.2]? = some (some (.own m))) (e1 : σ[p.1]? = some (some (.ref a))) (e2 : σ[p.2]? = some (some (.ref b))) (f1 : as[p.1]? = some (some a)) (f2 : as[p.2]? = some (some b))
  (sm : Same (hid H [some a, some b] []) H') (h1 : H' a = some (.lst xs)) (h2 : H' b = some (.lst ys)) (hv1 : Dts K (hid H' as O) xs l') (hv2 : Dts K (hid H' as O) ys m') : DS K O H₀ as σ H' ((ds.set p.1 (some (.own l'))).set p.2 (some (.own m'))) := by
 have mb := List.mem_of_getElem? f2
 have sn : ∀ c o, c ≠ a -> c ≠ b -> H c = some o -> H' c = some o := fun c o z1 z2 z => sm c o (hid_some.mpr ⟨by simp, by simp [z1, z2], z⟩)
 have S1 : DS K O H₀ as σ (fun c => if c = b then H b else H' c) (ds.set p.1 (some (.own l'))) := by
  refine S.io (H' := fun c => if c = b then H b else H' c) (xs := xs) hd1 e1 f1 (fun c o z => ?_) (by simp only [if_neg hab]; exact h1) (hv1.same (hid_le fun c o z1 z2 z3 => ⟨z1, z2, ?_⟩))
  . obtain ⟨_, z1, z2⟩ := hid_some.mp z
    have z1' : c ≠ a := by simpa using z1
    by_cases c2 : c = b
    . subst c2
      simp only [if_true]
      exact z2
    . simp only [if_neg c2]
      exact sn c o z1' c2 z2
  . simp only [if_neg (show c ≠ b from fun q => z2 (by rw [q]; exact mb))]
    exact z3
 refine S1.io (H' := H') (xs := ys) (by rw [List.getElem?_set_ne hpp]; exact hd2) e2 f2 (fun c o z => ?_) h2 hv2
 obtain ⟨_, z1, z2⟩ := hid_some.mp z
 have z1' : c ≠ b := by simpa using z1
 simp only [if_neg z1'] at z2
 exact z2
noncomputable def gCallIO2 (f : List PyData -> Option (PyData × List PyData × List PyData)) (nx : PyData -> Ds -> Ds) (p : Nat × Nat) (Fl : Ds -> Option (List PyData)) : Ds -> Option Out := fun ds => match ds[p.1]?, ds[p.2]? with
 | some (some (.own _)), some (some (.own _)) => (Fl ds).bind fun l => (f l).bind fun r => some (.next (nx r.1 ((ds.set p.1 (some (.own r.2.1))).set p.2 (some (.own r.2.2)))))
 | _, _ => none
noncomputable def nxSet (j : Nat) : PyData -> Ds -> Ds := fun d ds => ds.set j (some (.dat d))
noncomputable def nxNo : PyData -> Ds -> Ds := fun _ ds => ds
theorem ta_callIO2 {E : XK} {f : List PyData -> Option (PyData × List PyData × List PyData)} {nx : PyData -> Ds -> Ds} (ha : PAO2 X i p es t Fl) (hpp : p.1 ≠ p.2) {O : List Addr} {H₀ : Hp} {as : As} {σ : St} {H : Hp} {ds : Ds} {o : Out} {Q : VK} (S : DS X.K O H₀ as σ H ds) (h : gCallIO2 f nx p Fl ds = some o)
  (q : ∀ d ds' v H', o = .next (nx d ds') -> DS X.K O H₀ as σ H' ds' -> Dt X.K (hid H' as O) v d -> Q v H') : tCall (spIO2 X.K i f) [] E t σ H Q := by
 unfold gCallIO2 at h
 split at h
 . rename_i l0 m0 hd1 hd2
   cases e1 : Fl ds with
   | none => rw [e1] at h; cases h
   | some l =>
    rw [e1] at h
    simp only [Option.bind_some] at h
    cases e2 : f l with
    | none => rw [e2] at h; cases h
    | some r =>
     rw [e2] at h
     simp only [Option.bind_some] at h
     cases h
     obtain ⟨a, xs, z1, z2, z3, z4⟩ := S.slot p.1 _ hd1
     obtain ⟨b, ys, y1, y2, y3, y4⟩ := S.slot p.2 _ hd2
     have ma := List.mem_of_getElem? z2
     have mb := List.mem_of_getElem? y2
     have hab : a ≠ b := fun z => by
      subst z
      exact hpp (S.inj _ _ _ z2 y2)
     refine ha.t O H₀ as σ H ds l l0 m0 a b _ S e1 hd1 z1 hd2 y1 fun vs H1 s1 w1 w2 w3 w4 r1 => ?_
     have S1 := S.grow s1
     have hh : ∀ H : Hp, hid H [some a, some b] (O ++ (as.filterMap id).filter fun c => decide (c ≠ a /\ c ≠ b)) = hid H as O := fun H => by
      funext c
      unfold hid
      have : (c ∈ O ++ (as.filterMap id).filter (fun c => decide (c ≠ a /\ c ≠ b)) \/ some c ∈ [some a, some b]) ↔ (c ∈ O \/ some c ∈ as) := by
       simp only [List.mem_append, List.mem_filter, List.mem_filterMap, id, List.mem_cons, List.not_mem_nil, or_false, decide_eq_true_eq]
       constructor
       . rintro ((z | ⟨⟨c', z, e⟩, _⟩) | z | z)
         . exact .inl z
         . subst e; exact .inr z
         . rw [z]; exact .inr ma
         . rw [z]; exact .inr mb
       . rintro (z | z)
         . exact .inl (.inl z)
         . by_cases c1 : c = a
           . exact .inr (.inl (by rw [c1]))
           . by_cases c2 : c = b
             . exact .inr (.inr (by rw [c2]))
             . exact .inl (.inr ⟨⟨_, z, rfl⟩, c1, c2⟩)
      by_cases c1 : c ∈ O \/ some c ∈ as
      . rw [if_pos c1, if_pos (this.mpr c1)]
      . rw [if_neg c1, if_neg (fun z => c1 (this.mp z))]
     rw [List.append_nil]
     refine ⟨O ++ (as.filterMap id).filter (fun c => decide (c ≠ a /\ c ≠ b)), l, a, b, xs, ys, l0, m0, r.1, r.2.1, r.2.2, fun c hc => ?_, fun hc => ?_, fun hc => ?_, hab, w1, w2, s1 _ _ z3, s1 _ _ y3, w3, w4, by rw [hh]; exact r1, by rw [hh]; exact z4.same (hid_same s1), by rw [hh]; exact y4.same (hid_same s1), e2, fun v H2 xs2 ys2 s2 u1 u2 u3 u4 u5 => ?_⟩
     . rcases List.mem_append.mp hc with hc | hc
       . exact (S1.dm (fr := true)).o c hc
       . obtain ⟨c', hc', e⟩ := List.mem_filterMap.mp (List.mem_filter.mp hc).1
         have e' : c' = some c := e
         subst e'
         obtain ⟨_, o, z⟩ := S1.new c hc'
         exact ⟨_, z⟩
     . rcases List.mem_append.mp hc with hc | hc
       . exact S.nO ma hc
       . have := (List.mem_filter.mp hc).2
         simp at this
     . rcases List.mem_append.mp hc with hc | hc
       . exact S.nO mb hc
       . have := (List.mem_filter.mp hc).2
         simp at this
     . rw [hh] at u3 u4 u5
       have S2 := S1.io2 hpp hab hd1 hd2 z1 y1 z2 y2 s2 u1 u2 u3 u4
       exact q _ _ v H2 rfl S2 u5
 . cases h
theorem psx_callIO2 {K' : PySem.W.Frag} {CX : CXT} {E : XK} {k j : Nat} {f : Addr} {fd : FuncData} {ps : List Str} {x y : Str} {pn pos' : Pos} {f' : List PyData -> Option (PyData × List PyData × List PyData)} {cpos : Pos} (eK : X.K = K') (G : FnOk X.prog X.w K' X.mg X.base CX k f fd ps (spIO2 K' i f')) (hr : Room k X.A) (hg : Gl X x) (hm : X.mg x = some (.ref f)) (hk : PySem.W.keepIn K' (.ref f) = true) (hb : Binds K' fd ps []) (hx : Passes CX X E)
  (ha : PAO2 X i p (e :: es) t Fl) (hN : X.N.Nodup) (hi : X.N[j]? = some y) (hy : Loc X.env.scope y) (hpp : p.1 ≠ p.2 := by decide) (hdb : (x == ("__debug__" : Str)) = false := by decide) (he : starEach (e :: es) X.env = (false, eval e X.env) :: starEach es X.env := by rfl) (hpl : (backTo cpos (starEach es X.env)).any (·.1) = false := by rfl)
  (hs : swapsWith (.Call (.Name x pn) (e :: es) [] cpos) (some (.Name y pos')) pos.line X.env = pure false := by rfl) (hf : X.fn y = true \/ X.env.scope.names.lookup y = some .local := by first | exact .inl rfl | exact .inr rfl | assumption) :
  PSX X (.Assign [.Name y pos'] (.Call (.Name x pn) (e :: es) [] cpos) pos) (tAsg (tCall (spIO2 K' i f') [] E t) (gName j)) (gCallIO2 f' (nxSet j) p Fl) := by
 subst eK
 refine ⟨ps_set hN hi hy (pe_call G hr hg hm hk hb .nil hx ha.p hdb he hpl) hs hf, ?_⟩
 intro O H₀ as σ H ds D o S h q
 refine ta_callIO2 ha hpp S h fun d ds' v H' eo S' r => ?_
 subst eo
 exact q _ _ _ (S'.set j r)
theorem psx_dropIO2 {K' : PySem.W.Frag} {CX : CXT} {E : XK} {k : Nat} {f : Addr} {fd : FuncData} {ps : List Str} {x : Str} {pn : Pos} {f' : List PyData -> Option (PyData × List PyData × List PyData)} {cpos : Pos} (eK : X.K = K') (G : FnOk X.prog X.w K' X.mg X.base CX k f fd ps (spIO2 K' i f')) (hr : Room k X.A) (hg : Gl X x) (hm : X.mg x = some (.ref f)) (hk : PySem.W.keepIn K' (.ref f) = true) (hb : Binds K' fd ps []) (hx : Passes CX X E)
  (ha : PAO2 X i p (e :: es) t Fl) (hpp : p.1 ≠ p.2 := by decide) (hdb : (x == ("__debug__" : Str)) = false := by decide) (he : starEach (e :: es) X.env = (false, eval e X.env) :: starEach es X.env := by rfl) (hpl : (backTo cpos (starEach es X.env)).any (·.1) = false := by rfl)
  (hs : swapsWith (.Call (.Name x pn) (e :: es) [] cpos) none pos.line X.env = pure false := by rfl) :
  PSX X (.Expr (.Call (.Name x pn) (e :: es) [] cpos) pos) (tDrop (tCall (spIO2 K' i f') [] E t)) (gCallIO2 f' nxNo p Fl) := by
 subst eK
 refine ⟨ps_expr (pe_call G hr hg hm hk hb .nil hx ha.p hdb he hpl) hs, ?_⟩
 intro O H₀ as σ H ds D o S h q
 refine ta_callIO2 ha hpp S h fun d ds' v H' eo S' r => ?_
 subst eo
 exact q _ _ _ S'
end
end L2
namespace L2
open PySem PySem.Spec PyProof.Rows
section
variable {prog : Program} {w : World} {A : Around} {E : Value -> Shared -> Prop} {hp : Heap} {gs : Array GenState} {dr : Drawn} {tk : Nat} {os : OsState}
variable {nm qn : Str} {C N : Addr} {bs tl base : List Value} {hd : Bool} {sn : List Str} {sub : List Value} {ab : Bool} {col : Option Bool} {dd : Option Addr} {k0 k1 k2 k3 k5 : Option Value} {B nid iid : String}
theorem made_init (F : ExcBaseFacts B nid iid base) (T : OwnTail hp base tl) {mN : Str -> Option Value} {args : List Value} {fi : Addr} {oi : Obj} {Q : PySem.Fin -> Shared -> Prop}
  (hC : hp.get? C = some (excClassObj nm qn C N bs tl hd sn sub ab col dd k0 k1 k2 k3 k5 nid)) (hn : hp.Ns N mN) (hi : mN "__init__" = some (.ref fi)) (hf : hp.get? fi = some oi) (hfc : oi.cls = .type "function") (hz : args.length <= sizeLine)
  (hq : ∀ h' e, Heap.MadeExcOf hp h' e (.ref C) args -> wpAny (model prog w) A (call (.ref fi) (.ref e :: args)) (fun r s' => r = .none /\ Q (.done (.ret (.ref e))) s') E ⟨h', gs, dr, tk, os⟩) :
  wpAny (model prog w) A (Builtin.«type.__call__» ⟨.ref C :: args, []⟩) Q E ⟨hp, gs, dr, tk, os⟩ := by
 repeat (first | with_reducible refine wpAny_loadPart_at hC ?_ | with_reducible refine wpAny_madeBy_exc hC ?_ | wp_step)
 refine codeAny_call_builtin_code (Code.quiet_builtin _ F.quiet) (wpAny_check_new_subT F T hC (codeAny_exc_new_subT F T hC (show wpAny _ _ _ _ _ _ from ?_) hz))
 have kp : ∀ b o, hp.get? b = some o -> ((hp.push { cls := .type "tuple", data := .seq args.toArray }).push { cls := .ref C, data := .fields #[.ref hp.objs.size, .none, .none, .none, .bool false, .none] }).get? b = some o :=
  fun b o q => Heap.get?_push_of_some _ (Heap.get?_push_of_some _ q)
 have at1 : ((hp.push { cls := .type "tuple", data := .seq args.toArray }).push { cls := .ref C, data := .fields #[.ref hp.objs.size, .none, .none, .none, .bool false, .none] }).get? (hp.objs.size + 1) = some { cls := .ref C, data := .fields #[.ref hp.objs.size, .none, .none, .none, .bool false, .none] } := by heap_get
 have cC : (Value.ref C :: tl).contains (.ref C) = true := by simp
 have c1 := kp _ _ hC
 have n1 : ((hp.push { cls := .type "tuple", data := .seq args.toArray }).push { cls := .ref C, data := .fields #[.ref hp.objs.size, .none, .none, .none, .bool false, .none] }).Ns N mN := let ⟨o, es, ep, q, r⟩ := hn; ⟨o, es, ep, kp _ _ q, r⟩
 unfold isInstance
 repeat (first | with_reducible refine wpAny_loadPart_at at1 ?_ | (with_reducible refine wpAny_isSubtype_exc c1 ?_; rw [cC]) | wp_step)
 refine (show wpAny _ _ (typeLookup (.ref C) _) _ _ _ from wpAny_typeLookup_tail c1 n1 (T.keeps kp) F.mroIs F.init.lookup ?_)
 rw [hi]
 refine wpAny_holding (wpAny_bind ?_)
 unfold bindSpecial
 refine wpAny_bind (wpAny_typeOf (T := "function") ⟨_, kp _ _ hf, hfc⟩ ?_)
 rw [if_pos (by decide)]
 refine wpAny_pure (wpAny_bind (wpAny_mono (hq _ (hp.objs.size + 1) ⟨kp, Heap.get?_none_of_le (Nat.le_succ _), hp.objs.size, at1, Heap.get?_none_of_le (Nat.le_refl _), Heap.get?_push_of_some _ (Heap.get?_push_at rfl rfl)⟩) (fun r s' hr => ?_) fun _ _ x => x))
 obtain ⟨rfl, hQ⟩ := hr
 wp_walk
 exact hQ
theorem call_init (F : ExcBaseFacts B nid iid base) (T : OwnTail hp base tl) {mN : Str -> Option Value} {args : List Value} {fi : Addr} {oi : Obj} {Q : Value -> Shared -> Prop}
  (hC : hp.get? C = some (excClassObj nm qn C N bs tl hd sn sub ab col dd k0 k1 k2 k3 k5 nid)) (hn : hp.Ns N mN) (hi : mN "__init__" = some (.ref fi)) (hf : hp.get? fi = some oi) (hfc : oi.cls = .type "function") (hz : args.length <= sizeLine)
  (hq : ∀ h' e, Heap.MadeExcOf hp h' e (.ref C) args -> wpAny (model prog w) (A.under (.builtin "type.__call__" ⟨.ref C :: args, []⟩)) (call (.ref fi) (.ref e :: args)) (fun r s' => r = .none /\ Q (.ref e) s') E ⟨h', gs, dr, tk, os⟩) :
  wpAny (model prog w) A (call (.ref C) args) Q E ⟨hp, gs, dr, tk, os⟩ := by
 have f1 := tc_lookup
 have f2 := tc_bind (.ref C)
 have hT : (⟨hp, gs, dr, tk, os⟩ : Shared).TypeIs (.ref C) "type" := ⟨_, hC, rfl⟩
 refine wpAny_call (codeAny_of_tree (show wpAny _ _ (callAny (.ref C) _) _ _ _ from ?_))
 repeat (any_goals (first | assumption | with_reducible refine wpAny_loadPart_at hC ?_ | wp_step))
 exact ⟨rfl, codeAny_call_builtin_at (Code.quiet_builtin _ (by decide +kernel)) entry_typeCall (wpAny_check_type_call_sub hC (made_init F T hC hn hi hf hfc hz fun h' e hm => hq h' e hm))⟩
end
end L2
namespace L2
open PySem PySem.Spec PyProof.Rows
section
variable {prog : Program} {w : World} {A : Around} {E : Value -> Shared -> Prop} {hp : Heap} {gs : Array GenState} {dr : Drawn} {tk : Nat} {os : OsState}
variable {nm qn : Str} {C N e : Addr} {bs tl base : List Value} {hd : Bool} {sn : List Str} {sub : List Value} {ab : Bool} {col : Option Bool} {dd dx : Option Addr} {k0 k1 k2 k3 k5 : Option Value} {B nid iid : String}
theorem base_init (F : ExcBaseFacts B nid iid base) (T : OwnTail hp base tl) {args : List Value} {Q : Value -> Shared -> Prop} (hC : hp.get? C = some (excClassObj nm qn C N bs tl hd sn sub ab col dd k0 k1 k2 k3 k5 nid)) (he : ExcIs e C dx hp) (hz : args.length <= sizeLine)
  (hq : ∀ h', (∀ b o, b ≠ e -> hp.get? b = some o -> h'.get? b = some o) -> ExcIs e C dx h' -> Q .none ⟨h', gs, dr, tk, os⟩) : wpAny (model prog w) A (call (.builtin iid) (.ref e :: args)) Q E ⟨hp, gs, dr, tk, os⟩ := by
 obtain ⟨t, he⟩ := he
 refine wpAny_call (codeAny_call_builtin F.init.plain F.initEntry (wpAny_check_init_subT F T hC he rfl ?_))
 wp_walk
 refine hq _ (fun b o hb q => ?_) ⟨hp.objs.size, ?_⟩
 . rw [Heap.get?_update_other _ _ (Ne.symm hb)]
   exact Heap.get?_push_of_some _ q
 . rw [Heap.get?_update_self _ (Heap.get?_push_of_some _ he) rfl]
   rfl
end
end L2
namespace L2
open PySem PySem.Spec PyProof.Rows
theorem ns1_one {h : Heap} {a : Addr} {o : Obj} {hash : Int} {name : Str} {t : Tok} {v : Value} {c : Nat} (ho : h.get? a = some o) (hd : o.data = .dict #[⟨hash, .str name t, v⟩] c) : h.Ns1 a fun n => if n = name then some v else none := by
 refine ⟨o, _, c, ho, hd, fun e he => ⟨name, t, by simp at he; rw [he]⟩, by unfold UniqKeys; exact List.pairwise_singleton _ _, fun n => ?_⟩
 unfold nsFind findBy
 by_cases hn : n = name
 . subst hn; simp [Value.isStr]
 . have z : ¬ name = n := fun z => hn z.symm
   simp [Value.isStr, z, hn]
theorem refuse_base (self : Value) : refuseLoop self "__setattr__" [.type "ValueError", .type "Exception", .type "BaseException", .type "object"] = pure () := by
 unfold refuseLoop
 simp only [List.forIn_cons, List.forIn_nil]
 kernel_rfl
noncomputable abbrev valueMro : List Value := [.type "ValueError", .type "Exception", .type "BaseException", .type "object"]
theorem refuse_tail (self : Value) : ∀ {l : List Addr}, refuseLoop self "__setattr__" (l.map Value.ref ++ valueMro) = pure ()
 | [] => refuse_base self
 | c :: r => by rw [List.map_cons, List.cons_append, refuseLoop_ref]; exact refuse_tail self
theorem exc_set {prog : Program} {w : World} {A : Around} {E : Value -> Shared -> Prop} {s : Shared} {K : PySem.W.Frag} {e C : Addr} {os : List Addr} {cd : ClassData} {name : Str} {v : Value} {Q : Unit -> Shared -> Prop} (X : K.In s.heap) (he : ExcIs e C none s.heap)
  (hs : PySem.W.findIn K (.ref C) "__setattr__" = some (some (.builtin "object.__setattr__"))) (hc : PySem.W.clsIn K C = some cd) (hm : cd.mro = os.map Value.ref ++ valueMro) (hd : cd.hasDict = true) (ha : PySem.W.findIn K (.ref C) name = some none)
  (h : ∀ h', (∀ b o, b ≠ e -> s.heap.get? b = some o -> h'.get? b = some o) -> ExcIs e C (some s.heap.objs.size) h' -> h'.Ns1 s.heap.objs.size (fun n => if n = name then some v else none) -> Q () { s with heap := h', toks := s.toks + 2 }) :
  wpAny (model prog w) A (setAttr (.ref e) name v) Q E s := by
 obtain ⟨t, hx⟩ := he
 have I : PySem.W.InstAt s.heap e _ C none := ⟨hx, rfl, rfl, True.intro⟩
 have SF := PySem.F.store_object
 have sub : PySem.W.Looks (model prog w) s.heap (isInstance (.ref e) (.type "object")) true := I.type.andThen (PySem.W.looks_mroIn X (by unfold PySem.W.mroIn; rw [hc, Option.bind_some, if_neg (by rw [hm]; simp), hm]; simp))
 refine PySem.W.set_plain X I hs (codeAny_call_builtin SF.slot.plain SF.entry (@PySem.W.check_slot (model prog w) _ _ { s with toks := s.toks + 1 } "object.__setattr__" "object" "__setattr__" (.ref e) [.str name s.toks, v] [] _ SF.kind SF.split sub (SF.args (.ref e) (.str name s.toks) v) ?_))
 have lm : PySem.W.Looks (model prog w) s.heap (mroOf (.ref C)) cd.mro := (PySem.W.looks_clsIn X hc).andThen .now
 rw [PySem.W.osa_eq, refuse_eq]
 refine wpAny_bind (wpAny_bind (PySem.W.Looks.here (s := { s with toks := s.toks + 1 }) I.type (wpAny_bind (PySem.W.Looks.here (s := { s with toks := s.toks + 1 }) lm ?_))))
 rw [hm, refuse_tail]
 refine wpAny_pure (wpAny_bind (PySem.W.Looks.here (s := { s with toks := s.toks + 1 }) I.type (wpAny_bind (PySem.W.Looks.here (s := { s with toks := s.toks + 1 }) (PySem.W.looks_findIn X ha) (wpAny_bind (wpAny_pure ?_))))))
 show wpAny _ _ (Builtin.ObjectAttr.storeInOwnDict (.ref e) (.ref C) (.str name s.toks) name v _) _ _ _
 unfold Builtin.ObjectAttr.storeInOwnDict
 have lc : PySem.W.Looks (model prog w) s.heap (classData C) cd := PySem.W.looks_clsIn X hc
 refine wpAny_bind (wpAny_pure (wpAny_bind (wpAny_bind (wpAny_loadPart hx (wpAny_bind (PySem.W.Looks.here (s := { s with toks := s.toks + 1 }) lc ?_))))))
 rw [hd]
 have lt : e < s.heap.objs.size := Heap.lt_size hx
 have a1 : (s.heap.push { cls := .type "dict", data := .dict #[] }).get? e = some { cls := .ref C, data := .fields #[.ref t, .none, .none, .none, .bool false, .none] } := Heap.get?_push_of_some _ hx
 have d1 : (s.heap.push { cls := .type "dict", data := .dict #[] }).get? s.heap.objs.size = some { cls := .type "dict", data := .dict #[] } := Heap.get?_push_size _ rfl
 refine (show wpAny _ _ (do let d <- alloc { cls := Value.type "dict", data := Data.dict #[] }; update e fun o => { o with dict := some d }; pure (some d)) _ _ _ from wpAny_bind (wpAny_alloc ?_))
 refine wpAny_bind (wpAny_update a1 (wpAny_pure ?_))
 have ne : e ≠ s.heap.objs.size := Nat.ne_of_lt lt
 have d2 : ((s.heap.push { cls := .type "dict", data := .dict #[] }).update e fun o => { o with dict := some s.heap.objs.size }).get? s.heap.objs.size = some { cls := .type "dict", data := .dict #[] } := (Heap.get?_update_other _ _ ne).trans d1
 have e2 : ((s.heap.push { cls := .type "dict", data := .dict #[] }).update e fun o => { o with dict := some s.heap.objs.size }).get? e = some { cls := .ref C, dict := some s.heap.objs.size, data := .fields #[.ref t, .none, .none, .none, .bool false, .none] } := Heap.get?_update_self _ a1 rfl
 have k2 : ∀ b o, b ≠ e -> s.heap.get? b = some o -> ((s.heap.push { cls := .type "dict", data := .dict #[] }).update e fun o => { o with dict := some s.heap.objs.size }).get? b = some o := fun b o hb q => (Heap.get?_update_other _ _ (Ne.symm hb)).trans (Heap.get?_push_of_some _ q)
 generalize (s.heap.push { cls := .type "dict", data := .dict #[] }).update e (fun o => { o with dict := some s.heap.objs.size }) = h2 at d2 e2 k2
 refine (show wpAny _ _ (Builtin.ObjectAttr.storeInDict s.heap.objs.size (.str name s.toks) name v) _ _ { s with heap := h2, toks := s.toks + 1 } from ?_)
 unfold Builtin.ObjectAttr.storeInDict nsSet
 refine wpAny_bind (wpAny_pure (wpAny_bind (wpAny_bind (wpAny_bind (wpAny_askSetting (wpAny_pure (wpAny_bind (wpAny_mkText (wpAny_bind (wpAny_loadPart d2 ?_))))))))))
 dsimp only
 rw [aRefKeyMayBeTheName_at, show ((!(#[] : Array DictEntry).any (·.key.isStr name)) && (#[] : Array DictEntry).any (·.refKey)) = false by simp]
 refine wpAny_updatePart d2 ?_
 have d3 := Heap.get?_update_self (Obj.putName name (if name.cps.isEmpty = true then 0 else reduceHash ((model prog w).w.params.strHash name.cps)) (.str name (s.toks + 1)) v) d2 rfl
 refine wpAny_bind (wpAny_lookBehind d3 (pastItsLine_dict (by simp)) (wpAny_pure (h _ (fun b o hb q => ?_) ⟨t, ?_⟩ (ns1_one d3 rfl))))
 . rw [Heap.get?_update_other _ _ (Nat.ne_of_gt (Heap.lt_size q))]
   exact k2 b o hb q
 . rw [Heap.get?_update_other _ _ (Ne.symm ne)]
   exact e2
end L2
namespace L2
open PySem PySem.Spec PyProof.Rows
structure ExcK (K : PySem.W.Frag) (C CS fi : Addr) (fld : Str) : Prop where
 cls : ∃ (nm qn : Str) (N : Addr) (bs : List Value) (sn : List Str) (sub : List Value) (ab : Bool) (col : Option Bool) (dd : Option Addr) (k0 k1 k2 k3 k5 : Option Value),
  K.lookup C = some (excClassObj nm qn C N bs (.ref CS :: valueMro) true sn sub ab col dd k0 k1 k2 k3 k5 "ValueError.__new__") /\ PySem.W.nsOkIn K N = true /\ PySem.W.nsIn K N "__init__" = some (some (.ref fi))
 tail : PySem.W.tailIn K valueMro (.ref CS :: valueMro) = true
 fn : ∃ o, K.lookup fi = some o /\ o.cls = .type "function"
 sa : PySem.W.findIn K (.ref C) "__setattr__" = some (some (.builtin "object.__setattr__"))
 nof : PySem.W.findIn K (.ref C) fld = some none
 rd : PySem.W.readsIn K CS (.type "type") = true
 ga : PySem.W.specialIn K (.ref CS) "__getattribute__" = some (some (.builtin "type.__getattribute__"))
 ini : PySem.W.findCls K (.ref CS) (.type "type") "__init__" = some (.val (.builtin "ValueError.__init__"))
section
variable {X : Cx} {C CS fi : Addr} {fld : Str} {x : Str} {p pos apos pos' : Pos} {o e e1 e2 : Expr} {t : TA} {ta tv : TE}
noncomputable def tBase (C : Addr) (t : TA) : TE := fun σ H Q => t σ H fun vs H1 => ∃ ea v dx, vs = [.ref ea, v] /\ H1 ea = some (.ext (ExcIs ea C dx)) /\ Q .non H1
theorem excIs_ok {P : Program} {w : World} {H : Hp} {h : Heap} {ea C : Addr} {dx : Option Addr} (x : ExcIs ea C dx h) : ObjOk P w H h ea (.ext (ExcIs ea C dx)) := ⟨x, let ⟨_, q⟩ := x; ⟨_, q⟩, fun _ _ y k => y.keep k⟩
theorem pe_baseInit {pl : Sem Bool} (T : ExcK X.K C CS fi fld) (hg : Gl X x) (hm : X.mg x = some (.ref CS)) (ha : PA X [e1, e2] t) (hdb : (x == ("__debug__" : Str)) = false := by decide)
  (hst : starEach [e1, e2] X.env = (false, eval e1 X.env) :: starEach [e2] X.env := by rfl) (hpl : (backTo pos (starEach [e2] X.env)).any (·.1) = false := by rfl)
  (ht : eval (.Call (.Attribute (.Name x p) "__init__" apos) [e1, e2] [] pos) X.env = (do
   let ov <- eval (.Name x p) X.env
   standAt apos.atName
   let (f, first) <- holding [ov] (getMethod ov "__init__" pl)
   callWith pos f first (backTo pos (starEach [e1, e2] X.env)) (backToKw pos (keywordEach [] X.env))) := by rfl) :
  PE X (.Call (.Attribute (.Name x p) "__init__" apos) [e1, e2] [] pos) (tBase C t) := by
 intro pins s σ H Q I h
 refine PySem.W.methodCall_KW (pl := pl) (thn (pe_glob (v := .ref CS) hg hm rfl hdb pins s σ H (fun v H' => v = .ref CS /\ H' = H) I ⟨rfl, rfl⟩) fun u s1 ⟨y, H1, I1, rx, ex, eH⟩ => ?_) ht
 subst ex
 subst eH
 obtain rfl : u = Value.ref CS := rx
 refine PySem.W.method_cls I1.kIn T.ga (PySem.W.cls_value I1.kIn T.rd T.ini (by decide +kernel) ?_)
 have I2 := I1.tok (s1.toks + 1)
 refine PyProof.Rows.callWith_builtin1 (thn (ha pos pins _ σ H1 _ I2 h) fun us s2 ⟨vs, H2, I3, r, ea, v, dx, ev, hH, q⟩ => ?_) hst hpl
 subst ev
 obtain ⟨u1, u2, rfl, r1, r2⟩ := vals2 r
 cases r1
 obtain ⟨nm, qn, N, bs, sn, sub, ab, col, dd, k0, k1, k2, k3, k5, hC, _, _⟩ := T.cls
 obtain ⟨hp, gs, dr, tk, os⟩ := s2
 have okE : ExcIs ea C dx hp := (I3.hok ea _ hH).1
 refine base_init PySem.F.excBase_ValueError (PySem.W.tail_of_in I3.kIn T.tail) (I3.kIn _ _ hC) okE (by rw [sizeLine_eq]; simp) fun h' kp ex' => ?_
 have e0 : upd H2 ea (.ext (ExcIs ea C dx)) = H2 := by
  funext b
  by_cases hb : b = ea
  . subst hb; rw [upd_same, hH]
  . rw [upd_ne hb]
 have I4 := I3.write (h' := h') (t' := tk) (x := ea) (e := ea) (o := .ext (ExcIs ea C dx)) (by rw [hH]; exact True.intro) (.inl rfl) (fun b u hb q => kp b u hb q) (let ⟨_, q⟩ := ex'; ⟨_, q⟩) (excIs_ok ex')
 rw [e0] at I4
 exact ⟨.non, H2, I4, rfl, q⟩
noncomputable def sSetE (C : Addr) (fld : Str) (ta tv : TE) : TS := fun D σ H => tv σ H fun y H1 => ta σ H1 fun x H2 => ∃ ea, x = .ref ea /\ H2 ea = some (.ext (ExcIs ea C none)) /\
 ∀ dx, H2 dx = none -> dx ≠ ea -> D.nx σ (upd (upd H2 ea (.ext (ExcIs ea C (some dx)))) dx (.xd [(fld, y)]))
theorem ps_setE (T : ExcK X.K C CS fi fld) (ha : PE X o ta) (hv : PE X e tv) (hs : swapsWith e (some (.Attribute o fld pos')) pos.line X.env = pure false := by rfl) : PS X (.Assign [.Attribute o fld pos'] e pos) (sSetE C fld ta tv) := by
 intro pins s σ H D I h
 refine plainObj_wpAny_Assign_Attribute (thn (hv pins s σ H _ I h) fun u s1 ⟨y, H1, I1, ry, q⟩ => thn (ha pins s1 σ H1 _ I1 q) fun ov s2 ⟨x, H2, I2, rx, ea, ex, hH, q2⟩ => ?_) hs
 subst ex
 obtain rfl : ov = Value.ref ea := rx
 obtain ⟨nm, qn, N, bs, sn, sub, ab, col, dd, k0, k1, k2, k3, k5, hC, _, _⟩ := T.cls
 have okE : ExcIs ea C none s2.heap := (I2.hok ea _ hH).1
 refine exc_set (os := [C, CS]) I2.kIn okE T.sa (by unfold PySem.W.clsIn; rw [hC]) rfl rfl T.nof fun h' kp ex' n1 => ?_
 have I3 := I2.write (h' := h') (t' := s2.toks + 2) (x := ea) (e := ea) (o := .ext (ExcIs ea C (some s2.heap.objs.size))) (by rw [hH]; exact True.intro) (.inl rfl) (fun b u hb q => kp b u hb q) (let ⟨_, q⟩ := ex'; ⟨_, q⟩) (excIs_ok ex')
 have hz : H2 s2.heap.objs.size = none := I2.hok.fresh (Nat.le_refl _)
 have hne : s2.heap.objs.size ≠ ea := Nat.ne_of_gt (let ⟨_, q⟩ := okE; Heap.lt_size q)
 have f := I2.fpOk (Nat.le_refl _) hz
 refine ⟨σ, _, I3.track (D := s2.heap.objs.size) (o := .xd [(fld, y)]) (by rw [upd_ne hne]; exact hz) f.2.1 f.2.2.2.1 f.2.2.2.2.1 f.2.2.2.2.2 ⟨_, n1, fun n => ?_⟩, q2 _ hz hne⟩
 show RelO ([(fld, y)].lookup n) (if n = fld then some u else none)
 by_cases hn : n = fld
 . subst hn
   simp only [List.lookup, beq_self_eq_true, if_true]
   exact ry
 . rw [if_neg hn]
   have : (n == fld) = false := by simpa using hn
   simp only [List.lookup, this]
   exact True.intro
end
end L2
namespace L2
open PySem PySem.Spec PyProof.Rows
section
variable {X : Cx} {pins : List (Addr × Obj)} {σ : St} {H : Hp} {s : Shared} {h' : Heap}
theorem Inv.laidN {t' : Nat} {D : Addr} {o : HO} (I : Inv X pins σ H s) (k : ∀ b u, s.heap.get? b = some u -> h'.get? b = some u) (hDn : s.heap.get? D = none) (new : ObjOk X.prog X.w (upd H D o) h' D o) :
  H D = none /\ Inv X pins σ (upd H D o) { s with heap := h', toks := t' } := by
 have hH : H D = none := by
  cases q : H D with
  | none => rfl
  | some u =>
   obtain ⟨o, e⟩ := ObjOk.get (I.hok D u q)
   rw [hDn] at e; cases e
 refine ⟨hH, ?_⟩
 have ne : ∀ b o, s.heap.get? b = some o -> b ≠ D := fun b o e z => by rw [z, hDn] at e; cases e
 have nh : ∀ b u, H b = some u -> b ≠ D := fun b u e z => by rw [z, hH] at e; cases e
 have hup : ∀ b u, H b = some u -> upd H D o b = some u := fun b u e => by rw [upd_ne (nh b u e)]; exact e
 refine I.step (H' := upd H D o) (g' := s.gens) (d' := s.drawn) (ch := []) (fun b hb => absurd hb (by simp)) (fun b o _ _ _ e _ => k b o e) (fun b o _ _ _ e _ => ⟨o.slots, k b o e⟩) (fun b o _ e n => by rw [upd_ne (ne b o e)]; exact n)
  (fun b o _ e => ⟨o, k b o e⟩) (fun b xs e => hup b _ e) (fun b ob u e => hup b _ e) (fun b ps e => ⟨#[], by rw [hup b _ e]; simp⟩) (fun m' hm'' => ?_) (fun b u e => ?_) I.bare
 . obtain ⟨ob, es, ep, ho, r⟩ := hm''
   exact ⟨ob, es, ep, k _ _ ho, r⟩
 . by_cases hb : b = D
   . subst hb
     rw [upd_same] at e
     cases e
     exact new
   . rw [upd_ne hb] at e
     exact (I.hok b u e).stay (fun c v _ q => k c v q) (fun c q => hup c _ q) fun c xs q => hup c _ q
end
theorem ns_at {K : PySem.W.Frag} {h : Heap} {N : Addr} {m : Str -> Option Value} {x : Str} {u : Value} (X : K.In h) (G : h.Ns N m) (e : PySem.W.nsIn K N x = some (some u)) : m x = some u := by
 obtain ⟨o, es, ep, ho, hd, _, hf⟩ := G
 unfold PySem.W.nsIn at e
 split at e
 . rename_i q
   have z := X _ _ q
   rw [ho] at z
   cases z
   cases hd
   split at e
   . rename_i he
     cases e
     rw [<- hf]
     unfold nsFind findBy
     rw [<- Array.find?_toList, he]
     rfl
   . split at e <;> cases e
 . cases e
section
variable {X : Cx} {C CS fi : Addr} {fld prm : Str} {k : Nat} {fd : FuncData}
end
end L2
namespace L2
open PySem PySem.Spec PyProof.Rows
noncomputable def Flown (e T C dx : Addr) (h : Heap) : Prop := ∃ vs oT ts, h.get? e = some { cls := .ref C, dict := some dx, data := .fields vs } /\ vs[1]? = some (.ref T) /\ T ≠ e /\ h.get? T = some oT /\ oT.data = .fields ts /\ ts[3]? = some .none
section
variable {M : Model} {A : Around} {E : Value -> Shared -> Prop} {s : Shared}
theorem entry_made {base : Heap} {env : Env} {outer : List Env} {L e C dx : Addr} {vs : Array Value} {head : Value} {had : Bool} {Q : Unit -> Shared -> Prop} (hfr : A.frames = some (env :: outer)) (hl : s.heap.FunFrames base (env :: outer)) (hf : env.frame = some L)
  (he : s.heap.get? e = some { cls := .ref C, dict := some dx, data := .fields vs }) (hz : 1 < vs.size)
  (h : ∀ h' T, s.heap.objs.size <= T -> (∀ b o, b ≠ e -> b ∉ frs (env :: outer) -> s.heap.get? b = some o -> h'.get? b = some o) -> (∀ b o, b ∈ frs (env :: outer) -> s.heap.get? b = some o -> ∃ sl, h'.get? b = some { o with slots := sl }) -> Flown e T C dx h' -> Q () { s with heap := h' }) :
  wpAny M A (do let a <- frameOf env; let pl <- entryPlaceOf L had; let b <- EntryCells.newEntry head a .none (rawInt L) .none pl; setField (.ref e) 1 b) (fun _ s' => wpAny M A (setFlight (.ref e) none) Q E s') E s := by
 have ene : e ∉ frs (env :: outer) := fun hm => by
  obtain ⟨_, o, ho, hnf⟩ := hl.mem hm
  rw [he] at ho; injection ho with ho; subst ho; exact hnf vs rfl
 refine wpAny_bind (wpAny_frameOf_fun hfr hl hf fun g1 q1 => wpAny_bind (wpAny_entryPlaceOf fun pl hpl => ?_))
 unfold EntryCells.newEntry newFields
 refine wpAny_bind (wpAny_newObj_type ?_ (hpl.sizeOk5 _ _ _ _ _))
 generalize ho : ({ cls := .type "traceback", dict := none, data := .fields ([head, .ref L, .none, rawInt L, .none] ++ (if pl.isEmpty then List.replicate 6 Value.none else pl)).toArray } : Obj) = oT
 have dT : oT.data = .fields ([head, .ref L, .none, rawInt L, .none] ++ (if pl.isEmpty then List.replicate 6 Value.none else pl)).toArray := by rw [<- ho]
 have fT : oT.isFreed = false := Obj.isFreed_of_fields dT
 have e1 : g1.get? e = some { cls := .ref C, dict := some dx, data := .fields vs } := (q1.2.1 e ene).trans he
 have e2 := Heap.get?_push_of_some (h := g1) oT e1
 have hT2 : (g1.push oT).get? g1.objs.size = some oT := Heap.get?_push_size g1 fT
 have hTe : g1.objs.size ≠ e := Nat.ne_of_gt (Heap.lt_size e1)
 refine wpAny_setField e2 rfl hz ?_
 have e3 := Heap.get?_update_self (Obj.mapFields (·.setIfInBounds 1 (Value.ref g1.objs.size))) e2 rfl
 have hT3 := (Heap.get?_update_other (g1.push oT) (Obj.mapFields (·.setIfInBounds 1 (Value.ref g1.objs.size))) (Ne.symm hTe)).trans hT2
 unfold setFlight
 refine wpAny_bind (wpAny_field (x := .ref g1.objs.size) e3 rfl (by simp [hz]) ?_)
 rw [if_pos (show (Value.ref g1.objs.size != Value.none) = true by simp)]
 have s3 : 3 < ([head, .ref L, .none, rawInt L, .none] ++ (if pl.isEmpty then List.replicate 6 Value.none else pl)).toArray.size := by simp only [List.size_toArray, List.length_append, List.length_cons, List.length_nil]; omega
 refine wpAny_setField hT3 dT s3 (h _ g1.objs.size (by rw [q1.1]; exact Nat.le_refl _) (fun b o hb hn q => ?_) (fun b o hb q => ?_) ?_)
 . have q2 : g1.get? b = some o := (q1.2.1 b hn).trans q
   rw [Heap.get?_update_other _ _ (Nat.ne_of_gt (Heap.lt_size q2)), Heap.get?_update_other _ _ (Ne.symm hb)]
   exact Heap.get?_push_of_some _ q2
 . obtain ⟨sl, q2⟩ := q1.2.2 b o q
   have hb' : b ≠ e := fun z => ene (z ▸ hb)
   refine ⟨sl, ?_⟩
   rw [Heap.get?_update_other _ _ (Nat.ne_of_gt (Heap.lt_size q2)), Heap.get?_update_other _ _ (Ne.symm hb')]
   exact Heap.get?_push_of_some _ q2
 . refine ⟨vs.setIfInBounds 1 (.ref g1.objs.size), _, _, ?_, ?_, hTe, Heap.get?_update_self _ hT3 (Obj.isFreed_of_fields (Obj.data_mapFields dT _)), Obj.data_mapFields dT _, ?_⟩
   . rw [Heap.get?_update_other _ _ hTe]
     exact e3
   . simp [hz]
   . rw [Array.getElem?_setIfInBounds_self]
     rw [if_pos s3]
     rfl
theorem leave_first {base : Heap} {env : Env} {outer : List Env} {L e C dx : Addr} {Q : Unit -> Shared -> Prop} (hfr : A.frames = some (env :: outer)) (hl : s.heap.FunFrames base (env :: outer)) (hf : env.frame = some L) (he : ExcIs e C (some dx) s.heap)
  (h : ∀ h' T, s.heap.objs.size <= T -> (∀ b o, b ≠ e -> b ∉ frs (env :: outer) -> s.heap.get? b = some o -> h'.get? b = some o) -> (∀ b o, b ∈ frs (env :: outer) -> s.heap.get? b = some o -> ∃ sl, h'.get? b = some { o with slots := sl }) -> Flown e T C dx h' -> Q () { s with heap := h' }) :
  wpAny M A (leaving env (.ref e)) Q E s := by
 obtain ⟨t, he⟩ := he
 unfold leaving noteFrame
 simp only [hf]
 refine wpAny_bind (wpAny_bind (wpAny_field (x := .none) he rfl rfl ?_))
 rw [if_neg (by decide)]
 exact entry_made hfr hl hf he (by simp) h
theorem note_next {base : Heap} {env : Env} {outer : List Env} {L e T C dx : Addr} {Q : Unit -> Shared -> Prop} (hfr : A.frames = some (env :: outer)) (hl : s.heap.FunFrames base (env :: outer)) (hf : env.frame = some L) (he : Flown e T C dx s.heap)
  (h : ∀ h' T', s.heap.objs.size <= T' -> (∀ b o, b ≠ e -> b ≠ T -> b ∉ frs (env :: outer) -> s.heap.get? b = some o -> h'.get? b = some o) -> (∀ b o, b ∈ frs (env :: outer) -> s.heap.get? b = some o -> ∃ sl, h'.get? b = some { o with slots := sl }) -> Flown e T' C dx h' -> Q () { s with heap := h' }) :
  wpAny M A (noteFrame (.ref e) env) (fun _ s' => wpAny M A (setFlight (.ref e) none) Q E s') E s := by
 obtain ⟨vs, oT, ts, he, h1, hTe, hT, hdT, h3⟩ := he
 have s1 : 1 < vs.size := (Array.getElem?_eq_some_iff.mp h1).1
 have s3 : 3 < ts.size := (Array.getElem?_eq_some_iff.mp h3).1
 unfold noteFrame
 simp only [hf]
 refine wpAny_bind (wpAny_field he rfl h1 ?_)
 rw [if_pos (show (Value.ref T != Value.none) = true by simp)]
 refine wpAny_bind (wpAny_field hT hdT h3 ?_)
 rw [if_neg (show ¬ ((Value.none == rawInt L) = true) by simp [rawInt])]
 refine wpAny_bind (wpAny_setField hT hdT s3 ?_)
 have oth : ∀ b, b ≠ T -> (s.heap.update T (Obj.mapFields (·.setIfInBounds 3 Value.none))).get? b = s.heap.get? b := fun b hb => Heap.get?_update_other _ _ (Ne.symm hb)
 have noT : T ∉ frs (env :: outer) := fun hm => by
  obtain ⟨_, o, ho, hnf⟩ := hl.mem hm
  rw [hT] at ho; injection ho with ho; subst ho; exact hnf ts hdT
 have noR : ∀ b o, s.heap.get? b = some o -> (∀ us, o.data ≠ .fields us) -> b ≠ T := fun b o q hnf z => by
  rw [z, hT] at q; injection q with q; subst q; exact hnf ts hdT
 have lt : T < s.heap.objs.size := Heap.lt_size hT
 refine entry_made (s := { s with heap := s.heap.update T (Obj.mapFields (·.setIfInBounds 3 Value.none)) }) hfr (hl.of_keeps fun b o q hnf => ⟨o, (oth b (noR b o q hnf)).trans q, rfl⟩) hf ((oth e (Ne.symm hTe)).trans he) s1
  fun h' T' hT' k1 k2 fl => h h' T' ?_ (fun b o hb hbT hn q => k1 b o hb hn ((oth b hbT).trans q)) (fun b o hb q => k2 b o hb ((oth b (fun z => noT (z ▸ hb))).trans q)) fl
 have e : (s.heap.update T (Obj.mapFields (·.setIfInBounds 3 Value.none))).objs.size = s.heap.objs.size := by simp [Heap.update]
 rw [<- e]
 exact hT'
end
end L2
namespace L2
open PySem PySem.Spec PyProof.Rows
section
variable {M : Model} {A : Around} {E : Value -> Shared -> Prop} {env : Env} {s : Shared}
variable {nm qn : Str} {C N : Addr} {bs tl : List Value} {hd : Bool} {sn : List Str} {sub : List Value} {ab : Bool} {col : Option Bool} {dd : Option Addr} {k0 k1 k2 k3 k5 : Option Value} {nid : String}
theorem raise_own {x : Sem Value} {Q : Flow -> Shared -> Prop} (hb : tl.contains (.type "BaseException") = true) (hh : A.handled = none)
  (h : wpAny M A x (fun v s1 => ∃ e dx, v = .ref e /\ s1.heap.get? C = some (excClassObj nm qn C N bs tl hd sn sub ab col dd k0 k1 k2 k3 k5 nid) /\ ExcIs e C dx s1.heap /\ E (.ref e) s1) E s) : wpAny M A (raiseStmt env (some x) none) Q E s := by
 have cB : (Value.ref C :: tl).contains (.type "BaseException") = true := by rw [List.contains_cons, hb, Bool.or_true]
 unfold raiseStmt
 refine wpAny_bind (wpAny_mono h (fun v s1 q => ?_) fun _ _ z => z)
 obtain ⟨e, dx, rfl, hC, ⟨t, he⟩, hE⟩ := q
 obtain ⟨hp, gs, dr, tk, os⟩ := s1
 repeat (first | with_reducible refine wpAny_loadPart_at he ?_ | with_reducible refine wpAny_loadPart_at hC ?_ | (with_reducible refine wpAny_isSubtype_exc hC ?_; rw [cB]) | wp_step)
 exact wpAny_raiseNew_none hh hE
end
section
variable {X : Cx} {C CS fi : Addr} {fld prm x : Str} {k : Nat} {fd : FuncData} {p pos cpos : Pos} {e : Expr} {t : TA}
end
end L2
namespace L2
open PySem PySem.Spec PyProof.Rows
theorem excAt_ok {P : Program} {w : World} {H : Hp} {h : Heap} {ea C dx : Addr} (x : ExcAt ea C dx h) : ObjOk P w H h ea (.ext (ExcAt ea C dx)) := ⟨x, let ⟨_, q⟩ := x; ⟨_, q⟩, fun _ _ y k => y.keep k⟩
theorem Flown.at {e T C dx : Addr} {h : Heap} (x : Flown e T C dx h) : ExcAt e C dx h := let ⟨vs, _, _, q, _⟩ := x; ⟨vs, q⟩
noncomputable def CX1 (P : Program) (w : World) : CXT := fun outer H s E e s' => ∃ ea T C dx H', e = .ref ea /\ s'.os = s.os /\ AllBare s'.gens /\ Un (frs outer) [] H H' s.heap s'.heap /\ HOk P w H' s'.heap /\ Flown ea T C dx s'.heap /\ H' ea = some (.ext (ExcAt ea C dx)) /\ H' T = none /\
 s.heap.objs.size <= T /\ E (.ref ea) none H'
section
variable {X : Cx} {pins : List (Addr × Obj)} {σ : St} {H : Hp} {s : Shared}
theorem Inv.flew {h' : Heap} {ea C dx : Addr} {o : HO} {ch : List Addr} (I : Inv X pins σ H s) (he : H ea = some o) (ho : (∀ xs, o ≠ .tup xs) /\ (∀ y, o ≠ .own y) /\ (∀ a u, o ≠ .frz a u) /\ ∀ ps, o ≠ .tbl ps) (hT : ∀ b ∈ ch, H b = none) (hTn : ∀ b ∈ ch, X.s₀.heap.objs.size <= b /\ b ≠ X.env.locals /\ (∀ x c, X.env.cells.lookup x = some c -> c ≠ b) /\ ∀ p ∈ X.pn ++ pins, p.1 ≠ b)
  (k1 : ∀ b o, b ≠ ea -> b ∉ ch -> b ∉ frs X.stack -> s.heap.get? b = some o -> h'.get? b = some o) (k2 : ∀ b o, b ∈ frs X.stack -> s.heap.get? b = some o -> ∃ sl, h'.get? b = some { o with slots := sl }) (hx : ExcAt ea C dx h') :
  Inv X pins σ (upd H ea (.ext (ExcAt ea C dx))) { s with heap := h' } := by
 have nea : ∀ b, H b = none -> b ≠ ea := fun b n z => by rw [z, he] at n; cases n
 have nst : ∀ b u, H b = some u -> b ∉ frs X.stack := fun b u q z => by rw [I.stkFree b z] at q; cases q
 have nT : ∀ b u, H b = some u -> b ∉ ch := fun b u q z => by rw [hT b z] at q; cases q
 refine I.call (s := s) (h' := h') (g' := s.gens) (t' := s.toks) (d' := s.drawn) (ch := ch) ⟨fun b o q n hb hc => ?_, fun b o q n hb hc => ?_, fun b o q n hc => ?_, fun b o q hc => ?_, fun b xs q => ?_, fun b o u q => ?_, fun b ps q => ?_⟩ (fun b u q => ?_) I.bare fun b hb => ?_
 . exact k1 b o (nea b n) hc hb q
 . exact k2 b o hb q
 . rw [upd_ne (nea b n)]; exact n
 . by_cases hb : b ∈ frs X.stack
   . obtain ⟨sl, z⟩ := k2 b o hb q
     exact ⟨_, z⟩
   . by_cases hbe : b = ea
     . subst hbe
       obtain ⟨vs, z⟩ := hx
       exact ⟨_, z⟩
     . exact ⟨_, k1 b o hbe hc hb q⟩
 . by_cases hb : b = ea
   . subst hb; rw [he] at q; cases q; exact absurd rfl (ho.1 xs)
   . rw [upd_ne hb]; exact q
 . by_cases hb : b = ea
   . subst hb; rw [he] at q; cases q; exact absurd rfl (ho.2.2.1 o u)
   . rw [upd_ne hb]; exact q
 . by_cases hb : b = ea
   . subst hb; rw [he] at q; cases q; exact absurd rfl (ho.2.2.2 ps)
   . rw [upd_ne hb]; exact ⟨#[], by rw [q]; simp⟩
 . by_cases hb : b = ea
   . subst hb
     rw [upd_same] at q
     cases q
     exact excAt_ok hx
   . rw [upd_ne hb] at q
     refine (I.hok b u q).stay (fun c v hc r => ?_) (fun c q2 => ?_) (fun c xs q2 => ?_)
     . rcases hc with rfl | hc
       . exact k1 c v hb (nT c u q) (nst c u q) r
       . have hce : c ≠ ea := fun z => by
           rw [z, he] at hc
           cases hc
           exact absurd rfl (ho.2.1 b)
         exact k1 c v hce (nT c _ hc) (nst c _ hc) r
     . have hce : c ≠ ea := fun z => by
         rw [z, he] at q2
         cases q2
         exact absurd rfl (ho.2.1 b)
       rw [upd_ne hce]; exact q2
     . have hce : c ≠ ea := fun z => by
         rw [z, he] at q2
         cases q2
         exact absurd rfl (ho.1 xs)
       rw [upd_ne hce]; exact q2
 . obtain ⟨a1, a2, a3, a4⟩ := hTn b hb
   exact ⟨.inr a1, a2, a3, a4⟩
theorem Inv.above (I : Inv X pins σ H s) {T : Addr} (h : s.heap.objs.size <= T) : X.s₀.heap.objs.size <= T /\ T ≠ X.env.locals /\ (∀ x c, X.env.cells.lookup x = some c -> c ≠ T) /\ ∀ p ∈ X.pn ++ pins, p.1 ≠ T := by
 refine ⟨Nat.le_trans I.sz h, fun z => ?_, fun x c e z => ?_, fun p hp z => ?_⟩
 . exact Nat.lt_irrefl _ (z ▸ Nat.lt_of_lt_of_le I.lt h)
 . obtain ⟨v, o, ho, _⟩ := I.cell x c e
   exact Nat.lt_irrefl _ (z ▸ Nat.lt_of_lt_of_le (Heap.lt_size ho) h)
 . exact Nat.lt_irrefl _ (z ▸ Nat.lt_of_lt_of_le (Heap.lt_size (I.pin p hp).1) h)
end
section
variable {P : Program} {w : World} {K : PySem.W.Frag} {mg : Str -> Option Value} {base : Heap} {N : List Str} {qual : Str} {scope : Scope} {f : Addr} {cd : Value} {A : Around} {outer : List Env} {s : Shared} {H : Hp} {E : XK}
theorem xe_leave {pins : List (Addr × Obj)} {σ : St} {H1 : Hp} {s1 : Shared} {ea C dx : Addr} (I : Inv (cxOf (CX1 P w) P w K mg base N qual scope f cd A outer s H E) pins σ H1 s1) (he : H1 ea = some (.ext (ExcIs ea C (some dx)))) (hE : E (.ref ea) none (upd H1 ea (.ext (ExcAt ea C dx)))) :
  (cxOf (CX1 P w) P w K mg base N qual scope f cd A outer s H E).xe (.ref ea) s1 := by
 have okE : ExcIs ea C (some dx) s1.heap := (I.hok ea _ he).1
 show wpAny (model P w) (A.deeper (envOfC qual scope s.heap.objs.size f cd)) (leaving (envOfC qual scope s.heap.objs.size f cd) (.ref ea)) _ _ s1
 refine leave_first (L := s.heap.objs.size) I.ok.frames I.stack rfl okE fun h' T hT k1 k2 fl => ?_
 have J := I.flew (h' := h') (ch := []) (dx := dx) he ⟨fun _ z => (by cases z), fun _ z => (by cases z), fun _ _ z => (by cases z), fun _ z => (by cases z)⟩ (fun b hb => absurd hb (by simp)) (fun b hb => absurd hb (by simp)) (fun b o hb _ hn q => k1 b o hb hn q) (fun b o hb q => k2 b o hb q) fl.at
 have hTa : upd H1 ea (.ext (ExcAt ea C dx)) T = none := by
  have n1 : H1 T = none := I.hok.fresh hT
  have n2 : T ≠ ea := fun z => by rw [z, he] at n1; cases n1
  rw [upd_ne n2]; exact n1
 exact ⟨ea, T, C, dx, _, rfl, J.os, J.bare, J.base, J.hok, fl, upd_same, hTa, Nat.le_trans I.sz hT, hE⟩
end
end L2
namespace L2
open PySem PySem.Spec PyProof.Rows
section
variable {X : Cx} {C CS fi : Addr} {fld prm x : Str} {k : Nat} {fd : FuncData} {p pos cpos : Pos} {e : Expr} {ta : TA} {Fl : Ds -> Option (List PyData)} {fr : Bool}
end
noncomputable def outX : Out -> Option (PV ⊕ PyData)
 | .ret pv => some (.inl pv)
 | .next _ => some (.inl (.dat .none))
 | .up x => some (.inr x)
 | _ => none
noncomputable def fnX (n N : Nat) (G : Ds -> Option Out) : List PyData -> Option (PV ⊕ PyData) := fun l => if l.length = n then (G (dats l ++ List.replicate (N - n) none)).bind outX else none
noncomputable def AnsOk (K : PySem.W.Frag) (O : List Addr) (H : Hp) (Q : VK) (E : XK) : PV ⊕ PyData -> Prop
 | .inl pv => ∀ v H', Same H H' -> RX K O [] H H' v pv -> Q v H'
 | .inr x => ∀ ea H', Same H H' -> Dt K (hid H' [] O) (.ref ea) x -> E (.ref ea) none H'
noncomputable def spX (K : PySem.W.Frag) (F : List PyData -> Option (PV ⊕ PyData)) : Sp := fun vs H Q E => ∃ (O : List Addr) (ds : List PyData) (a : PV ⊕ PyData), (∀ a ∈ O, ∃ u, H a = some u) /\ Dts K (hid H [] O) vs ds /\ F ds = some a /\ AnsOk K O H Q E a
section
variable {P : Program} {w : World} {K : PySem.W.Frag} {mg : Str -> Option Value} {base : Heap}
theorem Fun.okX {x qual : Str} {st : Stmt} {f : Addr} {fd : FuncData} {N ps : List Str} {k : Nat} {G : Ds -> Option Out} (F : Fun K x qual st f fd) (S : FnScope N ps (defScope st)) (hN : ps.length <= N.length)
  (hbody : ∀ (cdv : Value) (A : Around) (outer : List Env) (s : Shared) (H : Hp) (E : XK), Room k (A.deeper (envOfC qual (defScope st) s.heap.objs.size f cdv)) ->
   ∃ t, PSsX (cxOf (CX1 P w) P w K mg base N qual (defScope st) f cdv A outer s H E) (defBody st) t G) : FnOk P w K mg base (CX1 P w) (k + 1) f fd ps (spX K (fnX ps.length N.length G)) := by
 have ln : ∀ vs H Q E, spX K (fnX ps.length N.length G) vs H Q E -> vs.length = ps.length := fun vs H Q E h => by
  obtain ⟨O, ds, pv, h1, h2, h3, h4⟩ := h
  unfold fnX at h3
  split at h3
  . rename_i hl
    rw [h2.length]; exact hl
  . cases h3
 obtain ⟨oc, od, kV, doc, pm, an, cdv, ct, osl, rfl, lk, hcd⟩ := F.ex
 refine fn_of lk hcd S ln fun A outer s H vs Q E hr h => ?_
 obtain ⟨O, ds, a, h1, h2, h3, h4⟩ := h
 obtain ⟨t, ht⟩ := hbody cdv A outer s H E hr
 refine ⟨t, ht.p, ?_⟩
 unfold fnX at h3
 split at h3
 . rename_i hl
   rw [<- hl] at h3
   cases e1 : G (dats ds ++ List.replicate (N.length - ds.length) none) with
   | none => rw [e1] at h3; cases h3
   | some o =>
    rw [e1] at h3
    simp only [Option.bind_some] at h3
    refine ht.t O H _ (L2.start N vs) H _ _ o (DS.start h1 h2) e1 ?_
    cases o with
    | next ds' => cases h3; exact fun as σ H' S' => h4 _ H' S'.same Dt.non
    | ret pv' => cases h3; exact fun v H' s r => h4 v H' s r
    | brk ds' => cases h3
    | cont ds' => cases h3
    | up x =>
     cases h3
     intro ea H1 sm n0 ⟨C, dx, fld, v, d, hx, hC, hnf, q1, q2, q3, hd⟩ pins σ s1 I
     subst hx
     have hde : dx ≠ ea := fun z => by rw [z, q1] at q2; cases q2
     have eaO : ea ∉ O := fun z => by
      obtain ⟨u, z⟩ := h1 ea z
      rw [n0] at z; cases z
     refine xe_leave I q1 (h4 ea _ (fun b u z => ?_) (.exc hC hnf (hid_some.mpr ⟨eaO, by simp, upd_same⟩) (hid_some.mpr ⟨q3, by simp, by rw [upd_ne hde]; exact q2⟩) (hd.same (hid_le fun b u z1 z2 z3 => ⟨fun z => z1 (List.mem_cons_of_mem _ z), by simp, ?_⟩))))
     . rw [upd_ne (ne_of_none z n0)]; exact sm b u z
     . rw [upd_ne fun z => z1 (by rw [z]; exact List.mem_cons_self)]; exact z3
 . cases h3
end
end L2
namespace L2
open PySem PySem.Spec PyProof.Rows
noncomputable def Cx.marked (X : Cx) (ea : Addr) : Cx := { X with A := X.A.mark (some (.ref ea)), calm := false, xe := fun _ _ => False }
theorem Cx.Ok.marked {X : Cx} (ok : X.Ok) (ea : Addr) : (X.marked ea).Ok :=
 ⟨ok.mod, ok.kind, ok.glob, ok.blt, ok.above, ok.inj, ok.has, ok.cab, fun z => (by cases z), ok.frames, ok.stk, ok.exf, ok.bs, ok.bsz, ok.noex, ok.exfs, ok.funs, ok.frf⟩
section
variable {X : Cx} {pins : List (Addr × Obj)} {σ : St} {H : Hp} {s : Shared}
theorem Inv.marked (I : Inv X pins σ H s) (ea : Addr) : Inv (X.marked ea) pins σ H s := ⟨I.ok.marked ea, I.os, I.bare, I.base, I.loc, I.cell, I.free, I.freeC, I.pin, I.hok, I.len⟩
theorem Inv.unmarked {ea : Addr} (I : Inv (X.marked ea) pins σ H s) (ok : X.Ok) : Inv X pins σ H s := ⟨ok, I.os, I.bare, I.base, I.loc, I.cell, I.free, I.freeC, I.pin, I.hok, I.len⟩
theorem goes_ok {M : Model} {A : Around} {E : Value -> Shared -> Prop} {j : Nat} {n : Str} {pos : Pos} {Q : Unit -> Shared -> Prop} (I : Inv X pins σ H s) (hN : X.N.Nodup) (hj : X.N[j]? = some n) (hk : X.env.scope.names.lookup n = some .local)
  (h : ∀ s', Inv X pins (σ.set j none) H s' -> Q () s') : wpAny M A (do bindName X.env n .none; unbindBehindTheSuite X.env n pos) Q E s := by
 obtain ⟨m, hn, hl⟩ := id I.loc
 have hcls : (X.env.scope.kind == .class || (X.env.scope.kind == .module && X.env.locals != X.env.globals)) = false := by rw [I.ok.kind]; rfl
 have hiσ : j < σ.length := by rw [I.len]; exact (List.getElem?_eq_some_iff.mp hj).1
 have cne := I.cne
 refine wpAny_nameGoes_keeps hk hn hcls fun h' v hn' hs => ?_
 obtain ⟨oL, _, _, hoL, _⟩ := id hn
 have tracked : HOk X.prog X.w H h' := fun b ob e => by
  refine (I.hok b ob e).stay (fun c w' hc q => (hs.2 c ?_).trans q) (fun _ q => q) fun _ _ q => q
  rintro rfl
  rcases hc with rfl | hc
  . rw [I.free] at e; cases e
  . rw [I.free] at hc; cases hc
 refine h _ ⟨I.ok, I.os, I.bare, ⟨fun b o e n hb hx => ?_, fun b o e n hb hx => ?_, I.base.free, fun b o e hx => ?_, I.base.tups, I.base.frzs, I.base.tbls⟩, ⟨_, hn', fun i y v' e1 e2 e3 => ?_⟩, fun y c e => ?_, I.free, I.freeC, fun p hp => ?_, tracked, by simpa using I.len⟩
 . exact (hs.2 b (Nat.ne_of_lt (Nat.lt_of_lt_of_le (Heap.lt_size e) I.ok.above))).trans (I.base.keep b o e n hb hx)
 . obtain ⟨sl, e1⟩ := I.base.slot b o e n hb hx
   exact ⟨sl, (hs.2 b (Nat.ne_of_lt (Nat.lt_of_lt_of_le (Heap.lt_size e) I.ok.above))).trans e1⟩
 . obtain ⟨o', e1⟩ := I.base.there b o e hx
   exact ⟨o', (hs.2 b (Nat.ne_of_lt (Nat.lt_of_lt_of_le (Heap.lt_size e) I.ok.above))).trans e1⟩
 . by_cases hij : i = j
   . subst hij
     rw [List.getElem?_set_self hiσ] at e2
     cases e2
   . rw [List.getElem?_set_ne (Ne.symm hij)] at e2
     obtain ⟨u', r', q⟩ := hl i y v' e1 e2 e3
     refine ⟨u', r', ?_⟩
     rcases q with ⟨k, e⟩ | ⟨k, c, e, z⟩
     . refine .inl ⟨k, ?_⟩
       have : y ≠ n := fun e => hij (nodup_ix hN e1 (e ▸ hj))
       simp [this, e]
     . exact .inr ⟨k, c, e, z.sameBut hs (cne y c e)⟩
 . obtain ⟨w', z⟩ := I.cell y c e
   exact ⟨w', z.sameBut hs (cne y c e)⟩
 . obtain ⟨e, n, ne, nf, d⟩ := I.pin p hp
   exact ⟨(hs.2 p.1 ne).trans e, n, ne, nf, d⟩
end
noncomputable def dHand (j : Nat) (D : Ends) : Ends := { nx := fun σ H => D.nx (σ.set j none) H, rt := D.rt, bk := fun σ H => D.bk (σ.set j none) H, ct := fun σ H => D.ct (σ.set j none) H }
section
variable {X : Cx} {C CS fi : Addr} {fld : Str} {pins : List (Addr × Obj)} {σ : St} {H : Hp} {s s' : Shared} {E : XK} {D : Ends} {cn n : Str} {p3 p4 : Pos} {b₀ : Stmt} {suite : List Stmt} {tb : TS} {j : Nat} {e : Value}
theorem caught (hst : X.stack = X.env :: X.outer /\ X.env.frame = some X.env.locals) (T : ExcK X.K C CS fi fld) (hgc : Gl X cn) (hmc : X.mg cn = some (.ref C)) (hN : X.N.Nodup) (hj : X.N[j]? = some n) (hn : X.env.scope.names.lookup n = some .local)
  (hs : ∀ ea, PSs (X.marked ea) (b₀ :: suite) tb) (I0 : Inv X pins σ H s) (hq : CX1 X.prog X.w X.stack H s E e s')
  (hE : ∀ ev H', E ev none H' -> ∃ ea dx, ev = .ref ea /\ H' ea = some (.ext (ExcAt ea C dx)) /\ tb (dHand j D) (σ.set j (some (.ref ea))) H') (hdb : (cn == ("__debug__" : Str)) = false := by decide) :
  wpAny (model X.prog X.w) X.A (noteFrame e X.env) (fun _ s₂ => wpAny (model X.prog X.w) X.A (setFlight e none) (fun _ s₃ => wpAny (model X.prog X.w) X.A (handleBy e X.env [.ExceptHandler (some (.Name cn p3)) (some n) (b₀ :: suite) p4]) (SP X pins D) X.xe s₃) X.xe s₂) X.xe s' := by
 obtain ⟨ea, T1, C', dx, H', rfl, os, bare, un, hok, fl, h1, hT, hsz, hw⟩ := hq
 obtain ⟨ea', dx', ev, h2, ht⟩ := hE _ _ hw
 cases ev
 have I1 : Inv X pins σ H' s' := I0.call' (ch := []) os un hok bare fun b z => absurd z (by simp)
 have eC : C' = C := by
  obtain ⟨vs, q1⟩ := fl.at
  obtain ⟨vs', q2⟩ := (I1.hok ea _ h2).1
  rw [q1] at q2
  injection q2 with q2
  injection q2 with q2
  injection q2
 subst eC
 have hl := I1.stack
 have hfr := I1.ok.frames
 rw [hst.1] at hl hfr
 refine note_next hfr hl hst.2 fl fun h' T' hT' k1 k2 fl2 => ?_
 have a1 := I0.above hsz
 have I2 := I1.flew (h' := h') (ch := [T1]) (C := C') (dx := dx) h1 ⟨fun _ z => (by cases z), fun _ z => (by cases z), fun _ _ z => (by cases z), fun _ z => (by cases z)⟩ (fun b hb => by rw [List.mem_singleton.mp hb]; exact hT) (fun b hb => by rw [List.mem_singleton.mp hb]; exact a1)
  (fun b o hb hc hnf q => k1 b o hb (fun z => hc (by simp [z])) (by rw [<- hst.1]; exact hnf) q) (fun b o hb q => k2 b o (by rw [<- hst.1]; exact hb) q) fl2.at
 have e0 : upd H' ea (.ext (ExcAt ea C' dx)) = H' := by
  funext b
  by_cases hb : b = ea
  . subst hb; rw [upd_same, h1]
  . rw [upd_ne hb]
 rw [e0] at I2
 have I3 := I2.marked ea
 obtain ⟨nm, qn, N, bs, sn, sub, ab, col, dd, c0, c1, c2, c3, c5, hC, _, _⟩ := T.cls
 refine wpAny_handleBy_cons (codeAny_handlers_test (show wpAny (model (X.marked ea).prog (X.marked ea).w) (X.marked ea).A (eval (.Name cn p3) (X.marked ea).env) _ _ _ from ld_glob I3 hgc hmc ?_ hdb)) (by intro q; cases q)
 obtain ⟨vs, q1⟩ := fl2.at
 refine wpAny_excMatches_sub_self (I2.kIn _ _ hC) q1 rfl (by simp [valueMro]) ?_
 refine codeAny_handlers_suite_as ?_
 obtain ⟨us, oT, ts, g1, g2, g3, g4, g5, g6⟩ := fl2
 refine wpAny_setFlight_none g1 rfl g2 g4 g5 (Array.getElem?_eq_some_iff.mp g6).1 ?_
 have a2 := I1.above hT'
 have nT' : H' T' = none := I1.hok.fresh hT'
 have I4 := I3.turned (h' := h'.update T' (Obj.mapFields (·.setIfInBounds 3 .none))) (t' := s'.toks) (it := T') (fun b o hb q => by rw [Heap.get?_update_other _ _ (Ne.symm hb)]; exact q) nT' a2.2.1 (.inr a2.1) a2.2.2.1 a2.2.2.2
 refine store_ok (X := X.marked ea) I4 hN hj (.inl hn) (v := .ref ea) (u := .ref ea) rfl (fun s5 I5 => ?_) (.inr hn)
 refine wpAny_mono (hs ea pins s5 _ H' (dHand j D) I5 ht) (fun f s6 q => ?_) fun _ _ z => False.elim z
 have fin : ∀ {σ' : St} {H3 : Hp} {Q : Unit -> Shared -> Prop}, Inv (X.marked ea) pins σ' H3 s6 -> (∀ s7, Inv X pins (σ'.set j none) H3 s7 -> Q () s7) -> wpAny (model X.prog X.w) X.A (do bindName X.env n .none; unbindBehindTheSuite X.env n p4) Q X.xe s6 :=
  fun {σ' H3 Q} J k => goes_ok (J.unmarked I0.ok) hN hj hn k
 cases f with
 | next => obtain ⟨σ', H3, J, q⟩ := q; exact fin J fun s7 J7 => ⟨_, H3, J7, q⟩
 | brk => obtain ⟨σ', H3, J, q⟩ := q; exact fin J fun s7 J7 => ⟨_, H3, J7, q⟩
 | cont => obtain ⟨σ', H3, J, q⟩ := q; exact fin J fun s7 J7 => ⟨_, H3, J7, q⟩
 | ret u => obtain ⟨v, σ', H3, J, r, q⟩ := q; exact fin J fun s7 J7 => ⟨v, _, H3, J7, r, q⟩
end
end L2
namespace L2
open PySem PySem.Spec PyProof.Rows
noncomputable def tTry (C : Addr) (nx : Ends -> St -> VK) (j : Nat) (sp : Sp) (t : TA) (tb : TS) : TS := fun D σ H => t σ H fun vs H1 => sp vs H1 (fun v H2 => nx D σ v H2) (fun ev _ H2 => ∃ ea dx, ev = .ref ea /\ H2 ea = some (.ext (ExcAt ea C dx)) /\ tb (dHand j D) (σ.set j (some (.ref ea))) H2)
noncomputable def nxA (i : Nat) : Ends -> St -> VK := fun D σ v H => D.nx (σ.set i (some v)) H
section
variable {X : Cx} {C CS fi f : Addr} {fld x y cn n : Str} {fd : FuncData} {ps : List Str} {sp : Sp} {k i j : Nat} {e : Expr} {es : List Expr} {t : TA} {tb : TS} {p p1 p2 p3 p4 p5 pos : Pos} {b₀ : Stmt} {suite : List Stmt}
theorem ps_tryA (hst : X.stack = X.env :: X.outer /\ X.env.frame = some X.env.locals) (hnx : ∀ e s, ¬ X.xe e s) (F : FnOk X.prog X.w X.K X.mg X.base (CX1 X.prog X.w) k f fd ps sp) (hr : Room k X.A) (hg : Gl X x) (hm : X.mg x = some (.ref f)) (hk : PySem.W.keepIn X.K (.ref f) = true) (hb : Binds X.K fd ps [])
  (ha : PA X (e :: es) t) (T : ExcK X.K C CS fi fld) (hgc : Gl X cn) (hmc : X.mg cn = some (.ref C)) (hN : X.N.Nodup) (hi : X.N[i]? = some y) (hy : Loc X.env.scope y) (hj : X.N[j]? = some n) (hn : X.env.scope.names.lookup n = some .local) (hs : ∀ ea, PSs (X.marked ea) (b₀ :: suite) tb)
  (hdb : (x == ("__debug__" : Str)) = false := by decide) (hdc : (cn == ("__debug__" : Str)) = false := by decide) (he : starEach (e :: es) X.env = (false, eval e X.env) :: starEach es X.env := by rfl) (hpl : (backTo pos (starEach es X.env)).any (·.1) = false := by rfl)
  (hsw : swapsWith (.Call (.Name x p) (e :: es) [] pos) (some (.Name y p1)) p2.line X.env = pure false := by rfl) (hf : X.fn y = true \/ X.env.scope.names.lookup y = some .local := by first | exact .inl rfl | exact .inr rfl | assumption) :
  PS X (.Try [.Assign [.Name y p1] (.Call (.Name x p) (e :: es) [] pos) p2] [.ExceptHandler (some (.Name cn p3)) (some n) (b₀ :: suite) p4] [] [] p5) (tTry C (nxA i) j sp t tb) := by
 intro pins s σ H D I h
 refine wpAny_Try_except (wpAny_execs_cons (wpAny_Assign_Name (wpAny_Call_Name_kw (ld_glob I hg hm ?_ hdb)) hsw))
 refine PySem.W.callWith_K (h₀ := X.base) I.ok.mod.kin hk (wpAny_mono (ha pos pins s σ H _ I h) (fun us s1 ⟨vs, H1, I1, r, q⟩ => ⟨I1.kIn, ?_⟩) fun e s z => (hnx e s z).elim) he hpl
 have hl : us.length = ps.length := by rw [<- r.length]; exact F.len _ _ _ _ q
 have hbd := hb s1 us I1.kIn (by rw [List.append_nil]; exact hl)
 rw [List.append_nil] at hbd
 refine wpAny_call (codeAny_mono (F.run X.A X.stack s1 H1 ⟨us, []⟩ us vs _ _ hr I1.env0 hbd r q) fun r s' hq => ?_)
 cases r with
 | error e =>
  have hq' : CX1 X.prog X.w X.stack H1 s1 (fun ev _ H2 => ∃ ea dx, ev = .ref ea /\ H2 ea = some (.ext (ExcAt ea C dx)) /\ tb (dHand j D) (σ.set j (some (.ref ea))) H2) e s' := hq
  exact caught hst T hgc hmc hN hj hn hs I1 hq' (fun ev H' z => z) hdc
 | ok fl =>
  cases fl with
  | ret u =>
   obtain ⟨v, H2, I2, rv, q2⟩ := I1.after hq
   exact store_ok I2 hN hi hy rv (fun s3 I3 => wpAny_execs_nil (wpAny_execs_nil ⟨_, H2, I3, q2⟩)) hf
  | next => exact False.elim hq
  | brk => exact False.elim hq
  | cont => exact False.elim hq
end
noncomputable def isExc (C : Addr) : PyData -> Bool
 | .dict [(.tuple [.int n, .str _], _)] => n == ((C : Nat) : Int)
 | _ => false
noncomputable def unOut (j : Nat) : Out -> Option Out
 | .next ds => some (.next (ds.set j none))
 | .brk ds => some (.brk (ds.set j none))
 | .cont ds => some (.cont (ds.set j none))
 | .ret pv => some (.ret pv)
 | .up _ => none
noncomputable def gTryA (C : Addr) (i j : Nat) (FX : List PyData -> Option (PV ⊕ PyData)) (Fl : Ds -> Option (List PyData)) (Gb : Ds -> Option Out) : Ds -> Option Out := fun ds => (Fl ds).bind fun l => (FX l).bind fun a => match a with
 | .inl pv => some (.next (ds.set i (some (.dat pv.d))))
 | .inr x => if isExc C x = true then (Gb (ds.set j (some (.dat x)))).bind (unOut j) else none
theorem DS.unset {K : PySem.W.Frag} {O : List Addr} {H₀ H : Hp} {as : As} {σ : St} {ds : Ds} (S : DS K O H₀ as σ H ds) (i : Nat) : DS K O H₀ (as.set i none) (σ.set i none) H (ds.set i none) := by
 have sub : ∀ b, some b ∈ as.set i none -> some b ∈ as := fun b z => by
  rcases List.mem_or_eq_of_mem_set z with z | z
  . exact z
  . cases z
 refine ⟨by simp [S.ls], by simp [S.la], S.same, fun a h => S.new a (sub a h), S.dom, fun j k a h1 h2 => ?_, fun j pv hj => ?_⟩
 . have f : ∀ j, (as.set i none)[j]? = some (some a) -> as[j]? = some (some a) := fun j z => by
     rw [List.getElem?_set] at z
     split at z
     . split at z <;> cases z
     . exact z
   exact S.inj j k a (f j h1) (f k h2)
 . by_cases hij : i = j
   . subst hij
     rw [List.getElem?_set, if_pos rfl] at hj
     split at hj <;> cases hj
   . rw [List.getElem?_set_ne hij] at hj
     have sl := S.slot j pv hj
     rw [List.getElem?_set_ne hij, List.getElem?_set_ne hij]
     cases pv with
     | dat d => obtain ⟨v, e1, h⟩ := sl; exact ⟨v, e1, h.same (hid_sub (Same.refl _) sub)⟩
     | own l' => obtain ⟨a, xs, e1, e2, e3, h⟩ := sl; exact ⟨a, xs, e1, e2, e3, h.same (hid_sub (Same.refl _) sub)⟩
theorem Dt.isExc {K : PySem.W.Frag} {H : Hp} {C : Addr} {v : V} {x : PyData} (h : Dt K H v x) (e : isExc C x = true) : ∃ ea dx, v = .ref ea /\ H ea = some (.ext (ExcAt ea C dx)) := by
 cases h with
 | exc c nf h1 h2 t =>
  rename_i ea C' dx fld v d
  have e' : (((C' : Nat) : Int) == ((C : Nat) : Int)) = true := e
  have : C' = C := Int.ofNat.inj (beq_iff_eq.mp e')
  subst this
  exact ⟨ea, dx, rfl, h1⟩
 | _ => cases e
theorem EndsOk.hand {X : Cx} {O : List Addr} {H₀ : Hp} {D : Ends} {o o' : Out} {j : Nat} {ea : Addr} (h : EndsOk X O H₀ D o') (e : unOut j o = some o') : EndsOk (X.marked ea) O H₀ (dHand j D) o := by
 cases o with
 | next ds => cases e; exact fun as σ H S => h _ _ _ (S.unset j)
 | brk ds => cases e; exact fun as σ H S => h _ _ _ (S.unset j)
 | cont ds => cases e; exact fun as σ H S => h _ _ _ (S.unset j)
 | ret pv => cases e; exact fun v H s r => h v H s r
 | up x => cases e
section
variable {X : Cx} {C CS fi f : Addr} {fld x y cn n : Str} {fd : FuncData} {ps : List Str} {FX : List PyData -> Option (PV ⊕ PyData)} {k i j : Nat} {e : Expr} {es : List Expr} {t : TA} {tb : TS} {Fl : Ds -> Option (List PyData)} {Gb : Ds -> Option Out} {p p1 p2 p3 p4 p5 pos : Pos} {b₀ : Stmt} {suite : List Stmt}
theorem psx_tryA (hst : X.stack = X.env :: X.outer /\ X.env.frame = some X.env.locals) (hnx : ∀ e s, ¬ X.xe e s) (F : FnOk X.prog X.w X.K X.mg X.base (CX1 X.prog X.w) k f fd ps (spX X.K FX)) (hr : Room k X.A) (hg : Gl X x) (hm : X.mg x = some (.ref f)) (hk : PySem.W.keepIn X.K (.ref f) = true) (hb : Binds X.K fd ps [])
  (ha : PAX X true (e :: es) t Fl) (T : ExcK X.K C CS fi fld) (hgc : Gl X cn) (hmc : X.mg cn = some (.ref C)) (hN : X.N.Nodup) (hi : X.N[i]? = some y) (hy : Loc X.env.scope y) (hj : X.N[j]? = some n) (hn : X.env.scope.names.lookup n = some .local) (hs : ∀ ea, PSsX (X.marked ea) (b₀ :: suite) tb Gb)
  (hdb : (x == ("__debug__" : Str)) = false := by decide) (hdc : (cn == ("__debug__" : Str)) = false := by decide) (he : starEach (e :: es) X.env = (false, eval e X.env) :: starEach es X.env := by rfl) (hpl : (backTo pos (starEach es X.env)).any (·.1) = false := by rfl)
  (hsw : swapsWith (.Call (.Name x p) (e :: es) [] pos) (some (.Name y p1)) p2.line X.env = pure false := by rfl) (hf : X.fn y = true \/ X.env.scope.names.lookup y = some .local := by first | exact .inl rfl | exact .inr rfl | assumption) :
  PSX X (.Try [.Assign [.Name y p1] (.Call (.Name x p) (e :: es) [] pos) p2] [.ExceptHandler (some (.Name cn p3)) (some n) (b₀ :: suite) p4] [] [] p5) (tTry C (nxA i) j (spX X.K FX) t tb) (gTryA C i j FX Fl Gb) := by
 refine ⟨ps_tryA hst hnx F hr hg hm hk hb ha.p T hgc hmc hN hi hy hj hn (fun ea => (hs ea).p) hdb hdc he hpl hsw hf, ?_⟩
 intro O H₀ as σ H ds D o S hf q
 unfold gTryA at hf
 cases h1 : Fl ds with
 | none => rw [h1] at hf; cases hf
 | some l =>
  rw [h1] at hf
  simp only [Option.bind_some] at hf
  cases h2 : FX l with
  | none => rw [h2] at hf; cases hf
  | some a =>
   rw [h2] at hf
   simp only [Option.bind_some] at hf
   refine ha.t O H₀ as σ H ds l _ S h1 fun vs H1 e1 r1 => ?_
   have D1 := (S.grow e1).dm (fr := true)
   have hh : ∀ H, hid H (vis true as) O = hid H [] (O ++ (vis true as).filterMap id) := fun H => hid_as (bs := [])
   have hv : vis true as = as := rfl
   refine ⟨O ++ (vis true as).filterMap id, l, a, fun b hb => ?_, by rw [<- hh]; exact r1, h2, ?_⟩
   . rcases List.mem_append.mp hb with hb | hb
     . exact D1.o b hb
     . obtain ⟨x, hx, e⟩ := List.mem_filterMap.mp hb
       have e' : x = some b := e
       subst e'
       exact D1.a b hx
   . cases a with
     | inl pv =>
      cases hf
      intro v H2 e2 r2
      have r3 : RX X.K O (vis true as) H1 H2 v pv := by
       cases pv with
       | dat d =>
        have r2' : Dt X.K (hid H2 [] (O ++ (vis true as).filterMap id)) v d := r2
        rw [<- hh] at r2'
        exact r2'
       | own l =>
        obtain ⟨a, xs, e3, e4, e5, r3⟩ := r2
        refine ⟨a, xs, e3, e4, e5, ?_⟩
        rw [show (some a :: vis true as : As) = [some a] ++ vis true as from rfl, hid_as]
        exact r3
      exact q _ _ _ ((S.grow (e1.trans e2)).set i (r3.dt D1))
     | inr x =>
      have hf' : (if isExc C x = true then (Gb (ds.set j (some (.dat x)))).bind (unOut j) else none) = some o := hf
      intro ea H2 e2 r2
      by_cases hx : isExc C x = true
      . rw [if_pos hx] at hf'
        rw [<- hh] at r2
        obtain ⟨ea', dx, ev, hea⟩ := r2.isExc hx
        cases ev
        refine ⟨ea, dx, rfl, hid_all _ _ hea, ?_⟩
        cases h3 : Gb (ds.set j (some (.dat x))) with
        | none => rw [h3] at hf'; cases hf'
        | some o' =>
         rw [h3] at hf'
         simp only [Option.bind_some] at hf'
         exact (hs ea).t O H₀ _ _ H2 _ (dHand j D) o' ((S.grow (e1.trans e2)).set j r2) h3 (q.hand hf')
      . rw [if_neg hx] at hf'; cases hf'
end
end L2
namespace L2
open PySem PySem.Spec PyProof.Rows
theorem look_ns {h : Heap} {a : Addr} {m : Str -> Option Value} {x : Str} {u : Value} (N : h.Ns1 a m) (e : m x = some u) : ∃ o, h.get? a = some o /\ PySem.W.lookIn x o = some (some u) := by
 obtain ⟨o, es, ep, ho, hd, hk, hu, hm⟩ := N
 refine ⟨o, ho, ?_⟩
 unfold PySem.W.lookIn
 rw [hd]
 have z := hm x
 rw [e] at z
 unfold nsFind findBy at z
 rw [<- Array.find?_toList] at z
 cases q : es.toList.find? (·.key.isStr x) with
 | none => rw [q] at z; cases z
 | some d =>
  rw [q] at z
  have z' : some d.val = some u := z
  dsimp only
  rw [q]
  exact congrArg some z'
noncomputable def excField (fld : Str) : PyData -> Option PyData
 | .dict [(.tuple [.int _, .str f], d)] => if f = fld then some d else none
 | _ => none
noncomputable def fFld (fld : Str) (F : Ds -> Option PV) : Ds -> Option PV := fun ds => (F ds).bind fun x => (excField fld x.d).bind fun d => some (.dat d)
noncomputable def tExF (K : PySem.W.Frag) (fld : Str) (t : TE) : TE := fun σ H Q => t σ H fun x H1 => ∃ ea C dx v, x = .ref ea /\ ExcC K C /\ PySem.W.findIn K (.ref C) fld = some none /\ H1 ea = some (.ext (ExcAt ea C dx)) /\ H1 dx = some (.xd [(fld, v)]) /\ Q v H1
section
variable {X : Cx} {fr : Bool} {e c : Expr} {te : TE} {F : Ds -> Option PV} {fld x : Str} {p pos : Pos}
theorem pe_exF (he : PE X e te) (hb : attributeBase e fld X.env (eval e X.env) = eval e X.env := by rfl) : PE X (.Attribute e fld pos) (tExF X.K fld te) := by
 intro pins s σ H Q I h
 refine attr_of hb (thn (he pins s σ H _ I h) fun u s1 ⟨y, H1, I1, ry, ea, C, dx, v, ey, hC, hnf, h1, h2, q⟩ => ?_)
 subst ey
 obtain rfl : u = Value.ref ea := ry
 obtain ⟨vs, hx⟩ := (I1.hok ea _ h1).1
 obtain ⟨mA, N, r⟩ := I1.hok dx _ h2
 obtain ⟨w, hw, rw'⟩ := RelO.some_of (v := v) (o := mA fld) (by have := r fld; simpa [List.lookup] using this)
 obtain ⟨o, ho, hlk⟩ := look_ns N hw
 exact exc_attr hC I1.kIn (ox := _) (od := some o) ⟨hx, rfl, rfl, ho⟩ (PySem.W.findObj_own hC.hd hnf rfl hlk) (handed_of rw') ⟨v, H1, I1.tok _, rw', q⟩
theorem px_fld (he : PX X fr e te F) (hb : attributeBase e fld X.env (eval e X.env) = eval e X.env := by rfl) : PX X fr (.Attribute e fld pos) (tExF X.K fld te) (fFld fld F) := ⟨pe_exF he.p hb, by
 intro O H₀ as σ H ds pv Q S hf q
 unfold fFld at hf
 cases h1 : F ds with
 | none => rw [h1] at hf; cases hf
 | some w =>
  rw [h1] at hf
  simp only [Option.bind_some] at hf
  refine he.t O H₀ as σ H ds w _ S h1 fun v H1 e1 r1 => ?_
  have dt := r1.dt S.dm
  revert hf
  generalize w.d = d at dt
  intro hf
  cases dt with
  | exc cc nf g1 g2 t =>
   rename_i ea C dx f' v' d'
   have hf' : ((if f' = fld then some d' else none).bind fun d => some (PV.dat d)) = some pv := hf
   by_cases hff : f' = fld
   . subst hff
     rw [if_pos rfl] at hf'
     cases hf'
     exact ⟨ea, C, dx, v', rfl, cc, nf, hid_all _ _ g1, hid_all _ _ g2, q _ H1 e1 t⟩
   . rw [if_neg hff] at hf'; cases hf'
  | _ => cases hf⟩
theorem seqK_up (x : PyData) (G : Ds -> Option Out) : seqK (some (.up x)) G = some (.up x) := rfl
theorem isExc_self (C : Addr) (f : Str) (d : PyData) : isExc C (excD C f d) = true := beq_self_eq_true _
theorem excField_self (C : Addr) (f : Str) (d : PyData) : excField f (excD C f d) = some d := if_pos rfl
theorem isNone_exc (C : Addr) (f : Str) (d : PyData) : isNoneD (excD C f d) = false := rfl
noncomputable def fIsE (C : Addr) (b : Bool) (F : Ds -> Option PV) : Ds -> Option PV := fun ds => (F ds).bind fun x => if isExc C x.d = true then some (.dat (.bool b)) else if isNoneD x.d = true then some (.dat (.bool false)) else none
end
end L2
namespace L2
open PySem PySem.Spec PyProof.Rows
noncomputable def spInitP (P : V -> Prop) (C : Addr) (fld : Str) : Sp := fun vs H Q _ => ∃ ea v, vs = [.ref ea, v] /\ P v /\ H ea = some (.ext (ExcIs ea C none)) /\ ∀ dx, H dx = none -> dx ≠ ea -> Q .non (upd (upd H ea (.ext (ExcIs ea C (some dx)))) dx (.xd [(fld, v)]))
section
variable {X : Cx} {C CS fi : Addr} {fld prm x : Str} {k : Nat} {fd : FuncData} {P : V -> Prop} {p pos cpos : Pos} {e : Expr} {t : TA}
theorem run_excP {pins : List (Addr × Obj)} {σ : St} {H : Hp} {s : Shared} {Q : VK} {u : Value} {v : V} (T : ExcK X.K C CS fi fld) (F : FnOk X.prog X.w X.K X.mg X.base CX0 k fi fd ["self", prm] (spInitP P C fld)) (hr : Room (k + 1) X.A) (hb : Binds X.K fd ["self", prm] []) (hP : P v)
  (I : Inv X pins σ H s) (r : RelV v u) (h : ∀ ea dx, H ea = none -> H dx = none -> dx ≠ ea -> Q (.ref ea) (upd (upd H ea (.ext (ExcIs ea C (some dx)))) dx (.xd [(fld, v)]))) :
  wpAny (model X.prog X.w) X.A (call (.ref C) [u]) (EP X pins σ Q) X.xe s := by
 obtain ⟨nm, qn, N, bs, sn, sub, ab, col, dd, k0, k1, k2, k3, k5, hC, hok, hin⟩ := T.cls
 obtain ⟨oi, hoi, hfc⟩ := T.fn
 obtain ⟨hp, gs, dr, tk, os⟩ := s
 have nsN : hp.Ns N (hp.nsMap N) := .of_isNs (PySem.W.isNs_of_in I.kIn hok)
 refine call_init PySem.F.excBase_ValueError (PySem.W.tail_of_in I.kIn T.tail) (I.kIn _ _ hC) nsN (ns_at I.kIn nsN hin) (I.kIn _ _ hoi) hfc (by rw [sizeLine_eq]; simp) fun h' e hm => ?_
 obtain ⟨t, ht, _, _⟩ := hm.there
 obtain ⟨hH, I2⟩ := I.laidN (t' := tk) (D := e) (o := .ext (ExcIs e C none)) hm.keeps hm.new (excIs_ok ⟨t, ht⟩)
 have r2 : Vals [V.ref e, v] [Value.ref e, u] := .cons rfl (.cons r .nil)
 have sp : spInitP P C fld [.ref e, v] (upd H e (.ext (ExcIs e C none))) (fun y H2 => y = .non /\ Q (.ref e) H2) E0 := ⟨e, v, rfl, hP, upd_same, fun dx hdx hne => ⟨rfl, by
  rw [upd_upd]
  rw [upd_ne hne] at hdx
  exact h e dx hH hdx hne⟩⟩
 refine wpAny_call (codeAny_mono (F.run _ X.stack _ _ ⟨[.ref e, u], []⟩ [.ref e, u] _ _ E0 (hr.make C [u] []) (I2.env0.make C [u] []) (hb _ [.ref e, u] I2.kIn rfl) r2 sp) fun r s' hq' => ?_)
 cases r with
 | error e => exact hq'.elim
 | ok fl =>
  cases fl with
  | ret u' =>
   obtain ⟨y, H', I3, ry, ev, q3⟩ := I2.after hq'
   subst ev
   exact ⟨ry, ⟨V.ref e, H', I3, rfl, q3⟩⟩
  | next => exact False.elim hq'
  | brk => exact False.elim hq'
  | cont => exact False.elim hq'
noncomputable def tExcP (P : V -> Prop) (C : Addr) (fld : Str) (t : TA) : TE := fun σ H Q => t σ H fun vs H1 => ∃ v, vs = [v] /\ P v /\ ∀ ea dx, H1 ea = none -> H1 dx = none -> dx ≠ ea -> Q (.ref ea) (upd (upd H1 ea (.ext (ExcIs ea C (some dx)))) dx (.xd [(fld, v)]))
theorem pe_excP (T : ExcK X.K C CS fi fld) (F : FnOk X.prog X.w X.K X.mg X.base CX0 k fi fd ["self", prm] (spInitP P C fld)) (hr : Room (k + 1) X.A) (hb : Binds X.K fd ["self", prm] []) (hkp : PySem.W.keepIn X.K (.ref C) = true) (hg : Gl X x) (hm : X.mg x = some (.ref C)) (ha : PA X [e] t)
  (hdb : (x == ("__debug__" : Str)) = false := by decide) (he : starEach [e] X.env = (false, eval e X.env) :: starEach [] X.env := by rfl) (hpl : (backTo cpos (starEach [] X.env)).any (·.1) = false := by rfl) : PE X (.Call (.Name x p) [e] [] cpos) (tExcP P C fld t) := by
 intro pins s σ H Q I h
 refine wpAny_Call_Name_kw (ld_glob I hg hm ?_ hdb)
 refine PySem.W.callWith_K (h₀ := X.base) I.ok.mod.kin hkp (thn (ha cpos pins s σ H _ I h) fun us s1 ⟨vs, H1, I1, r, v, ev, hP, q⟩ => ⟨I1.kIn, ?_⟩) he hpl
 subst ev
 obtain ⟨u, rfl, ru⟩ := vals1 r
 exact run_excP T F hr hb hP I1 ru q
theorem ps_raiseP (T : ExcK X.K C CS fi fld) (W : Addr -> Addr -> V -> Hp -> Prop) (hc : X.A.handled = none) (he : PE X e (tExcP P C fld t))
  (hxe : ∀ pins σ H s ea dx v, Inv X pins σ H s -> H ea = some (.ext (ExcIs ea C (some dx))) -> H dx = some (.xd [(fld, v)]) -> W ea dx v H -> X.xe (.ref ea) s) :
  PS X (.Raise (some e) none pos) (fun _ σ H => tExcP P C fld t σ H fun y H2 => ∃ ea dx v, y = .ref ea /\ H2 ea = some (.ext (ExcIs ea C (some dx))) /\ H2 dx = some (.xd [(fld, v)]) /\ W ea dx v H2) := by
 intro pins s σ H D I h
 obtain ⟨nm, qn, N, bs, sn, sub, ab, col, dd, k0, k1, k2, k3, k5, hC, _, _⟩ := T.cls
 rw [arm_exec_Raise]
 refine wpAny_bind (wpAny_standAt (raise_own (C := C) (nm := nm) (qn := qn) (N := N) (bs := bs) (tl := .ref CS :: valueMro) (hd := true) (sn := sn) (sub := sub) (ab := ab) (col := col) (dd := dd) (k0 := k0) (k1 := k1) (k2 := k2) (k3 := k3) (k5 := k5) (nid := "ValueError.__new__") (by simp [valueMro]) hc ?_))
 refine wpAny_bind (thn (he pins s σ H _ I h) fun v s1 ⟨y, H1, I1, ry, ea, dx, v', ey, h1, h2, hw⟩ => wpAny_bind (wpAny_standAt (wpAny_pure ?_)))
 subst ey
 obtain rfl : v = Value.ref ea := ry
 exact ⟨ea, some dx, rfl, I1.kIn _ _ hC, (I1.hok ea _ h1).1, hxe pins σ H1 s1 ea dx v' I1 h1 h2 hw⟩
end
noncomputable def gUpP (pd : PyData -> Bool) (C : Addr) (fld : Str) (F : Ds -> Option (List PyData)) : Ds -> Option Out := fun ds => (F ds).bind fun l => match l with
 | [d] => if pd d = true then some (.up (excD C fld d)) else none
 | _ => none
section
variable {X : Cx} {C CS fi : Addr} {fld prm x : Str} {k : Nat} {fd : FuncData} {p pos cpos : Pos} {e : Expr} {ta : TA} {Fl : Ds -> Option (List PyData)} {fr : Bool} {P : V -> Prop} {pd : PyData -> Bool}
noncomputable def sRaiseP (P : V -> Prop) (X : Cx) (C : Addr) (fld : Str) (ta : TA) : TS := fun _ σ H => tExcP P C fld ta σ H fun y H2 => ∃ ea dx v, y = .ref ea /\ H2 ea = some (.ext (ExcIs ea C (some dx))) /\ H2 dx = some (.xd [(fld, v)]) /\ ∀ pins σ s, Inv X pins σ H2 s -> X.xe (.ref ea) s
theorem psx_raiseP (hPd : ∀ H v d, Dt X.K H v d -> pd d = true -> P v) (T : ExcK X.K C CS fi fld) (TC : ExcC X.K C) (F : FnOk X.prog X.w X.K X.mg X.base CX0 k fi fd ["self", prm] (spInitP P C fld)) (hr : Room (k + 1) X.A) (hb : Binds X.K fd ["self", prm] []) (hkp : PySem.W.keepIn X.K (.ref C) = true) (hc : X.A.handled = none) (hg : Gl X x) (hm : X.mg x = some (.ref C)) (ha : PAX X fr [e] ta Fl)
  (hdb : (x == ("__debug__" : Str)) = false := by decide) (he : starEach [e] X.env = (false, eval e X.env) :: starEach [] X.env := by rfl) (hpl : (backTo cpos (starEach [] X.env)).any (·.1) = false := by rfl) :
  PSX X (.Raise (some (.Call (.Name x p) [e] [] cpos)) none pos) (sRaiseP P X C fld ta) (gUpP pd C fld Fl) := by
 refine ⟨ps_raiseP T (fun ea dx v H2 => ∀ pins σ s, Inv X pins σ H2 s -> X.xe (.ref ea) s) hc (pe_excP T F hr hb hkp hg hm ha.p hdb he hpl) fun pins σ H s ea dx v I _ _ w => w pins σ s I, ?_⟩
 intro O H₀ as σ H ds D o S hf q
 unfold gUpP at hf
 cases h1 : Fl ds with
 | none => rw [h1] at hf; cases hf
 | some l =>
  rw [h1] at hf
  simp only [Option.bind_some] at hf
  split at hf
  . rename_i d
    split at hf
    . rename_i hpd
      cases hf
      refine ha.t O H₀ as σ H ds [d] _ S h1 fun vs H1 e1 r1 => ?_
      obtain ⟨v, rfl, hv⟩ := r1.inv1
      refine ⟨v, rfl, hPd _ _ _ hv hpd, fun ea dx n1 n2 hne => ⟨ea, dx, v, rfl, ?_, upd_same, ?_⟩⟩
      . rw [upd_ne (Ne.symm hne), upd_same]
      . have sm1 : Same H1 (upd (upd H1 ea (.ext (ExcIs ea C (some dx)))) dx (.xd [(fld, v)])) := fun b u z => by
          rw [upd_ne (ne_of_none z n2), upd_ne (ne_of_none z n1)]; exact z
        have sm0 : Same H₀ H1 := S.same.trans e1
        refine q ea _ (sm0.trans sm1) (sm0.free n1) ⟨C, dx, fld, v, d, rfl, TC, T.nof, by rw [upd_ne (Ne.symm hne), upd_same], upd_same, fun z => ?_, hv.same (hid_le fun b u z1 z2 z3 => ⟨fun z => ?_, by simp, sm1 b u z3⟩)⟩
        . obtain ⟨u, z⟩ := S.dom dx z
          rw [sm0.free n2] at z; cases z
        . rcases List.mem_cons.mp z with z | z
          . rw [z, n1] at z3; cases z3
          . exact z1 z
    . cases hf
  . cases hf
end
noncomputable def SmallV (v : V) : Prop := ∃ i : Int, v = .int i /\ i.natAbs.log2 < 1920
noncomputable def smallD : PyData -> Bool
 | .int i => decide (i.natAbs.log2 < 1920)
 | _ => false
theorem small_dt {K : PySem.W.Frag} (H : Hp) (v : V) (d : PyData) (h : Dt K H v d) (e : smallD d = true) : SmallV v := by
 cases h with
 | int i => exact ⟨_, rfl, of_decide_eq_true e⟩
 | _ => cases e
section
variable {X : Cx}
noncomputable def tFmt (i : Nat) : TE := fun σ H Q => ∃ n : Int, σ[i]? = some (some (.int n)) /\ n.natAbs.log2 < 1920 /\ ∀ x : Str, Q (.str x) H
end
section
variable {M : Model} {A : Around} {E : Value -> Shared -> Prop} {nm q nm2 qq2 : Str} {C N C2 N2 : Addr} {bs bm bs2 bm2 : List Value} {hdct hdct2 : Bool} {sn sn2 : List Str} {sub sub2 : List Value} {ab ab2 : Bool} {col col2 : Option Bool} {dd dd2 : Option Addr} {k0 k1 k2 k3 k5 l0 l1 l2 l3 l5 : Option Value} {newId newId2 : String}
end
section
variable {X : Cx} {C CS fi : Addr} {fld : Str} {pins : List (Addr × Obj)} {σ : St} {H : Hp} {s s' : Shared} {E : XK} {D : Ends} {cn n : Str} {p3 p4 : Pos} {b₀ : Stmt} {suite : List Stmt} {tb : TS} {j : Nat} {e : Value}
end
section
variable {X : Cx} {C CS fi f : Addr} {fld x y cn n : Str} {fd : FuncData} {ps : List Str} {sp : Sp} {k i j : Nat} {e : Expr} {es : List Expr} {t : TA} {tb : TS} {p p1 p2 p3 p4 p5 pos : Pos} {b₀ : Stmt} {suite : List Stmt}
end
noncomputable def gTryE (C : Addr) (j : Nat) (FX : List PyData -> Option (PV ⊕ PyData)) (Fl : Ds -> Option (List PyData)) (Gb : Ds -> Option Out) : Ds -> Option Out := fun ds => (Fl ds).bind fun l => (FX l).bind fun a => match a with
 | .inl _ => some (.next ds)
 | .inr x => if isExc C x = true then (Gb (ds.set j (some (.dat x)))).bind (unOut j) else none
section
variable {X : Cx} {C CS fi f : Addr} {fld x y cn n : Str} {fd : FuncData} {ps : List Str} {FX : List PyData -> Option (PV ⊕ PyData)} {k i j : Nat} {e : Expr} {es : List Expr} {t : TA} {tb : TS} {Fl : Ds -> Option (List PyData)} {Gb : Ds -> Option Out} {p p1 p2 p3 p4 p5 pos : Pos} {b₀ : Stmt} {suite : List Stmt}
end
end L2
namespace L2
open PySem PySem.Spec PyProof.Rows
section
variable {X : Cx} {fr : Bool} {x : Str} {p pos tpos : Pos} {e : Expr} {te : TE} {F : Ds -> Option PV}
end
end L2
namespace L2
open PySem PySem.Spec PyProof.Rows
section
variable {X : Cx}
theorem pe_fmt3 {a b : Str} {j j2 : Nat} {v : Expr} {p1 p2 p3 pos : Pos} (i : Nat) (hv : PE X v (tVar i)) (ha : a.length <= 1000) (hb : b.length <= 1000) : PE X (.JoinedStr [.Constant (.str a) j p1, .FormattedValue v (-1) none p2, .Constant (.str b) j2 p3] pos) (tFmt i) := by
 intro pins s σ H Q I h
 obtain ⟨n, hn, hs, q⟩ := h
 refine JoinedStr_many (joinParts_cons ?_)
 refine Calls.Constant_str ⟨?_, joinParts_cons ?_⟩
 . show (Str.empty ++ a).length <= sizeLine
   rw [strLen_append, sizeLine_eq]
   show 0 + a.length <= _
   omega
 . refine FormattedValue_plain (thn (hv pins _ σ H (fun x H1 => x = .int n /\ H1 = H) (I.tok _) ⟨_, hn, rfl, rfl⟩) fun u s1 ⟨x, H1, I1, r1, q1⟩ => ?_)
   obtain ⟨rfl, rfl⟩ := q1
   obtain ⟨t, rfl⟩ := r1
   have L : (Str.empty ++ a ++ Str.ofString (toString n)).length <= 10000 := by
    have e := int_text_length_le (k := 1920) (by decide) hs
    rw [strLen_append, strLen_append, PySem.ofString_length]
    have z : Str.empty.length = 0 := rfl
    omega
   have L2 : (Str.empty ++ a ++ Str.ofString (toString n) ++ b).length <= sizeLine := by
    rw [strLen_append, sizeLine_eq]
    omega
   refine formatField_int_small hs ⟨by rw [sizeLine_eq]; omega, joinParts_cons ?_⟩
   exact Calls.Constant_str ⟨L2, joinParts_nil ⟨.str _, H1, ((I1.tok _).tok _).tok _, ⟨_, rfl⟩, q _⟩ L2⟩
theorem px_fldK {K' : PySem.W.Frag} {fr : Bool} {e : Expr} {te : TE} {F : Ds -> Option PV} {fld : Str} {pos : Pos} (eK : X.K = K') (he : PX X fr e te F) (hb : attributeBase e fld X.env (eval e X.env) = eval e X.env := by rfl) : PX X fr (.Attribute e fld pos) (tExF K' fld te) (fFld fld F) := by
 subst eK
 exact px_fld he hb
end
end L2
namespace L2
open PySem PySem.Spec PyProof.Rows
section
variable {X : Cx}
theorem mt_starts : MtR X "str.startswith" (fun x xs H Q => ∃ z y, x = .str z /\ xs = [.str y] /\ Q (.bl (Txt.startswith z y)) H) := by
 intro pins s σ H x xs v us Q I rx rxs h
 obtain ⟨z, y, rfl, rfl, q⟩ := h
 obtain ⟨t, rfl⟩ := rx
 obtain ⟨u, rfl, t2, rfl⟩ := vals1 rxs
 exact SC.startswith ⟨.bl _, H, I, rfl, q⟩
theorem mt_zfill : MtR X "str.zfill" (fun x xs H Q => ∃ z i, x = .str z /\ xs = [.int i] /\ PadOk i = true /\ Q (.str (Txt.zfill z i)) H) := by
 intro pins s σ H x xs v us Q I rx rxs h
 obtain ⟨z, i, rfl, rfl, hp, q⟩ := h
 obtain ⟨t, rfl⟩ := rx
 obtain ⟨u, rfl, t2, rfl⟩ := vals1 rxs
 exact SC.zfill hp fun t' k => ⟨.str _, H, I.tok k, ⟨t', rfl⟩, q⟩
noncomputable def cutAtD (x y : Str) : List Str := match Builtin.Str.occurrences x y 0 x.length 1 with
 | i :: _ => [Builtin.Str.strSub x 0 i, y, Builtin.Str.strSub x (i + y.length) x.length]
 | [] => [x, Str.empty, Str.empty]
theorem mt_part : MtR X "str.partition" (fun x xs H Q => ∃ z y, x = .str z /\ xs = [.str y] /\ (y.length == 0) = false /\ z.length <= sizeLine /\ ∀ p, H p = none -> Q (.ref p) (upd H p (.tup ((cutAtD z y).map V.str)))) := by
 intro pins s σ H x xs v us Q I rx rxs h
 obtain ⟨z, y, rfl, rfl, hy, hz, q⟩ := h
 obtain ⟨t, rfl⟩ := rx
 obtain ⟨u, rfl, t2, rfl⟩ := vals1 rxs
 refine call_meets F.slot_str_partition (typeIs_str _ _ _) F.entry_str_partition (F.args_str_partition_2 _ _) (meets_str_partition z y t t2 hy hz) ?_
 have hf : H s.heap.objs.size = none := I.hok.fresh (Nat.le_refl _)
 have q' := q _ hf
 unfold cutAtD at q'
 cases ho : Builtin.Str.occurrences z y 0 z.length 1 with
 | nil =>
  rw [ho] at q'
  refine ⟨.ref s.heap.objs.size, _, I.laid (t' := s.toks + 1) (o := .tup [.str z, .str Str.empty, .str Str.empty]) (fun b ob q => Heap.get?_push_of_some _ q) (Nat.le_refl _) ?_, rfl, q'⟩
  exact ⟨(show 3 <= sizeLine by decide), _, .cons ⟨t, rfl⟩ (.cons ⟨_, rfl⟩ (.cons ⟨_, rfl⟩ .nil)), IsTup.new _ _⟩
 | cons i r =>
  rw [ho] at q'
  refine ⟨.ref s.heap.objs.size, _, I.laid (t' := s.toks + 1 + 1) (o := .tup [.str (Builtin.Str.strSub z 0 i), .str y, .str (Builtin.Str.strSub z (i + y.length) z.length)]) (fun b ob q => Heap.get?_push_of_some _ q) (Nat.le_refl _) ?_, rfl, q'⟩
  exact ⟨(show 3 <= sizeLine by decide), _, .cons ⟨_, rfl⟩ (.cons ⟨_, rfl⟩ (.cons ⟨_, rfl⟩ .nil)), IsTup.new _ _⟩
theorem vals_strs : ∀ {ts : List Str} {us : List Value}, Vals (ts.map V.str) us -> ∃ l : List (Str × Tok), us = strValues l /\ l.map (·.1) = ts
 | [], _, h => by cases h; exact ⟨[], rfl, rfl⟩
 | a :: r, _, h => by
  cases h with
  | cons h1 h2 =>
   obtain ⟨t, rfl⟩ := h1
   obtain ⟨l, rfl, e⟩ := vals_strs h2
   exact ⟨(a, t) :: l, rfl, by rw [List.map_cons, e]⟩
theorem mt_join : MtR X "str.join" (fun x xs H Q => ∃ z a ts, x = .str z /\ xs = [.ref a] /\ SqL X.K H a (ts.map V.str) /\ JoinOk z ts = true /\ Q (.str (Txt.join z ts)) H) := by
 intro pins s σ H x xs v us Q I rx rxs h
 obtain ⟨z, a, ts, rfl, rfl, hs, hok, q⟩ := h
 obtain ⟨t, rfl⟩ := rx
 obtain ⟨u, rfl, ru⟩ := vals1 rxs
 cases ru
 obtain ⟨its, r', pl, hz⟩ := I.list hs
 obtain ⟨l, e, hl⟩ := vals_strs r'
 have pl' := pl.isList
 rw [e] at pl'
 exact SC.join (l := l) pl' hl hok fun t' k => ⟨.str _, H, I.tok k, ⟨t', rfl⟩, q⟩
noncomputable def MNX (K : PySem.W.Frag) (r : V -> List V -> Hp -> VK -> Prop) (f : PyData -> List PyData -> Option PV) : Prop :=
 ∀ (O : List Addr) (va : As) (H : Hp) (z : Str) (xs : List V) (ds : List PyData) (pv : PV) (Q : VK), Dom H va O -> Dts K (hid H va O) xs ds -> f (.str z) ds = some pv -> (∀ w H', Same H H' -> RX K O va H H' w pv -> Q w H') -> r (.str z) xs H Q
variable {fr : Bool} {o e : Expr} {es : List Expr} {to : TE} {t : TA} {Fo : Ds -> Option PV} {Fl : Ds -> Option (List PyData)} {apos cpos : Pos} {name : Str} {id : String} {r : V -> List V -> Hp -> VK -> Prop} {f : PyData -> List PyData -> Option PV}
theorem px_sm (slot : Slot "str" name id) (hty : typeOf (.builtin id) = pure (.type "method_descriptor")) (hm : MtR X id r) (hr : MNX X.K r f) (hs0 : ∀ d l pv, f d l = some pv -> ∃ z, d = .str z) (ho : PX X fr o to Fo) (ha : PAX X fr (e :: es) t Fl)
  (hbase : attributeBase o name X.env (eval o X.env) = eval o X.env := by rfl)
  (hfew : ((backTo cpos (starEach (e :: es) X.env)).all (fun x => !x.1) && (backToKw cpos (keywordEach [] X.env)).all (fun x => x.1.isSome)
   && decide ((e :: es).length + ([] : List Keyword).length + (if ([] : List Keyword).isEmpty then 0 else 1) < 30)) = true := by rfl)
  (hline : (apos.endLine == cpos.line) = true := by rfl) (hs : starEach (e :: es) X.env = (false, eval e X.env) :: starEach es X.env := by rfl) (hplain : (backTo cpos (starEach es X.env)).any (·.1) = false := by rfl) :
  PX X fr (.Call (.Attribute o name apos) (e :: es) [] cpos) (tBM X.K "str" r to t) (fMeth f Fo Fl) :=
 ⟨pe_bm F.plainAttrs_str slot hty hm ho.p ha.p hbase hfew hline hs hplain, by
 intro O H₀ as σ H ds pv Q S hf q
 unfold fMeth at hf
 cases h1 : Fo ds with
 | none => rw [h1] at hf; cases hf
 | some x =>
  cases h2 : Fl ds with
  | none => rw [h1, h2] at hf; cases hf
  | some l =>
   rw [h1, h2] at hf
   simp only [Option.bind_some] at hf
   refine ho.t O H₀ as σ H ds x _ S h1 fun v H1 e1 r1 => ?_
   have d1 := r1.dt S.dm
   obtain ⟨z, ez⟩ := hs0 _ _ _ hf
   rw [ez] at hf d1
   cases d1
   refine ⟨rfl, ha.t O H₀ as σ H1 ds l _ (S.grow e1) h2 fun vs H2 e2 r2 => ?_⟩
   exact hr O (vis fr as) H2 z vs l pv Q ((S.grow e1).grow e2).dm r2 hf fun w H3 e3 r3 => q w H3 ((e1.trans e2).trans e3) (r3.back (e1.trans e2))⟩
noncomputable def startsD : PyData -> List PyData -> Option PV
 | .str z, [.str y] => some (.dat (.bool (Txt.startswith z y)))
 | _, _ => none
noncomputable def findD : PyData -> List PyData -> Option PV
 | .str z, [.str y] => some (.dat (.int (Txt.find z y)))
 | _, _ => none
noncomputable def zfillD : PyData -> List PyData -> Option PV
 | .str z, [.int i] => if PadOk i = true then some (.dat (.str (Txt.zfill z i))) else none
 | _, _ => none
noncomputable def partD : PyData -> List PyData -> Option PV
 | .str z, [.str y] => if (y.length == 0) = false /\ z.length <= 1000000 then some (.dat (.tuple ((cutAtD z y).map .str))) else none
 | _, _ => none
noncomputable def strsOf : List PyData -> Option (List Str)
 | [] => some []
 | .str z :: r => (strsOf r).bind fun l => some (z :: l)
 | _ => none
noncomputable def joinD : PyData -> List PyData -> Option PV
 | .str z, [.list l] => (strsOf l).bind fun ts => if JoinOk z ts = true then some (.dat (.str (Txt.join z ts))) else none
 | _, _ => none
theorem startsD_str {d : PyData} {l : List PyData} {pv : PV} (h : startsD d l = some pv) : ∃ z, d = .str z := by
 unfold startsD at h
 split at h
 . exact ⟨_, rfl⟩
 . cases h
theorem zfillD_str {d : PyData} {l : List PyData} {pv : PV} (h : zfillD d l = some pv) : ∃ z, d = .str z := by
 unfold zfillD at h
 split at h
 . exact ⟨_, rfl⟩
 . cases h
theorem partD_str {d : PyData} {l : List PyData} {pv : PV} (h : partD d l = some pv) : ∃ z, d = .str z := by
 unfold partD at h
 split at h
 . exact ⟨_, rfl⟩
 . cases h
theorem joinD_str {d : PyData} {l : List PyData} {pv : PV} (h : joinD d l = some pv) : ∃ z, d = .str z := by
 unfold joinD at h
 split at h
 . exact ⟨_, rfl⟩
 . cases h
theorem x_starts {K : PySem.W.Frag} : MNX K (fun x xs H Q => ∃ z y, x = .str z /\ xs = [.str y] /\ Q (.bl (Txt.startswith z y)) H) startsD := by
 intro O va H z xs ds pv Q D hx hf q
 unfold startsD at hf
 split at hf
 . rename_i z' y e
   cases e
   cases hf
   obtain ⟨x, rfl, h⟩ := hx.inv1
   cases h
   exact ⟨z, y, rfl, rfl, q _ H (Same.refl H) (Dt.bl _)⟩
 . cases hf
theorem x_zfill {K : PySem.W.Frag} : MNX K (fun x xs H Q => ∃ z i, x = .str z /\ xs = [.int i] /\ PadOk i = true /\ Q (.str (Txt.zfill z i)) H) zfillD := by
 intro O va H z xs ds pv Q D hx hf q
 unfold zfillD at hf
 split at hf
 . rename_i z' i e
   cases e
   split at hf
   . rename_i hp
     cases hf
     obtain ⟨x, rfl, h⟩ := hx.inv1
     cases h
     exact ⟨z, i, rfl, rfl, hp, q _ H (Same.refl H) (Dt.str _)⟩
   . cases hf
 . cases hf
theorem dts_strs {K : PySem.W.Frag} {H : Hp} : ∀ l : List Str, Dts K H (l.map V.str) (l.map .str)
 | [] => .nil
 | a :: r => .cons (.str a) (dts_strs r)
theorem x_part {K : PySem.W.Frag} : MNX K (fun x xs H Q => ∃ z y, x = .str z /\ xs = [.str y] /\ (y.length == 0) = false /\ z.length <= sizeLine /\ ∀ p, H p = none -> Q (.ref p) (upd H p (.tup ((cutAtD z y).map V.str)))) partD := by
 intro O va H z xs ds pv Q D hx hf q
 unfold partD at hf
 split at hf
 . rename_i z' y e
   cases e
   split at hf
   . rename_i hp
     cases hf
     obtain ⟨x, rfl, h⟩ := hx.inv1
     cases h
     exact ⟨z, y, rfl, rfl, hp.1, Nat.le_trans hp.2 (by decide), fun p hp => q _ _ (Same.new hp) (rx_tup D hp (dts_strs _))⟩
   . cases hf
 . cases hf
theorem Dts.strs {K : PySem.W.Frag} {H : Hp} : ∀ {l : List PyData} {xs : List V} {ts : List Str}, Dts K H xs l -> strsOf l = some ts -> xs = ts.map V.str
 | [], _, _, .nil, e => by cases e; rfl
 | d :: r, _, ts, .cons (x := x) h t, e => by
  cases h with
  | str z =>
   have e' : ((strsOf r).bind fun l => some (z :: l)) = some ts := e
   cases h2 : strsOf r with
   | none => rw [h2] at e'; cases e'
   | some js =>
    rw [h2] at e'
    cases e'
    rw [t.strs h2]
    rfl
  | _ => cases e
theorem x_join {K : PySem.W.Frag} : MNX K (fun x xs H Q => ∃ z a ts, x = .str z /\ xs = [.ref a] /\ SqL K H a (ts.map V.str) /\ JoinOk z ts = true /\ Q (.str (Txt.join z ts)) H) joinD := by
 intro O va H z xs ds pv Q D hx hf q
 unfold joinD at hf
 split at hf
 . rename_i z' l e
   cases e
   cases h1 : strsOf l with
   | none => rw [h1] at hf; cases hf
   | some ts =>
    rw [h1] at hf
    simp only [Option.bind_some] at hf
    split at hf
    . rename_i hp
      cases hf
      obtain ⟨x, rfl, h⟩ := hx.inv1
      cases h with
      | lst hs ht =>
       have ex := ht.strs h1
       subst ex
       exact ⟨z, _, ts, rfl, rfl, hid_all.seq hs, hp, q _ H (Same.refl H) (Dt.str _)⟩
    . cases hf
 . cases hf
end
end L2
namespace L2
open PySem PySem.Spec PyProof.Rows
noncomputable def Its (x : Str) : It := ⟨fun i _ => i < x.cps.size, fun i H v H' => H' = H /\ ∃ c, x.cps[i]? = some c /\ v = .str ⟨#[c]⟩, fun i _ => x.cps.size <= i⟩
theorem turn_str {P : Program} {w : World} {K : PySem.W.Frag} {tg : Expr} (x : Str) (t : Tok) (it : Addr) : Turn P w K tg (Its x) [it] it (fun i h => h.IsStrIter it (strIterType x) x t i) where
 mem := by simp
 obj := fun i h st b hb => by
  have e : b = it := by simpa using hb
  subst e
  obtain ⟨o, e, c, d⟩ := st
  exact ⟨o, e, fun v z => by rw [d] at z; cases z⟩
 keep := fun i h h' st k => by
  obtain ⟨o, e, r⟩ := st
  exact ⟨o, k it (by simp) o e, r⟩
 item := by
  intro X hP hw hK hc i pins s σ H E I hf st hg
  subst hP hw hK
  obtain ⟨f0, f1, f2, f3, f4, f5⟩ := hf it (by simp)
  have hg' : i < x.cps.size := hg
  have hx : x.cps[i]? = some x.cps[i] := Array.getElem?_eq_getElem hg'
  have fin : ∀ h', h'.IsStrIter it (strIterType x) x t (i + 1) -> Heap.SameBut it s.heap h' -> ∃ u, some (Value.str ⟨#[x.cps[i]]⟩ s.toks) = some u /\ wpAny (model X.prog X.w) X.A (letOwnedTupleGo tg (.ref it) u) (fun _ s2 => ∃ y H', Inv X pins σ H' s2 /\ RelV y u /\ (Its x).yld i H y H' /\ s2.heap.IsStrIter it (strIterType x) x t (i + 1) /\ ∀ b ∈ [it], H' b = none) E { s with heap := h', toks := s.toks + 1 } := fun h' st' sb => by
   have I1 : Inv X pins σ H { s with heap := h', toks := s.toks + 1 } := I.turned (fun b o hb e => (sb.2 b hb).trans e) f0 f1 f3 f4 f5
   obtain ⟨o, e, c, d⟩ := id st'
   refine ⟨_, rfl, go_of (n := strIterType x) (s := { s with heap := h', toks := s.toks + 1 }) e c d (by unfold strIterType; split <;> decide) ⟨.str ⟨#[x.cps[i]]⟩, H, I1, ⟨_, rfl⟩, ⟨rfl, _, hx, rfl⟩, st', fun b hb => (hf b hb).1⟩⟩
  cases ha : x.cps.all (· < 128) with
  | true =>
   have et : strIterType x = "str_ascii_iterator" := by unfold strIterType; rw [if_pos ha]
   rw [et] at st fin
   exact wpAny_pyNext_ascii_item st hx fun h' st' sb => by rw [et]; exact fin h' st' sb
  | false =>
   have et : strIterType x = "str_iterator" := by unfold strIterType; rw [if_neg (by rw [ha]; decide)]
   rw [et] at st fin
   exact wpAny_pyNext_wide_item st hx fun h' st' sb => by rw [et]; exact fin h' st' sb
 done := by
  intro X hP hw hK hc i pins s σ H E I hf st hg
  subst hP hw hK
  obtain ⟨f0, f1, f2, f3, f4, f5⟩ := hf it (by simp)
  have hx : x.cps[i]? = none := Array.getElem?_eq_none hg
  cases ha : x.cps.all (· < 128) with
  | true =>
   have et : strIterType x = "str_ascii_iterator" := by unfold strIterType; rw [if_pos ha]
   rw [et] at st
   exact wpAny_pyNext_ascii_end (I.ok.hd hc) st hx fun h' eb => ⟨rfl, I.turned (t' := s.toks) (fun b o hb e => eb b o hb e) f0 f1 f3 f4 f5⟩
  | false =>
   have et : strIterType x = "str_iterator" := by unfold strIterType; rw [if_neg (by rw [ha]; decide)]
   rw [et] at st
   exact wpAny_pyNext_wide_end (I.ok.hd hc) st hx fun h' eb => ⟨rfl, I.turned (t' := s.toks) (fun b o hb e => eb b o hb e) f0 f1 f3 f4 f5⟩
 self := fun A i s Q E st h => by
  cases ha : x.cps.all (· < 128) with
  | true =>
   have et : strIterType x = "str_ascii_iterator" := by unfold strIterType; rw [if_pos ha]
   rw [et] at st
   exact wpAny_pyIter_striter_ascii st h
  | false =>
   have et : strIterType x = "str_iterator" := by unfold strIterType; rw [if_neg (by rw [ha]; decide)]
   rw [et] at st
   exact wpAny_pyIter_striter_wide st h
section
variable {X : Cx} {fr : Bool} {tg e : Expr} {te : TE} {F : Ds -> Option PV}
noncomputable def signs (z : Str) : List PyData := z.cps.toList.map fun c => .str ⟨#[c]⟩
end
section
variable {X : Cx}
theorem part_of {v : Value} {k : Option Int} (h : IsPart v k) : ∃ l : Option (Int × Tok), v = partValue l /\ l.map (·.1) = k := by
 cases h with
 | none => exact ⟨none, rfl, rfl⟩
 | int i t => exact ⟨some (i, t), rfl, rfl⟩
noncomputable def rSlS : V -> Option Int -> Option Int -> Hp -> VK -> Prop := fun x lo hi H Q => ∃ z, x = .str z /\ z.length <= sizeLine /\ Q (.str (Txt.slice z lo hi)) H
theorem sl_str : SlR X rSlS := by
 intro pins s σ H x v vl vu lo hi sl Q I rx hs pl pu h
 obtain ⟨z, rfl, hz, q⟩ := h
 obtain ⟨t, rfl⟩ := rx
 obtain ⟨l, rfl, el⟩ := part_of pl
 obtain ⟨u, rfl, eu⟩ := part_of pu
 refine ⟨"str", _, F.slot_str_getitem.lookup, typeIs_str _ _ _, ?_⟩
 subst el eu
 exact wpAny_getItem_str_slice (l := l) (u := u) (st := none) hs rfl (post_val_or_str ⟨Nat.le_trans (Txt.slice_le z _ _) hz, fun t' k => ⟨.str _, H, I.tok k, ⟨t', rfl⟩, q⟩⟩)
noncomputable def rSlA (K : PySem.W.Frag) : V -> Option Int -> Option Int -> Hp -> VK -> Prop := fun x lo hi H Q => rSl K x lo hi H Q \/ rSlS x lo hi H Q
theorem sl_any : SlR X (rSlA X.K) := sl_seq.or sl_str
noncomputable def slAD : PyData -> Option Int -> Option Int -> Option PV
 | .str z, lo, hi => if z.length <= 1000000 then some (.dat (.str (Txt.slice z lo hi))) else none
 | d, lo, hi => slD d lo hi
theorem x_slA {K : PySem.W.Frag} : R3X K (rSlA K) slAD := by
 intro O va H x lo hi d pv Q D hx hf q
 unfold slAD at hf
 split at hf
 . split at hf
   . rename_i z hz
     cases hf
     cases hx
     exact .inr ⟨z, rfl, Nat.le_trans hz (by decide), q _ H (Same.refl H) (Dt.str _)⟩
   . cases hf
 . exact .inl (x_sl O va H x lo hi d pv Q D hx hf q)
end
end L2
namespace L2
open PySem PySem.Spec PyProof.Rows
section
variable {X : Cx}
noncomputable def rIntS : List V -> Hp -> VK -> Prop := fun xs H Q => ∃ z n, xs = [.str z] /\ PySem.intText? z = some n /\ z.length <= 640 /\ Q (.int n) H
theorem call_intS : CallR X (.type "int") rIntS := by
 intro pins s σ H xs us Q I r h
 obtain ⟨z, n, rfl, hn, hl, q⟩ := h
 obtain ⟨u, rfl, t, rfl⟩ := vals1 r
 exact PySem.W.KIN.call_text hn hl ⟨.int n, H, I.tok _, ⟨_, rfl⟩, q⟩
noncomputable def intSD : List PyData -> Option PV
 | [.str z] => if z.length <= 640 then (PySem.intText? z).bind fun n => some (.dat (.int n)) else none
 | _ => none
theorem x_intS {K : PySem.W.Frag} : RNX K rIntS intSD := by
 intro O va H xs ds pv Q D hx hf q
 unfold intSD at hf
 split at hf
 . rename_i z
   split at hf
   . rename_i hl
     cases hn : PySem.intText? z with
     | none => rw [hn] at hf; cases hf
     | some n =>
      rw [hn] at hf
      cases hf
      obtain ⟨x, rfl, h⟩ := hx.inv1
      cases h
      exact ⟨z, n, rfl, hn, hl, q _ H (Same.refl H) (Dt.int _)⟩
   . cases hf
 . cases hf
noncomputable def rInS (neg : Bool) : R2 := fun x y H Q => ∃ i j, x = .str i /\ y = .str j /\ Q (.bl (if neg then !Txt.contains j i else Txt.contains j i)) H
theorem op_inS : OpR X (compareOp .In) (rInS false) := fun pins s σ H x y v u Q I rx ry h => op_in_str pins s σ H x y v u Q I rx ry h
theorem op_notInS : OpR X (compareOp .NotIn) (rInS true) := fun pins s σ H x y v u Q I rx ry h => op_notIn_str pins s σ H x y v u Q I rx ry h
noncomputable def inSD : PyData -> PyData -> Option PV
 | .str i, .str j => some (.dat (.bool (Txt.contains j i)))
 | _, _ => none
noncomputable def notInSD : PyData -> PyData -> Option PV
 | .str i, .str j => some (.dat (.bool (!Txt.contains j i)))
 | _, _ => none
theorem x_inS {K : PySem.W.Frag} : R2X K (rInS false) inSD := by
 intro O va H x y d e pv Q D hx hy hf q
 unfold inSD at hf
 split at hf
 . cases hf
   cases hx
   cases hy
   exact ⟨_, _, rfl, rfl, q _ H (Same.refl H) (Dt.bl _)⟩
 . cases hf
theorem x_notInS {K : PySem.W.Frag} : R2X K (rInS true) notInSD := by
 intro O va H x y d e pv Q D hx hy hf q
 unfold notInSD at hf
 split at hf
 . cases hf
   cases hx
   cases hy
   exact ⟨_, _, rfl, rfl, q _ H (Same.refl H) (Dt.bl _)⟩
 . cases hf
end
end L2
namespace L2
open PySem PySem.Spec PyProof.Rows
theorem isNone_str (z : Str) : isNoneD (.str z) = false := rfl
noncomputable def or2 (f g : PyData -> PyData -> Option PV) : PyData -> PyData -> Option PV := fun d e => match f d e with
 | some pv => some pv
 | none => g d e
noncomputable def or1 (f g : List PyData -> Option PV) : List PyData -> Option PV := fun l => match f l with
 | some pv => some pv
 | none => g l
theorem R2X.or {K : PySem.W.Frag} {r r' : R2} {f g : PyData -> PyData -> Option PV} (h : R2X K r f) (h' : R2X K r' g) : R2X K (fun x y H Q => r x y H Q \/ r' x y H Q) (or2 f g) := by
 intro O va H x y d e pv Q D hx hy hf q
 unfold or2 at hf
 split at hf
 . rename_i pv' he
   cases hf
   exact .inl (h O va H x y d e pv Q D hx hy he q)
 . exact .inr (h' O va H x y d e pv Q D hx hy hf q)
theorem RNX.or {K : PySem.W.Frag} {r r' : List V -> Hp -> VK -> Prop} {f g : List PyData -> Option PV} (h : RNX K r f) (h' : RNX K r' g) : RNX K (fun xs H Q => r xs H Q \/ r' xs H Q) (or1 f g) := by
 intro O va H xs ds pv Q D hx hf q
 unfold or1 at hf
 split at hf
 . rename_i pv' he
   cases hf
   exact .inl (h O va H xs ds pv Q D hx he q)
 . exact .inr (h' O va H xs ds pv Q D hx hf q)
noncomputable def rInA (K : PySem.W.Frag) (neg : Bool) : R2 := fun x y H Q => rIn K neg x y H Q \/ rInS neg x y H Q
theorem op_inA {X : Cx} : OpR X (compareOp .In) (rInA X.K false) := op_in_seq.or op_inS
theorem op_notInA {X : Cx} : OpR X (compareOp .NotIn) (rInA X.K true) := op_notIn_seq.or op_notInS
theorem x_inA {K : PySem.W.Frag} : R2X K (rInA K false) (or2 inD inSD) := x_in.or x_inS
theorem x_notInA {K : PySem.W.Frag} : R2X K (rInA K true) (or2 notInD notInSD) := x_notIn.or x_notInS
noncomputable def iAny (K : PySem.W.Frag) (tl : TE) : TI := fun σ H R => tl σ H fun x H1 => (∃ a, x = .ref a /\ (((∃ xs, SqL K H1 a xs) /\ R (Itl K a) H1) \/ ((∃ xs, SqT K H1 a xs) /\ R (Itt K a) H1))) \/ ∃ z, x = .str z /\ R (Its z) H1
section
variable {X : Cx} {fr : Bool} {tg e : Expr} {te : TE} {F : Ds -> Option PV}
theorem pi_any (hl : PE X e te) : PI X tg e (iAny X.K te) := by
 intro pins s σ H R I h
 have hw := hl pins s σ H _ I h
 refine thn hw fun v s1 ⟨y, H1, I1, r1, q1⟩ => ?_
 rcases q1 with q1 | ⟨z, rfl, q⟩
 . obtain ⟨a, rfl, (⟨⟨xs, hq⟩, q⟩ | ⟨⟨xs, hq⟩, q⟩)⟩ := q1
   . cases r1
     obtain ⟨its, rv, p, hz⟩ := I1.list hq
     refine wpAny_pyIter_list p.isList ?_
     refine ⟨s1.heap.objs.size, [s1.heap.objs.size], _, _, H1, rfl, I1.kept (t' := s1.toks) fun b o e => Heap.get?_push_of_some _ e, turn_list a _, ⟨_, Heap.get?_push_size _ rfl, rfl, rfl⟩, fun b hb => ?_, q⟩
     have e : b = s1.heap.objs.size := by simpa using hb
     subst e
     exact I1.fpOk (Nat.le_refl _) (I1.hok.fresh (Nat.le_refl _))
   . cases r1
     obtain ⟨its, rv, p, hz⟩ := I1.tuple hq
     refine wpAny_pyIter_tuple (show s1.heap.IsTuple a its.toArray from p) ?_
     refine ⟨s1.heap.objs.size, [s1.heap.objs.size], _, _, H1, rfl, I1.kept (t' := s1.toks) fun b o e => Heap.get?_push_of_some _ e, turn_tuple a _, ⟨_, Heap.get?_push_size _ rfl, rfl, rfl⟩, fun b hb => ?_, q⟩
     have e : b = s1.heap.objs.size := by simpa using hb
     subst e
     exact I1.fpOk (Nat.le_refl _) (I1.hok.fresh (Nat.le_refl _))
 . obtain ⟨t, rfl⟩ := r1
   refine wpAny_pyIter_strU ?_
   refine ⟨s1.heap.objs.size, [s1.heap.objs.size], _, _, H1, rfl, I1.kept (t' := s1.toks) fun b o e => Heap.get?_push_of_some _ e, turn_str z t _, ⟨_, Heap.get?_push_size _ rfl, rfl, rfl⟩, fun b hb => ?_, q⟩
   have e : b = s1.heap.objs.size := by simpa using hb
   subst e
   exact I1.fpOk (Nat.le_refl _) (I1.hok.fresh (Nat.le_refl _))
noncomputable def walkOf : PyData -> Option (List PyData)
 | .str z => some (signs z)
 | d => seqOf d
noncomputable def iWk (F : Ds -> Option PV) : Ds -> Option (List PyData) := fun ds => (F ds).bind fun pv => walkOf pv.d
theorem pix_any (h : PX X fr e te F) : PIX X fr tg e (iAny X.K te) (iWk F) := ⟨pi_any h.p, by
 intro O H₀ as σ H ds items R S hf q
 unfold iWk at hf
 cases h1 : F ds with
 | none => rw [h1] at hf; cases hf
 | some pv =>
  rw [h1] at hf
  simp only [Option.bind_some] at hf
  by_cases hs : ∃ z, pv.d = .str z
  . obtain ⟨z, ez⟩ := hs
    rw [ez] at hf
    cases hf
    refine h.t O H₀ as σ H ds pv _ S h1 fun v H1 e1 r1 => ?_
    have d := r1.dt S.dm
    rw [ez] at d
    cases d
    have hl : (signs z).length = z.cps.size := by simp [signs]
    refine .inr ⟨z, rfl, q _ H1 e1 fun H' e' i => ?_⟩
    refine ⟨fun hi => (show i < z.cps.size by omega), fun hi => (show z.cps.size <= i by omega), fun x H'' y hi => ?_⟩
    obtain ⟨e3, c, hc, ev⟩ := y
    subst e3 ev
    refine ⟨Same.refl _, .str ⟨#[c]⟩, ?_, fun vb hv _ => .str _⟩
    unfold signs
    rw [List.getElem?_map, Array.getElem?_toList, hc]
    rfl
  . have hf' : seqOf pv.d = some items := by
      revert hf hs
      generalize pv.d = d
      intro hf hs
      cases d <;> first | exact hf | exact absurd ⟨_, rfl⟩ hs
    refine h.t O H₀ as σ H ds pv _ S h1 fun v H1 e1 r1 => .inl ?_
    have d := r1.dt S.dm
    generalize pv.d = z at d hf'
    cases d with
    | lst hs ht =>
     rename_i a xs l
     cases hf'
     have hl := ht.length
     refine ⟨a, rfl, .inl ⟨⟨xs, hid_all.seq hs⟩, q _ H1 e1 fun H' e' i => ?_⟩⟩
     have hs' : SqL X.K H' a xs := e'.seq (hid_O.seq hs)
     refine ⟨fun hi => ⟨xs, xs[i]'(by omega), hs', List.getElem?_eq_getElem _⟩, fun hi => ⟨xs, hs', by omega⟩, fun x H'' y hi => ?_⟩
     obtain ⟨e3, y⟩ := y
     subst e3
     obtain ⟨d, ed, dd⟩ := ht.get' (y xs hs')
     exact ⟨Same.refl _, d, ed, fun vb hv _ => it_seq dd e' (Same.refl _) hv⟩
    | tup hs ht =>
     rename_i a xs l
     cases hf'
     have hl := ht.length
     refine ⟨a, rfl, .inr ⟨⟨xs, hid_all.seqT hs⟩, q _ H1 e1 fun H' e' i => ?_⟩⟩
     have hs' : SqT X.K H' a xs := e'.seqT (hid_O.seqT hs)
     refine ⟨fun hi => ⟨xs, xs[i]'(by omega), hs', List.getElem?_eq_getElem _⟩, fun hi => ⟨xs, hs', by omega⟩, fun x H'' y hi => ?_⟩
     obtain ⟨e3, y⟩ := y
     subst e3
     obtain ⟨d, ed, dd⟩ := ht.get' (y xs hs')
     exact ⟨Same.refl _, d, ed, fun vb hv _ => it_seq dd e' (Same.refl _) hv⟩
    | _ => cases hf'⟩
end
end L2
namespace L2
open PySem PySem.Spec PyProof.Rows PySem.NumText
noncomputable abbrev lz (z : Str) : List Nat := z.cps.toList
theorem str_ext {x y : Str} (h : lz x = lz y) : x = y := by
 obtain ⟨a⟩ := x
 obtain ⟨b⟩ := y
 have : a = b := Array.toList_inj.mp h
 rw [this]
theorem lz_app (x y : Str) : lz (x ++ y) = lz x ++ lz y := by
 show (x.cps ++ y.cps).toList = _
 simp
theorem lz_len (x : Str) : x.length = (lz x).length := by simp [Str.length]
theorem lz_mk (l : List Nat) : lz ⟨l.toArray⟩ = l := by simp
theorem lz_one (c : Nat) : lz ⟨#[c]⟩ = [c] := rfl
noncomputable def numL (n : Nat) : List Nat := (Nat.toDigits 10 n).map Char.toNat
noncomputable def intL (i : Int) : List Nat := if i < 0 then 45 :: numL i.natAbs else numL i.natAbs
theorem lz_nat (n : Nat) : lz (Str.ofString (toString (n : Int))) = numL n := PySem.W.KIN.signs_num n
theorem lz_int (i : Int) : lz (Str.ofString (toString i)) = intL i := by
 unfold intL
 split
 . rename_i h
   obtain ⟨n, rfl⟩ : ∃ n : Nat, i = Int.negSucc n := by
    cases i with
    | ofNat n => exact absurd h (by simp)
    | negSucc n => exact ⟨n, rfl⟩
   rw [show lz (Str.ofString (toString (Int.negSucc n))) = (toString (Int.negSucc n)).toList.map Char.toNat from signs_ofString _]
   have e : toString (Int.negSucc n) = "-" ++ Nat.repr (n + 1) := rfl
   rw [e, String.toList_append, List.map_append, Nat.toList_repr]
   rfl
 . rename_i h
   obtain ⟨n, rfl⟩ := Int.eq_ofNat_of_zero_le (show 0 <= i by omega)
   exact lz_nat n
theorem digit_le {c : Char} (h : c.isDigit = true) : 48 <= c.toNat /\ c.toNat <= 57 := by
 unfold Char.isDigit at h
 rw [Bool.and_eq_true] at h
 have h1 := of_decide_eq_true h.1
 have h2 := of_decide_eq_true h.2
 exact ⟨by simpa using UInt32.le_iff_toNat_le.mp h1, by simpa using UInt32.le_iff_toNat_le.mp h2⟩
theorem numL_digits (n : Nat) : AllDigits (numL n) := by
 intro c hc
 obtain ⟨ch, hch, e⟩ := List.mem_map.mp hc
 rw [<- e]
 exact digit_le (Nat.isDigit_of_mem_toDigits (by decide) (by decide) hch)
theorem numL_val (n : Nat) : digitsVal (numL n) = n := PySem.W.KIN.val_back n
theorem numL_len {n k : Nat} (hk : 0 < k) : (numL n).length <= k ↔ n < 10 ^ k := by
 unfold numL
 rw [List.length_map]
 exact Nat.length_toDigits_le_iff (by decide) hk
theorem numL_ne (n : Nat) : numL n ≠ [] := fun h => by
 have h1 := numL_val n
 rw [h] at h1
 have h2 : n = 0 := h1.symm
 subst h2
 exact absurd h (by decide)
noncomputable def Plain (cs : List Nat) : Prop := AllDigits cs /\ cs ≠ [] /\ (cs.head? ≠ some 48 \/ cs = [48])
theorem numL_plain (n : Nat) : Plain (numL n) := by
 refine ⟨numL_digits n, numL_ne n, ?_⟩
 by_cases h0 : n = 0
 . subst h0; exact .inr rfl
 . refine .inl fun hz => ?_
   cases e : numL n with
   | nil => exact numL_ne n e
   | cons c r =>
    rw [e] at hz
    have hc : c = 48 := by simpa using hz
    subst hc
    have hv := numL_val n
    have hd := numL_digits n
    rw [e] at hv hd
    have h2 : digitsVal r = n := hv
    have hl := (numL_len (n := n) (k := r.length) (by
     cases r with
     | nil => exact absurd h2.symm (by simpa [digitsVal] using h0)
     | cons _ _ => exact Nat.succ_pos _))
    have hlt : digitsVal r < 10 ^ r.length := by
     have key : ∀ (l : List Nat) (a : Nat), AllDigits l -> l.foldl (fun acc c => acc * 10 + (c - 48)) a < (a + 1) * 10 ^ l.length := by
      intro l
      induction l with
      | nil => intro a _; simp
      | cons d l ih =>
       intro a hl
       have hd := hl.head
       have := ih (a * 10 + (d - 48)) hl.tail
       rw [List.foldl_cons]
       refine Nat.lt_of_lt_of_le this ?_
       rw [List.length_cons, Nat.pow_succ, Nat.mul_comm (10 ^ l.length) 10, <- Nat.mul_assoc]
       exact Nat.mul_le_mul_right _ (by omega)
     have := key r 0 hd.tail
     simpa [digitsVal] using this
    have h3 := hl.mpr (by rw [<- h2]; exact hlt)
    rw [e, List.length_cons] at h3
    omega
end L2
namespace L2
open PySem PySem.Spec PyProof.Rows PySem.NumText PySem.StrLaws
open Builtin.Str (occurrences strSub subAt strSliceIndices)
theorem slice_core (x : Str) {a b : Nat} (hab : a <= b) (hb : b <= x.length) {l u : Option Int} (e : strSliceIndices l u 1 x.length = strSliceIndices (some (a : Int)) (some (b : Int)) 1 x.length) : lz (Txt.slice x l u) = ((lz x).drop a).take (b - a) := by
 unfold Txt.slice
 rw [e]
 split
 . rename_i h
   have hl : (strSliceIndices (some (a : Int)) (some (b : Int)) 1 x.length).length = x.length := by simpa using h
   rw [strSliceIndices_plain hab hb, List.length_map, List.length_range] at hl
   have ha : a = 0 := by omega
   have hb' : b = (lz x).length := by rw [<- lz_len]; omega
   subst ha
   rw [List.drop_zero, Nat.sub_zero, hb', List.take_length]
 . rw [sliced_plain x hab hb, lz_mk]
theorem lz_from (x : Str) (i : Nat) : lz (Txt.slice x (some (i : Int)) none) = (lz x).drop i := by
 have e : strSliceIndices (some (i : Int)) none 1 x.length = strSliceIndices (some ((min i x.length : Nat) : Int)) (some (x.length : Int)) 1 x.length := by
  unfold strSliceIndices
  have h1 : ¬ ((i : Int) < 0) := by omega
  have h2 : ¬ ((x.length : Int) < 0) := by omega
  have h3 : ¬ (((min i x.length : Nat) : Int) < 0) := by omega
  simp only [h1, h2, h3, if_false, show ((1 : Int) > 0) = True from by simp, if_true]
  congr 1
  . omega
  . omega
 rw [slice_core x (Nat.min_le_right _ _) (Nat.le_refl _) e]
 have hl := lz_len x
 rw [List.take_of_length_le (by rw [List.length_drop]; omega)]
 by_cases h : i <= x.length
 . rw [Nat.min_eq_left h]
 . rw [Nat.min_eq_right (by omega), List.drop_of_length_le (by omega), List.drop_of_length_le (by omega)]
theorem starts_one (x : Str) (c : Nat) : Txt.startswith x ⟨#[c]⟩ = decide ((lz x).head? = some c) := by
 have h := subAt_one x c 0
 rw [<- List.head?_eq_getElem?] at h
 unfold Txt.startswith
 by_cases hc : (lz x).head? = some c
 . obtain ⟨h1, h2⟩ := h.mpr hc
   rw [h2, decide_eq_true h1, decide_eq_true hc]
   rfl
 . rw [decide_eq_false hc]
   cases h2 : subAt x ⟨#[c]⟩ 0 with
   | false => rw [Bool.and_false]
   | true =>
    have : ¬ (0 + (⟨#[c]⟩ : Str).length <= x.length) := fun h1 => hc (h.mp ⟨h1, h2⟩)
    rw [decide_eq_false this]
    rfl
theorem occ_stays (s sub : Str) (hi : Nat) : ∀ (l : List Nat) (st : Array Nat × Nat), 1 <= st.fst.size -> (forIn l st (occBody s sub hi 1)).run.fst = st.fst
 | [], st, h => rfl
 | a :: l, st, h => by
  rw [List.forIn_cons]
  unfold occBody
  rw [if_neg (by intro z; have := z.1.1.1; omega)]
  exact occ_stays s sub hi l (st.fst, st.snd) h
theorem occ_first (x : Str) (c : Nat) : ∀ (n a free : Nat), free <= a -> (forIn (List.range' a n) ((#[] : Array Nat), free) (occBody x ⟨#[c]⟩ x.length 1)).run.fst.toList = (((List.range' a n).find? fun i => decide ((lz x)[i]? = some c)).toList)
 | 0, a, free, _ => rfl
 | n + 1, a, free, hf => by
  rw [List.range'_succ, List.forIn_cons, List.find?_cons]
  have h := subAt_one x c a
  by_cases hc : (lz x)[a]? = some c
  . obtain ⟨h1, h2⟩ := h.mpr hc
    have e : occBody x ⟨#[c]⟩ x.length 1 a ((#[] : Array Nat), free) = pure (ForInStep.yield ((#[] : Array Nat).push a, a + (⟨#[c]⟩ : Str).length)) := by
     unfold occBody
     rw [if_pos ⟨⟨⟨by simp, hf⟩, h1⟩, h2⟩]
    rw [e, decide_eq_true hc]
    have := occ_stays x ⟨#[c]⟩ x.length (List.range' (a + 1) n) ((#[] : Array Nat).push a, a + (⟨#[c]⟩ : Str).length) (by simp)
    show (forIn (List.range' (a + 1) n) ((#[] : Array Nat).push a, a + (⟨#[c]⟩ : Str).length) (occBody x ⟨#[c]⟩ x.length 1)).run.fst.toList = _
    rw [this]
    rfl
  . have e : occBody x ⟨#[c]⟩ x.length 1 a ((#[] : Array Nat), free) = pure (ForInStep.yield ((#[] : Array Nat), free)) := by
      unfold occBody
      rw [if_neg (fun z => hc (h.mp ⟨z.1.2, z.2⟩))]
    rw [e, decide_eq_false hc]
    exact occ_first x c n (a + 1) free (by omega)
theorem find_range {cs : List Nat} {c : Nat} : ∀ (n a : Nat), (List.range' a n).find? (fun i => decide (cs[i]? = some c)) = (if c ∈ (cs.drop a).take n then some (a + ((cs.drop a).idxOf c)) else none)
 | 0, a => by simp
 | n + 1, a => by
  rw [List.range'_succ, List.find?_cons]
  cases hd : cs.drop a with
  | nil =>
   have hl : cs.length <= a := List.drop_eq_nil_iff.mp hd
   have h0 : cs[a]? = none := List.getElem?_eq_none hl
   rw [h0, decide_eq_false (by simp), find_range n (a + 1)]
   rw [List.drop_of_length_le (by omega)]
   simp
  | cons d r =>
   have h0 : cs[a]? = some d := by
    have := List.getElem?_drop (xs := cs) (i := a) (j := 0)
    rw [hd] at this
    simpa using this.symm
   have hr : cs.drop (a + 1) = r := by
    have : cs.drop (a + 1) = (cs.drop a).drop 1 := by rw [List.drop_drop]
    rw [this, hd]; rfl
   rw [h0]
   by_cases hc : d = c
   . subst hc
     rw [decide_eq_true rfl]
     simp
   . rw [decide_eq_false (by simpa using hc), find_range n (a + 1), hr]
     have e1 : (c ∈ (d :: r).take (n + 1)) ↔ c ∈ r.take n := by
      rw [List.take_succ_cons, List.mem_cons]
      constructor
      . rintro (z | z)
        . exact absurd z.symm hc
        . exact z
      . exact .inr
     by_cases hm : c ∈ r.take n
     . rw [if_pos hm, if_pos (e1.mpr hm), List.idxOf_cons, beq_eq_false_iff_ne.mpr hc, cond_false]
       show some _ = some _
       congr 1
       omega
     . rw [if_neg hm, if_neg (fun z => hm (e1.mp z))]
theorem occ_one (x : Str) (c : Nat) : occurrences x ⟨#[c]⟩ 0 x.length 1 = if c ∈ lz x then [(lz x).idxOf c] else [] := by
 rw [occ_eq, occ_first x c _ 0 0 (Nat.le_refl _), find_range]
 have hl := lz_len x
 rw [List.drop_zero, List.take_of_length_le (by omega), Nat.zero_add]
 split <;> rfl
theorem lz_sub (x : Str) (i j : Nat) : lz (strSub x i j) = ((lz x).drop i).take (j - i) := by
 show (x.cps.extract i j).toList = _
 rw [Array.toList_extract]
theorem cut_one (x : Str) (c : Nat) : (cutAtD x ⟨#[c]⟩).map lz = if c ∈ lz x then [(lz x).take ((lz x).idxOf c), [c], (lz x).drop ((lz x).idxOf c + 1)] else [lz x, [], []] := by
 unfold cutAtD
 rw [occ_one]
 have hl := lz_len x
 by_cases h : c ∈ lz x
 . rw [if_pos h, if_pos h]
   show [lz (strSub x 0 _), lz ⟨#[c]⟩, lz (strSub x (_ + (⟨#[c]⟩ : Str).length) x.length)] = _
   rw [lz_sub, lz_sub, lz_one, List.drop_zero, Nat.sub_zero]
   have e : (⟨#[c]⟩ : Str).length = 1 := rfl
   rw [e, List.take_of_length_le (l := (lz x).drop _) (by rw [List.length_drop]; omega)]
 . rw [if_neg h, if_neg h]
   rfl
theorem contains_one (x : Str) (c : Nat) : Txt.contains x ⟨#[c]⟩ = decide (c ∈ lz x) := found_one x c
end L2
namespace L2
open PySem PySem.Spec PyProof.Rows
section
variable {X : Cx}
theorem relv_strs : ∀ l : List (Str × Tok), Vals ((l.map (·.1)).map V.str) (strValues l)
 | [] => .nil
 | (a, t) :: r => .cons ⟨t, rfl⟩ (relv_strs r)
theorem split_size (z y : Str) (hz : z.length <= 100000) : (Txt.split z y).length <= 100002 := by
 unfold Txt.split
 split
 . simp
 . split
   . simp
   . have e1 := StrLaws.occ_length_le z y 0 z.length (z.length + 1)
     rw [length_partsBetween]; omega
theorem mt_split : MtR X "str.split" (fun x xs H Q => ∃ z y, x = .str z /\ xs = [.str y] /\ (y.length == 0) = false /\ z.length <= 100000 /\ ∀ p, H p = none -> Q (.ref p) (upd H p (.lst ((Txt.split z y).map V.str)))) := by
 intro pins s σ H x xs v us Q I rx rxs h
 obtain ⟨z, y, rfl, rfl, hy, hz, q⟩ := h
 obtain ⟨t, rfl⟩ := rx
 obtain ⟨u, rfl, t2, rfl⟩ := vals1 rxs
 have hf : H s.heap.objs.size = none := I.hok.fresh (Nat.le_refl _)
 have q' := q _ hf
 have hs := split_size z y hz
 have hl : 100002 <= sizeLine := by decide
 have fin : ∀ (l : List (Str × Tok)) (k : Nat), l.map (·.1) = Txt.split z y -> EP X pins σ Q (.ref s.heap.objs.size) { s with toks := k, heap := s.heap.push { cls := .type "list", data := .seq (strValues l).toArray } } := fun l k e => by
  rw [<- e] at q' hs
  refine ⟨.ref s.heap.objs.size, _, I.laid (t' := k) (o := .lst ((l.map (·.1)).map V.str)) (fun b ob q => Heap.get?_push_of_some _ q) (Nat.le_refl _) ?_, rfl, q'⟩
  exact ⟨by rw [List.length_map]; omega, _, 0, relv_strs l, Heap.get?_push_size _ rfl⟩
 have hn : (Builtin.Str.partsBetween z (Builtin.Str.occurrences z y 0 z.length (z.length + 1)) y.length).length <= sizeLine := by
  have e1 := StrLaws.occ_length_le z y 0 z.length (z.length + 1)
  rw [length_partsBetween]; omega
 cases h1 : (decide (z.length < y.length) || decide (Builtin.Str.strKind z < Builtin.Str.strKind y))
 . cases hff : (Builtin.Str.occurrences z y 0 z.length (z.length + 1)).isEmpty
   . refine call_meets F.slot_str_split (typeIs_str _ _ _) F.entry_str_split (F.args_str_split_2 _ _) (meets_str_split_sep z y t t2 h1 hy hff (by omega) hn) ?_
     show EP X pins σ Q _ { s with toks := _, heap := s.heap.push { cls := .type "list", data := .seq (strsFrom s.toks (Builtin.Str.partsBetween z (Builtin.Str.occurrences z y 0 z.length (z.length + 1)) y.length)).toArray } }
     rw [strsFrom_eq]
     exact fin (numbered s.toks _) _ ((numbered_texts _ _).trans ((if_neg (ne_true_of_eq_false h1)).trans (if_neg (ne_true_of_eq_false hff))).symm)
   . exact call_meets F.slot_str_split (typeIs_str _ _ _) F.entry_str_split (F.args_str_split_2 _ _) (meets_str_split_not_found z y t t2 h1 hy hff) (fin [(z, t)] s.toks ((if_neg (ne_true_of_eq_false h1)).trans (if_pos hff)).symm)
 . exact call_meets F.slot_str_split (typeIs_str _ _ _) F.entry_str_split (F.args_str_split_2 _ _) (meets_str_split_cannot_occur z y t t2 h1) (fin [(z, t)] s.toks (if_pos h1).symm)
noncomputable def splitD : PyData -> List PyData -> Option PV
 | .str z, [.str y] => if (y.length == 0) = false /\ z.length <= 100000 then some (.own ((Txt.split z y).map .str)) else none
 | _, _ => none
theorem splitD_str {d : PyData} {l : List PyData} {pv : PV} (h : splitD d l = some pv) : ∃ z, d = .str z := by
 unfold splitD at h
 split at h
 . exact ⟨_, rfl⟩
 . cases h
theorem x_split {K : PySem.W.Frag} : MNX K (fun x xs H Q => ∃ z y, x = .str z /\ xs = [.str y] /\ (y.length == 0) = false /\ z.length <= 100000 /\ ∀ p, H p = none -> Q (.ref p) (upd H p (.lst ((Txt.split z y).map V.str)))) splitD := by
 intro O va H z xs ds pv Q D hx hf q
 unfold splitD at hf
 split at hf
 . rename_i z' y e
   cases e
   split at hf
   . rename_i hp
     cases hf
     obtain ⟨x, rfl, h⟩ := hx.inv1
     cases h
     exact ⟨z, y, rfl, rfl, hp.1, hp.2, fun p hp => q _ _ (Same.new hp) (rx_lst hp (dts_strs _))⟩
   . cases hf
 . cases hf
end
end L2
namespace L2
open PySem PySem.Spec PyProof.Rows
section
variable {X : Cx} {CX : CXT} {k i : Nat} {f : Addr} {fd : FuncData} {ps : List Str} {sp : Sp} {E : XK} {x : Str} {p pos : Pos} {e : Expr} {es : List Expr} {t : TA} {fr : Bool} {Fl : Ds -> Option (List PyData)}
noncomputable def tCallV (i : Nat) (f : Addr) (u : TE) : TE := fun σ H Q => σ[i]? = some (some (.ref f)) /\ u σ H Q
theorem pe_callV (hv : PE X (.Name x p) (tVar i)) (F : FnOk X.prog X.w X.K X.mg X.base CX k f fd ps sp) (hr : Room k X.A) (hk : PySem.W.keepIn X.K (.ref f) = true) (hb : Binds X.K fd ps []) (hx : Passes CX X E)
  (ha : PA X (e :: es) t) (he : starEach (e :: es) X.env = (false, eval e X.env) :: starEach es X.env := by rfl) (hpl : (backTo pos (starEach es X.env)).any (·.1) = false := by rfl) :
  PE X (.Call (.Name x p) (e :: es) [] pos) (tCallV i f (tCall sp [] E t)) := by
 intro pins s σ H Q I h
 obtain ⟨hs, h⟩ := h
 refine wpAny_Call_Name_kw (thn (hv pins s σ H (fun v H' => v = .ref f /\ tCall sp [] E t σ H' Q) I ⟨_, hs, rfl, h⟩) fun u s1 ⟨v, H1, I1, r, ev, q⟩ => ?_)
 subst ev
 cases r
 refine PySem.W.callWith_K (h₀ := X.base) I1.ok.mod.kin hk (thn (ha pos pins s1 σ H1 _ I1 q) fun us s2 ⟨vs, H2, I2, r, q⟩ => ⟨I2.kIn, ?_⟩) he hpl
 exact run_fn F hr hb .nil hx I2 r q
noncomputable def fCallV (i : Nat) (nm : Str) (f : List PyData -> Option PV) (Fl : Ds -> Option (List PyData)) : Ds -> Option PV := fun ds => match ds[i]? with
 | some (some (.dat (.dict [(.str n, .none)]))) => if n = nm then (Fl ds).bind f else none
 | _ => none
theorem Dt.fnOf {K : PySem.W.Frag} {H : Hp} {v : V} {nm : Str} {f : Addr} (h : Dt K H v (.dict [(.str nm, .none)])) (hn : PySem.W.nsIn K mainGlobals nm = some (some (.ref f))) : v = .ref f := by
 generalize hd : PyData.dict [(.str nm, .none)] = d at h
 cases h with
 | fn h =>
  unfold fnD at hd
  injection hd with hd
  injection hd with h1 _
  injection h1 with h1 _
  injection h1 with h1
  subst h1
  rw [hn] at h
  injection h with h
  injection h with h
  injection h with h
  rw [h]
 | exc _ _ _ _ _ => unfold excD at hd; injection hd with hd; injection hd with h1 _; injection h1 with h1 _; cases h1
 | _ => cases hd
theorem px_callV {K' : PySem.W.Frag} {f' : List PyData -> Option PV} {nm : Str} (eK : X.K = K') (hn : PySem.W.nsIn K' mainGlobals nm = some (some (.ref f))) (hv : PE X (.Name x p) (tVar i)) (G : FnOk X.prog X.w K' X.mg X.base CX k f fd ps (spF K' f')) (hr : Room k X.A) (hk : PySem.W.keepIn K' (.ref f) = true) (hb : Binds K' fd ps []) (hx : Passes CX X E)
  (ha : PAX X fr (e :: es) t Fl) (he : starEach (e :: es) X.env = (false, eval e X.env) :: starEach es X.env := by rfl) (hpl : (backTo pos (starEach es X.env)).any (·.1) = false := by rfl) :
  PX X fr (.Call (.Name x p) (e :: es) [] pos) (tCallV i f (tCall (spF K' f') [] E t)) (fCallV i nm f' Fl) := by
 subst eK
 refine ⟨pe_callV hv G hr hk hb hx ha.p he hpl, ?_⟩
 intro O H₀ as σ H ds pv Q S hf q
 unfold fCallV at hf
 split at hf
 . rename_i n hd
   split at hf
   . rename_i en
     subst en
     obtain ⟨v, e1, h⟩ := S.slot i _ hd
     have := h.fnOf hn
     subst this
     exact ⟨e1, tx_call (E := E) (f := f') ha O H₀ as σ H ds pv Q S hf q⟩
   . cases hf
 . cases hf
noncomputable def fAlt (F1 F2 : Ds -> Option PV) : Ds -> Option PV := fun ds => match F1 ds with
 | some pv => some pv
 | none => F2 ds
theorem px_alt {t1 t2 : TE} {F1 F2 : Ds -> Option PV} {ex : Expr} (h1 : PX X fr ex t1 F1) (h2 : PX X fr ex t2 F2) : PX X fr ex (fun σ H Q => t1 σ H Q \/ t2 σ H Q) (fAlt F1 F2) := ⟨by
 intro pins s σ H Q I h
 rcases h with h | h
 . exact h1.p pins s σ H Q I h
 . exact h2.p pins s σ H Q I h, by
 intro O H₀ as σ H ds pv Q S hf q
 unfold fAlt at hf
 split at hf
 . rename_i pv' e
   cases hf
   exact .inl (h1.t O H₀ as σ H ds _ Q S e q)
 . exact .inr (h2.t O H₀ as σ H ds _ Q S hf q)⟩
end
noncomputable def isNoneU : Value -> Bool
 | .none => true
 | _ => false
noncomputable def plainN : PyData -> Bool
 | .none => true
 | .bool _ => true
 | .int _ => true
 | .str _ => true
 | .tuple _ => true
 | _ => false
theorem none_eqAt {X : Cx} {pins : List (Addr × Obj)} {σ : St} {H : Hp} {s : Shared} {A : Around} (I : Inv X pins σ H s) (hu : A.units < cLine) {x : V} {u : Value} {d : PyData} (h : Dt X.K H x d) (r : RelV x u) (hp : plainN d = true) : SeqAt.EqAt A s u .none (isNoneU u) /\ isNoneU u = isNoneD d := by
 cases h with
 | non => cases r; exact ⟨SeqAt.EqAt.same _, rfl⟩
 | bl b => cases r; exact ⟨SeqAt.EqAt.bool_none b, rfl⟩
 | int i => obtain ⟨t, rfl⟩ := r; exact ⟨SeqAt.EqAt.int_none i t, rfl⟩
 | str y => obtain ⟨t, rfl⟩ := r; exact ⟨SeqAt.EqAt.str_none y t, rfl⟩
 | tup h t =>
  cases r
  obtain ⟨its, rv, pl, _⟩ := I.tuple h
  exact ⟨SeqAt.EqAt.tuple_none pl hu, rfl⟩
 | lst _ _ => cases hp
 | exc _ _ _ _ _ => cases hp
 | fn _ => cases hp
theorem none_mem {X : Cx} {pins : List (Addr × Obj)} {σ : St} {H : Hp} {s : Shared} {A : Around} (I : Inv X pins σ H s) (hu : A.units < cLine) : ∀ {xs : List V} {us : List Value} {l : List PyData}, Dts X.K H xs l -> Vals xs us -> l.all plainN = true -> (∀ u ∈ us, SeqAt.EqAt A s u .none (isNoneU u)) /\ us.any isNoneU = l.any isNoneD
 | _, _, _, .nil, .nil, _ => ⟨fun u hu => (by cases hu), rfl⟩
 | _, _, _, .cons h t, .cons r rr, g => by
  rw [List.all_cons, Bool.and_eq_true] at g
  obtain ⟨a1, a2⟩ := none_eqAt I hu h r g.1
  obtain ⟨b1, b2⟩ := none_mem I hu t rr g.2
  refine ⟨fun u' hu' => ?_, by rw [List.any_cons, List.any_cons, a2, b2]⟩
  rcases List.mem_cons.mp hu' with rfl | z
  . exact a1
  . exact b1 u' z
noncomputable def rNoneIn (K : PySem.W.Frag) : R2 := fun x y H Q => ∃ p xs l, x = .non /\ y = .ref p /\ SqL K H p xs /\ Dts K H xs l /\ l.all plainN = true /\ Q (.bl (l.any isNoneD)) H
theorem op_noneIn {X : Cx} (hu : X.A.in1.units < cLine) : OpR X (compareOp .In) (rNoneIn X.K) := by
 intro pins s σ H x y v u Q I rx ry h
 obtain ⟨p, xs, l, rfl, rfl, hq, hd, hp, q⟩ := h
 cases rx
 cases ry
 obtain ⟨its, r, pl, hz⟩ := I.list hq
 obtain ⟨a1, a2⟩ := none_mem (A := X.A.in1) I hu hd r hp
 refine SeqAt.in_listAt isNoneU pl.isList (fun w hw => a1 w (by simpa using hw)) ⟨.bl _, H, I, rfl, ?_⟩
 rw [show its.toArray.any isNoneU = its.any isNoneU by simp, a2]
 exact q
noncomputable def noneInD : PyData -> PyData -> Option PV
 | .none, .list l => if l.all plainN = true then some (.dat (.bool (l.any isNoneD))) else none
 | _, _ => none
theorem x_noneIn {K : PySem.W.Frag} : R2X K (rNoneIn K) noneInD := by
 intro O va H x y d e pv Q D hx hy hf q
 cases hx with
 | non =>
  cases hy with
  | lst hs ht =>
   rename_i a xs l
   have hf' : (if l.all plainN = true then some (PV.dat (.bool (l.any isNoneD))) else none) = some pv := hf
   split at hf'
   . rename_i hc
     cases hf'
     exact ⟨a, xs, l, rfl, rfl, hid_all.seq hs, ht.same hid_all, hc, q _ H (Same.refl H) (Dt.bl _)⟩
   . cases hf'
  | _ => cases hf
 | _ => cases hf
theorem in1_room {A : Around} (h : A.units + 64 < cLine) : A.in1.units < cLine := by
 show A.units + 1 < cLine
 omega
noncomputable abbrev rJoin (K : PySem.W.Frag) : V -> List V -> Hp -> VK -> Prop := fun x xs H Q => ∃ z a ts, x = .str z /\ xs = [.ref a] /\ SqL K H a (ts.map V.str) /\ JoinOk z ts = true /\ Q (.str (Txt.join z ts)) H
section
variable {X : Cx} {fr : Bool} {o e : Expr} {es : List Expr} {to : TE} {t : TA} {Fo : Ds -> Option PV} {Fl : Ds -> Option (List PyData)} {apos cpos : Pos} {name : Str} {id : String} {r : V -> List V -> Hp -> VK -> Prop} {f : PyData -> List PyData -> Option PV}
theorem px_smK {K' : PySem.W.Frag} (eK : X.K = K') (slot : Slot "str" name id) (hty : typeOf (.builtin id) = pure (.type "method_descriptor")) (hm : MtR X id r) (hr : MNX K' r f) (hs0 : ∀ d l pv, f d l = some pv -> ∃ z, d = .str z) (ho : PX X fr o to Fo) (ha : PAX X fr (e :: es) t Fl)
  (hbase : attributeBase o name X.env (eval o X.env) = eval o X.env := by rfl)
  (hfew : ((backTo cpos (starEach (e :: es) X.env)).all (fun x => !x.1) && (backToKw cpos (keywordEach [] X.env)).all (fun x => x.1.isSome)
   && decide ((e :: es).length + ([] : List Keyword).length + (if ([] : List Keyword).isEmpty then 0 else 1) < 30)) = true := by rfl)
  (hline : (apos.endLine == cpos.line) = true := by rfl) (hs : starEach (e :: es) X.env = (false, eval e X.env) :: starEach es X.env := by rfl) (hplain : (backTo cpos (starEach es X.env)).any (·.1) = false := by rfl) :
  PX X fr (.Call (.Attribute o name apos) (e :: es) [] cpos) (tBM K' "str" r to t) (fMeth f Fo Fl) := by
 subst eK
 exact px_sm slot hty hm hr hs0 ho ha hbase hfew hline hs hplain
end
end L2
set_option maxHeartbeats 4000000
namespace Law
open PySem L2
noncomputable section
noncomputable abbrev c_FIGURES : PyData := (.str "0123456789")
noncomputable abbrev c_MOST_FIGURES : PyData := (.int 60)
noncomputable abbrev c_MOST_HOURS : PyData := (.int 24)
noncomputable abbrev c_MOST_WORKS : PyData := (.int 6)
noncomputable abbrev c_MOST_NUMBER : PyData := (.int 1000000)
noncomputable abbrev c_MOST_BOTTOM : PyData := (.int 1000)
noncomputable abbrev c_MOST_LETTERS : PyData := (.int 8)
noncomputable abbrev c_LETTERS : PyData := (.str "abcdefghijklmnopqrstuvwxyz")
noncomputable abbrev c_STORE_PARTS : PyData := (.tuple [(fnD "read_amount"), (fnD "read_amount"), (fnD "read_amount"), (fnD "read_amount"), (fnD "read_share"), (fnD "read_share"), (fnD "read_amount")])
noncomputable abbrev c_HOUR_PARTS : PyData := (.tuple [(fnD "read_amount"), (fnD "read_amount")])
noncomputable abbrev c_LINE_PARTS : PyData := (.tuple [(fnD "read_price"), (fnD "read_amount"), (fnD "read_price"), (fnD "read_amount")])
noncomputable abbrev c_WORK_PARTS : PyData := (.tuple [(fnD "read_name"), (fnD "read_amount"), (fnD "read_amount"), (fnD "read_amount"), (fnD "read_amount")])
noncomputable def C_common_divisor_0 : Ds -> Option Bool := (bVal (fOp neDD (fVar 1) (fC (.int 0))))
noncomputable def B_common_divisor_0 : Ds -> Option Out := (gSeq (gSetD 2 (fOp modD (fVar 0) (fVar 1))) (gSeq (gSetD 0 (fVar 1)) (gSetD 1 (fVar 2))))
noncomputable def F_common_divisor : List PyData -> Option PV := fnF 2 3 (gSeq (gWhile (muAbs 1) C_common_divisor_0 B_common_divisor_0) (gRetV 0))
noncomputable def F_fraction : List PyData -> Option PV := fnF 2 3 (gSeq (gIf (bVal (fOp eqDD (fVar 1) (fC (.int 0)))) gNever gNext) (gSeq (gSetD 2 (fCall F_common_divisor (aCons (fCall absD (aCons (fVar 0) aNil)) (aCons (fCall absD (aCons (fVar 1) aNil)) aNil)))) (gSeq (gIf (bVal (fOp ltD (fVar 1) (fC (.int 0)))) (gSetD 2 (fUn negD (fVar 2))) gNext) (gRet (fTup (aCons (fOp fdivD (fVar 0) (fVar 2)) (aCons (fOp fdivD (fVar 1) (fVar 2)) aNil)))))))
noncomputable def C_figures_of_0 : Ds -> Option Bool := (bVal (fOp geD (fVar 3) (fVar 1)))
noncomputable def B_figures_of_0 : Ds -> Option Out := (gSeq (gApp 2 (fMeth zfillD (fCall strD (aCons (fOp modD (fVar 3) (fVar 1)) aNil)) (aCons (fC (.int 60)) aNil))) (gSetD 3 (fOp fdivD (fVar 3) (fVar 1))))
noncomputable def F_figures_of : List PyData -> Option PV := fnF 1 4 (gSeq (gSetD 1 (fOp powD (fC (.int 10)) (fC (.int 60)))) (gSeq (gSet 2 (fLst aNil)) (gSeq (gSetD 3 (fVar 0)) (gSeq (gWhile (muAbs 3) C_figures_of_0 B_figures_of_0) (gSeq (gApp 2 (fCall strD (aCons (fVar 3) aNil))) (gSeq (gMut0 2 List.reverse) (gRet (fFrz (fMeth joinD (fC (.str "")) (aCons (fVar 2) aNil))))))))))
noncomputable def F_written : List PyData -> Option PV := fnF 1 2 (gSeq (gSetD 1 (fCall F_figures_of (aCons (fCall absD (aCons (fOp ixD (fVar 0) (fC (.int 0))) aNil)) aNil))) (gSeq (gIf (bVal (fOp ltD (fOp ixD (fVar 0) (fC (.int 0))) (fC (.int 0)))) (gSetD 1 (fOp addD (fC (.str "-")) (fVar 1))) gNext) (gSeq (gIf (bVal (fOp neDD (fOp ixD (fVar 0) (fC (.int 1))) (fC (.int 1)))) (gSetD 1 (fOp addD (fOp addD (fVar 1) (fC (.str "/"))) (fCall F_figures_of (aCons (fOp ixD (fVar 0) (fC (.int 1))) aNil)))) gNext) (gRetV 1))))
noncomputable def B_read_figures_0 : Ds -> Option Out := (gIf (bVal (fOp (or2 notInD notInSD) (fVar 1) (fC c_FIGURES))) (gRet (fC .none)) gNext)
noncomputable def F_read_figures : List PyData -> Option PV := fnF 1 2 (gSeq (gIf (bOr (bVal (fOp eqDD (fVar 0) (fC (.str "")))) (bVal (fOp gtD (fCall lenD (aCons (fVar 0) aNil)) (fC c_MOST_FIGURES)))) (gRet (fC .none)) gNext) (gSeq (gFor (iWk (fVar 0)) (sName 1) B_read_figures_0) (gRet (fCall (or1 intD intSD) (aCons (fVar 0) aNil)))))
noncomputable def F_read_signed : List PyData -> Option PV := fnF 1 2 (gSeq (gIf (bNot (bVal (fMeth startsD (fVar 0) (aCons (fC (.str "-")) aNil)))) (gRet (fCall F_read_figures (aCons (fVar 0) aNil))) gNext) (gSeq (gSetD 1 (fCall F_read_figures (aCons (fSl slAD (fVar 0) (oSome (fC (.int 1))) oNone) aNil))) (gSeq (gIf (bVal (fOp isD (fVar 1) (fC .none))) (gRet (fC .none)) gNext) (gRet (fUn negD (fVar 1))))))
noncomputable def F_read_fraction : List PyData -> Option PV := fnF 1 5 (gSeq (gSetD 1 (fMeth partD (fVar 0) (aCons (fC (.str "/")) aNil))) (gSeq (gSetD 2 (fCall F_read_signed (aCons (fOp ixD (fVar 1) (fC (.int 0))) aNil))) (gSeq (gSetD 3 (fC (.int 1))) (gSeq (gIf (bVal (fOp eqDD (fOp ixD (fVar 1) (fC (.int 1))) (fC (.str "/")))) (gSetD 3 (fCall F_read_figures (aCons (fOp ixD (fVar 1) (fC (.int 2))) aNil))) gNext) (gSeq (gIf (bOr (bVal (fOp isD (fVar 2) (fC .none))) (bOr (bVal (fOp isD (fVar 3) (fC .none))) (bVal (fOp eqDD (fVar 3) (fC (.int 0)))))) (gRet (fC .none)) gNext) (gSeq (gSetD 4 (fCall F_fraction (aCons (fVar 2) (aCons (fVar 3) aNil)))) (gSeq (gIf (bVal (fOp neDD (fCall F_written (aCons (fVar 4) aNil)) (fVar 0))) (gRet (fC .none)) gNext) (gRetV 4))))))))
noncomputable def F_read_whole : List PyData -> Option PV := fnF 2 3 (gSeq (gSetD 2 (fCall F_read_fraction (aCons (fVar 0) aNil))) (gSeq (gIf (bOr (bVal (fOp isD (fVar 2) (fC .none))) (bOr (bVal (fOp neDD (fOp ixD (fVar 2) (fC (.int 1))) (fC (.int 1)))) (bOr (bVal (fOp ltD (fOp ixD (fVar 2) (fC (.int 0))) (fVar 1))) (bVal (fOp gtD (fOp ixD (fVar 2) (fC (.int 0))) (fC c_MOST_NUMBER)))))) (gRet (fC .none)) gNext) (gRet (fOp ixD (fVar 2) (fC (.int 0))))))
noncomputable def F_read_amount : List PyData -> Option PV := fnF 1 1 (gRet (fCall F_read_whole (aCons (fVar 0) (aCons (fC (.int 0)) aNil))))
noncomputable def F_read_price : List PyData -> Option PV := fnF 1 1 (gRet (fCall F_read_whole (aCons (fVar 0) (aCons (fUn negD (fC c_MOST_NUMBER)) aNil))))
noncomputable def F_read_share : List PyData -> Option PV := fnF 1 2 (gSeq (gSetD 1 (fCall F_read_fraction (aCons (fVar 0) aNil))) (gSeq (gIf (bOr (bVal (fOp isD (fVar 1) (fC .none))) (bOr (bVal (fOp leD (fOp ixD (fVar 1) (fC (.int 0))) (fC (.int 0)))) (bOr (bVal (fOp gtD (fOp ixD (fVar 1) (fC (.int 0))) (fOp ixD (fVar 1) (fC (.int 1))))) (bVal (fOp gtD (fOp ixD (fVar 1) (fC (.int 1))) (fC c_MOST_BOTTOM)))))) (gRet (fC .none)) gNext) (gRetV 1)))
noncomputable def B_read_name_0 : Ds -> Option Out := (gIf (bVal (fOp (or2 notInD notInSD) (fVar 1) (fC c_LETTERS))) (gRet (fC .none)) gNext)
noncomputable def F_read_name : List PyData -> Option PV := fnF 1 2 (gSeq (gIf (bOr (bVal (fOp eqDD (fVar 0) (fC (.str "")))) (bVal (fOp gtD (fCall lenD (aCons (fVar 0) aNil)) (fC c_MOST_LETTERS)))) (gRet (fC .none)) gNext) (gSeq (gFor (iWk (fVar 0)) (sName 1) B_read_name_0) (gRetV 0)))
noncomputable def E_read_parts_0 : Ds -> Option PV := (fAlt (fCallV 0 "read_amount" F_read_amount (aCons (fVar 1) aNil)) (fAlt (fCallV 0 "read_name" F_read_name (aCons (fVar 1) aNil)) (fAlt (fCallV 0 "read_price" F_read_price (aCons (fVar 1) aNil)) (fCallV 0 "read_share" F_read_share (aCons (fVar 1) aNil)))))
noncomputable def F_read_parts : List PyData -> Option PV := fnF 2 3 (gSeq (gIf (bVal (fOp neDD (fCall lenD (aCons (fVar 0) aNil)) (fCall lenD (aCons (fVar 1) aNil)))) (gRet (fC .none)) gNext) (gSeq (gSetD 2 (fComp (iFn zipD (aCons (fVar 1) (aCons (fVar 0) aNil))) (gtTup 2) bTrue E_read_parts_0)) (gSeq (gIf (bVal (fOp noneInD (fC .none) (fVar 2))) (gRet (fC .none)) gNext) (gRet (fCall tupD (aCons (fVar 2) aNil))))))
noncomputable def F_read_store : List PyData -> Option PV := fnF 1 2 (gSeq (gSetD 1 (fCall F_read_parts (aCons (fSl slAD (fVar 0) (oSome (fC (.int 1))) oNone) (aCons (fC c_STORE_PARTS) aNil)))) (gSeq (gIf (bOr (bVal (fOp neDD (fOp ixD (fVar 0) (fC (.int 0))) (fC (.str "store")))) (bOr (bVal (fOp isD (fVar 1) (fC .none))) (bVal (fOp gtD (fOp ixD (fVar 1) (fC (.int 1))) (fOp ixD (fVar 1) (fC (.int 0))))))) (gRet (fC .none)) gNext) (gRetV 1)))
noncomputable def F_read_hour : List PyData -> Option PV := fnF 1 3 (gSeq (gSetD 1 (fCall F_read_parts (aCons (fSl slAD (fVar 0) (oSome (fC (.int 1))) (oSome (fC (.int 3)))) (aCons (fC c_HOUR_PARTS) aNil)))) (gSeq (gIf (bOr (bVal (fOp neDD (fOp ixD (fVar 0) (fC (.int 0))) (fC (.str "hour")))) (bVal (fOp isD (fVar 1) (fC .none)))) (gRet (fC .none)) gNext) (gSeq (gIf (bVal (fOp eqDD (fSl slAD (fVar 0) (oSome (fC (.int 3))) oNone) (fLst (aCons (fC (.str "dark")) aNil)))) (gRet (fOp addD (fVar 1) (fTup (aCons (fC .none) aNil)))) gNext) (gSeq (gSetD 2 (fCall F_read_parts (aCons (fSl slAD (fVar 0) (oSome (fC (.int 4))) oNone) (aCons (fC c_LINE_PARTS) aNil)))) (gSeq (gIf (bOr (bVal (fOp neDD (fSl slAD (fVar 0) (oSome (fC (.int 3))) (oSome (fC (.int 4)))) (fLst (aCons (fC (.str "line")) aNil)))) (bVal (fOp isD (fVar 2) (fC .none)))) (gRet (fC .none)) gNext) (gRet (fOp addD (fVar 1) (fTup (aCons (fVar 2) aNil)))))))))
noncomputable def F_read_work : List PyData -> Option PV := fnF 2 3 (gSeq (gSetD 2 (fCall F_read_parts (aCons (fSl slAD (fVar 0) (oSome (fC (.int 1))) oNone) (aCons (fC c_WORK_PARTS) aNil)))) (gSeq (gIf (bOr (bVal (fOp neDD (fOp ixD (fVar 0) (fC (.int 0))) (fC (.str "work")))) (bVal (fOp isD (fVar 2) (fC .none)))) (gRet (fC .none)) gNext) (gSeq (gIf (bOr (bVal (fOp gtD (fOp ixD (fVar 2) (fC (.int 2))) (fOp ixD (fVar 2) (fC (.int 3))))) (bVal (fOp geD (fOp ixD (fVar 2) (fC (.int 3))) (fVar 1)))) (gRet (fC .none)) gNext) (gRetV 2))))
noncomputable def B_read_hours_0 : Ds -> Option Out := (gSeq (gSetD 3 (fCall F_read_hour (aCons (fVar 2) aNil))) (gSeq (gIf (bVal (fOp isD (fVar 3) (fC .none))) (gRetV 1) gNext) (gApp 1 (fVar 3))))
noncomputable def F_read_hours : List PyData -> Option PV := fnF 1 4 (gSeq (gSet 1 (fLst aNil)) (gSeq (gFor (iWk (fSl slAD (fVar 0) oNone (oSome (fC c_MOST_HOURS)))) (sName 2) B_read_hours_0) (gRetV 1)))
noncomputable def B_read_works_0 : Ds -> Option Out := (gSeq (gSetD 5 (fCall F_read_work (aCons (fVar 4) (aCons (fVar 1) aNil)))) (gSeq (gIf (bOr (bVal (fOp isD (fVar 5) (fC .none))) (bVal (fOp (or2 inD inSD) (fFrz (fOp ixD (fVar 5) (fC (.int 0)))) (fFrz (fVar 3))))) (gRetV 2) gNext) (gSeq (gApp 2 (fVar 5)) (gApp 3 (fOp ixD (fVar 5) (fC (.int 0)))))))
noncomputable def F_read_works : List PyData -> Option PV := fnF 2 6 (gSeq (gSet 2 (fLst aNil)) (gSeq (gSet 3 (fLst aNil)) (gSeq (gFor (iWk (fSl slAD (fVar 0) oNone (oSome (fC c_MOST_WORKS)))) (sName 4) B_read_works_0) (gRetV 2))))
noncomputable def EX_read_0 : Ds -> Option PV := (fMeth splitD (fVar 0) (aCons (fC (.str " ")) aNil))
noncomputable def FX_read (cE : Addr) : List PyData -> Option (PV ⊕ PyData) := fnX 1 6 (gSeq (gSetD 1 (fComp (iWk (fVar 0)) gtName bTrue EX_read_0)) (gSeq (gSetD 2 (fIf (bVal (fOp eqDD (fVar 1) (fLst aNil))) (fC .none) (fCall F_read_store (aCons (fOp ixD (fVar 1) (fC (.int 0))) aNil)))) (gSeq (gIf (bVal (fOp isD (fVar 2) (fC .none))) (gUpP smallD cE "place" (aCons (fC (.int 0)) aNil)) gNext) (gSeq (gSetD 3 (fCall F_read_hours (aCons (fSl slAD (fVar 1) (oSome (fC (.int 1))) oNone) aNil))) (gSeq (gIf (bVal (fOp eqDD (fVar 3) (fLst aNil))) (gUpP smallD cE "place" (aCons (fC (.int 1)) aNil)) gNext) (gSeq (gSetD 4 (fCall F_read_works (aCons (fSl slAD (fVar 1) (oSome (fOp addD (fC (.int 1)) (fCall lenD (aCons (fVar 3) aNil)))) oNone) (aCons (fCall lenD (aCons (fVar 3) aNil)) aNil)))) (gSeq (gSetD 5 (fOp addD (fOp addD (fC (.int 1)) (fCall lenD (aCons (fVar 3) aNil))) (fCall lenD (aCons (fVar 4) aNil)))) (gSeq (gIf (bVal (fOp ltD (fVar 5) (fCall lenD (aCons (fVar 1) aNil)))) (gUpP smallD cE "place" (aCons (fVar 5) aNil)) gNext) (gRet (fTup (aCons (fCall tupD (aCons (fVar 3) aNil)) (aCons (fVar 2) (aCons (fCall tupD (aCons (fVar 4) aNil)) aNil)))))))))))))
noncomputable def F_l_draw : List PyData -> Option PV := fnF 3 5 (gSeq (gSetD 3 (fC (.int 0))) (gSeq (gIf (bVal (fOp gtD (fCall lenD (aCons (fVar 0) aNil)) (fC (.int 0)))) (gSeq (gSetD 3 (fOp ixD (fVar 0) (fOp modD (fVar 1) (fCall lenD (aCons (fVar 0) aNil))))) (gIf (bVal (fOp eqDD (fOp modD (fOp ixD (fVar 0) (fC (.int 0))) (fC (.int 2))) (fC (.int 1)))) (gRet (fOp modD (fOp modD (fOp shrD (fOp fdivD (fVar 3) (fC (.int 2))) (fOp mulD (fC (.int 32)) (fOp fdivD (fVar 1) (fCall lenD (aCons (fVar 0) aNil))))) (fC (.int 4294967296))) (fVar 2))) gNext)) gNext) (gSeq (gSetD 4 (fOp modD (fOp addD (fOp mulD (fOp modD (fVar 3) (fC (.int 2147483647))) (fC (.int 48271))) (fOp mulD (fOp mulD (fOp addD (fVar 1) (fC (.int 1))) (fOp addD (fVar 1) (fC (.int 5)))) (fC (.int 69621)))) (fC (.int 2147483629)))) (gRet (fOp modD (fOp modD (fOp mulD (fVar 4) (fOp addD (fVar 4) (fC (.int 40692)))) (fC (.int 2147483587))) (fVar 2))))))
noncomputable def E_l_same_0 (R : List PyData -> Option PV) : Ds -> Option PV := (fCall R (aCons (fVar 0) (aCons (fVar 1) aNil)))
noncomputable def S_l_same (R : List PyData -> Option PV) : List PyData -> Option PV := fnF 2 2 (gSeq (gIf (bOr (bVal (fIsin "tuple" (fVar 1))) (bVal (fIsin "list" (fVar 1)))) (gSeq (gIf (bOr (bVal (fOp neDD (fIsin "tuple" (fVar 0)) (fIsin "tuple" (fVar 1)))) (bVal (fOp neDD (fIsin "list" (fVar 0)) (fIsin "list" (fVar 1))))) (gRet (fC (.bool false))) gNext) (gRet (fAnd (fOp eqDD (fCall lenD (aCons (fVar 0) aNil)) (fCall lenD (aCons (fVar 1) aNil))) (fCall allD (aCons (fComp (iFn zipD (aCons (fVar 0) (aCons (fVar 1) aNil))) (gtTup 2) bTrue (E_l_same_0 R)) aNil))))) gNext) (gSeq (gIf (bOr (bVal (fIsin "bool" (fVar 1))) (bVal (fIsin "bool" (fVar 0)))) (gRet (fAnd (fIsin "bool" (fVar 1)) (fAnd (fIsin "bool" (fVar 0)) (fOp eqDD (fVar 0) (fVar 1))))) gNext) (gSeq (gIf (bVal (fIsin "int" (fVar 1))) (gRet (fAnd (fIsin "int" (fVar 0)) (fOp eqDD (fVar 0) (fVar 1)))) gNext) (gSeq (gIf (bVal (fOp isD (fVar 1) (fC .none))) (gRet (fOp isD (fVar 0) (fC .none))) gNext) (gRet (fAnd (fIsin "str" (fVar 0)) (fOp eqDD (fVar 0) (fVar 1))))))))
noncomputable def N_l_same : Nat -> List PyData -> Option PV
 | 0 => fun _ => none
 | n + 1 => S_l_same (N_l_same n)
noncomputable def F_l_same : List PyData -> Option PV := N_l_same 2
noncomputable def F_l_many : List PyData -> Option PV := fnF 3 3 (gSeq (gIf (bVal (fOp eqDD (fCall F_l_draw (aCons (fVar 0) (aCons (fVar 1) (aCons (fC (.int 2)) aNil)))) (fC (.int 0)))) (gRetV 2) gNext) (gRet (fCall F_l_draw (aCons (fVar 0) (aCons (fOp addD (fVar 1) (fC (.int 1))) (aCons (fOp addD (fVar 2) (fC (.int 1))) aNil))))))
noncomputable def F_l_work : List PyData -> Option PV := fnF 3 5 (gSeq (gSetD 3 (fCall F_l_draw (aCons (fVar 0) (aCons (fOp addD (fC (.int 20)) (fOp mulD (fC (.int 2)) (fVar 1))) (aCons (fVar 2) aNil))))) (gSeq (gSetD 4 (fOp addD (fVar 3) (fCall F_l_draw (aCons (fVar 0) (aCons (fOp addD (fC (.int 21)) (fOp mulD (fC (.int 2)) (fVar 1))) (aCons (fOp subD (fVar 2) (fVar 3)) aNil)))))) (gRet (fOp addD (fOp addD (fOp addD (fOp addD (fOp addD (fOp addD (fC (.str "w")) (fOp ixD (fC (.str "abcdefg")) (fVar 1))) (fC (.str " 5 "))) (fCall strD (aCons (fVar 3) aNil))) (fC (.str " "))) (fCall strD (aCons (fVar 4) aNil))) (fC (.str " 3"))))))
noncomputable def B_l_hours_0 : Ds -> Option Out := (gSeq (gIf (bVal (fOp eqDD (fVar 5) (fC (.int 24)))) (gApp 3 (fFlat (fFrz (fCall lenD (aCons (fVar 2) aNil))))) gNext) (gSeq (gApp 2 (fOp ixD (fLst (aCons (fC (.str "hour 3 4 dark")) (aCons (fC (.str "hour 5 6 line 7 8 -9 1")) aNil))) (fOp modD (fOp addD (fVar 5) (fCall F_l_draw (aCons (fVar 0) (aCons (fC (.int 4)) (aCons (fC (.int 2)) aNil))))) (fC (.int 2))))) (gIf (bAnd (bVal (fOp eqDD (fVar 1) (fC (.int 1)))) (bVal (fOp eqDD (fVar 5) (fCall F_l_draw (aCons (fVar 0) (aCons (fC (.int 5)) (aCons (fVar 4) aNil))))))) (gSeq (gApp 3 (fFlat (fFrz (fCall lenD (aCons (fVar 2) aNil))))) (gApp 2 (fC (.str "store 9 3 3 3 1/2 1 2")))) gNext)))
noncomputable def F_l_hours : List PyData -> Option (PyData × List PyData × List PyData) := fnIO2 4 6 (2, 3) (io2Seq (gSetD 4 (fCall maxD (aCons (fC (.int 1)) (aCons (fCall F_l_many (aCons (fVar 0) (aCons (fC (.int 2)) (aCons (fC (.int 24)) aNil)))) aNil)))) (io2Seq (gIf (bVal (fOp eqDD (fVar 1) (fC (.int 0)))) (gSetD 4 (fC (.int 25))) gNext) (io2Seq (gFor (iFn rng1 (aCons (fVar 4) aNil)) (sName 5) B_l_hours_0) (io2Ret (2, 3) (fVar 4)))))
noncomputable def B_l_works_0 : Ds -> Option Out := (gSeq (gSetD 8 (fOp addD (fC (.str "work ")) (fCall F_l_work (aCons (fVar 0) (aCons (fVar 7) (aCons (fVar 2) aNil)))))) (gSeq (gIf (bAnd (bVal (fOp eqDD (fVar 1) (fC (.int 3)))) (bVal (fOp eqDD (fVar 7) (fVar 6)))) (gSetD 8 (fOp addD (fOp addD (fOp addD (fOp addD (fC (.str "work w")) (fOp ixD (fC (.str "abcdefg")) (fVar 7))) (fC (.str " 5 0 "))) (fCall strD (aCons (fVar 2) aNil))) (fC (.str " 3")))) gNext) (gSeq (gIf (bAnd (bVal (fOp eqDD (fVar 1) (fC (.int 4)))) (bAnd (bVal (fOp eqDD (fVar 7) (fOp subD (fVar 5) (fC (.int 1))))) (bVal (fOp gtD (fVar 7) (fC (.int 0)))))) (gSetD 8 (fOp addD (fOp addD (fC (.str "work w")) (fOp ixD (fC (.str "abcdefg")) (fCall F_l_draw (aCons (fVar 0) (aCons (fC (.int 9)) (aCons (fVar 7) aNil)))))) (fC (.str " 1 0 0 2")))) gNext) (gSeq (gIf (bOr (bVal (fOp eqDD (fVar 7) (fC (.int 6)))) (bOr (bAnd (bVal (fOp eqDD (fVar 1) (fC (.int 3)))) (bVal (fOp eqDD (fVar 7) (fVar 6)))) (bAnd (bVal (fOp eqDD (fVar 1) (fC (.int 4)))) (bAnd (bVal (fOp eqDD (fVar 7) (fOp subD (fVar 5) (fC (.int 1))))) (bVal (fOp gtD (fVar 7) (fC (.int 0)))))))) (gApp 4 (fFlat (fFrz (fCall lenD (aCons (fVar 3) aNil))))) gNext) (gSeq (gApp 3 (fVar 8)) (gIf (bAnd (bVal (fOp eqDD (fVar 1) (fC (.int 5)))) (bVal (fOp eqDD (fVar 7) (fVar 6)))) (gSeq (gApp 4 (fFlat (fFrz (fCall lenD (aCons (fVar 3) aNil))))) (gApp 3 (fOp ixD (fLst (aCons (fC (.str "hour 3 4 dark")) (aCons (fC (.str "store 9 3 3 3 1/2 1 2")) (aCons (fC (.str "hour 1 1 line 1 1 1 1")) aNil)))) (fCall F_l_draw (aCons (fVar 0) (aCons (fC (.int 10)) (aCons (fC (.int 3)) aNil))))))) gNext))))))
noncomputable def F_l_works : List PyData -> Option (PyData × List PyData × List PyData) := fnIO2 5 9 (3, 4) (io2Seq (gSetD 5 (fCall F_l_many (aCons (fVar 0) (aCons (fC (.int 6)) (aCons (fC (.int 6)) aNil))))) (io2Seq (gIf (bVal (fOp eqDD (fVar 1) (fC (.int 2)))) (gSetD 5 (fC (.int 7))) gNext) (io2Seq (gSetD 6 (fCall F_l_draw (aCons (fVar 0) (aCons (fC (.int 8)) (aCons (fCall maxD (aCons (fC (.int 1)) (aCons (fCall minD (aCons (fVar 5) (aCons (fC (.int 6)) aNil))) aNil))) aNil))))) (io2Seq (gFor (iFn rng1 (aCons (fVar 5) aNil)) (sName 7) B_l_works_0) (io2Ret (3, 4) (fVar 5))))))
noncomputable def F_l_begun : List PyData -> Option (PyData × List PyData × List PyData) := fnIO2 4 4 (2, 3) (io2Seq (gIf (bVal (fOp eqDD (fVar 1) (fC (.int 6)))) (gSeq (gApp 3 (fC (.int 0))) (gApp 2 (fOp ixD (fLst (aCons (fC (.str "hour 3 4 dark")) (aCons (fC (.str "work wa 5 0 0 3")) aNil))) (fCall F_l_draw (aCons (fVar 0) (aCons (fC (.int 11)) (aCons (fC (.int 2)) aNil))))))) gNext) (io2Seq (gApp 2 (fC (.str "store 9 3 3 3 1/2 1 2"))) (io2Last (2, 3) (gIf (bVal (fOp eqDD (fVar 1) (fC (.int 7)))) (gSeq (gApp 3 (fFlat (fFrz (fCall lenD (aCons (fVar 2) aNil))))) (gApp 2 (fOp ixD (fLst (aCons (fC (.str "store 9 3 3 3 1/2 1 2")) (aCons (fC (.str "work wa 5 0 0 3")) aNil))) (fCall F_l_draw (aCons (fVar 0) (aCons (fC (.int 12)) (aCons (fC (.int 2)) aNil))))))) gNext))))
noncomputable def F_law (cE : Addr) : List PyData -> Option PV := fnF 1 9 (gSeq (gSetD 1 (fCall F_l_draw (aCons (fVar 0) (aCons (fC (.int 0)) (aCons (fC (.int 20)) aNil))))) (gSeq (gSet 2 (fLst aNil)) (gSeq (gSet 3 (fLst aNil)) (gSeq (gCallIO2 F_l_begun nxNo (2, 3) (aCons (fVar 0) (aCons (fVar 1) (aCons (fVarB 2) (aCons (fVarB 3) aNil))))) (gSeq (gSetD 4 (fC (.int 0))) (gSeq (gSetD 5 (fC (.int 0))) (gSeq (gIf (bVal (fOp eqDD (fVar 1) (fC (.int 8)))) (gApp 3 (fFlat (fFrz (fCall lenD (aCons (fVar 2) aNil))))) (gSeq (gCallIO2 F_l_hours (nxSet 4) (2, 3) (aCons (fVar 0) (aCons (fVar 1) (aCons (fVarB 2) (aCons (fVarB 3) aNil))))) (gCallIO2 F_l_works (nxSet 5) (2, 3) (aCons (fVar 0) (aCons (fVar 1) (aCons (fCall minD (aCons (fC (.int 24)) (aCons (fVar 4) aNil))) (aCons (fVarB 2) (aCons (fVarB 3) aNil)))))))) (gSeq (gIf (bAnd (bVal (fOp gtD (fFrz (fCall lenD (aCons (fVar 3) aNil))) (fFrz (fC (.int 0))))) (bVal (fOp eqDD (fCall F_l_draw (aCons (fVar 0) (aCons (fC (.int 15)) (aCons (fC (.int 2)) aNil)))) (fC (.int 0))))) (gApp 2 (fOp ixD (fLst (aCons (fC (.str "end")) (aCons (fC (.str "work A 1 0 0 1")) (aCons (fC (.str "hour 1 1")) aNil)))) (fCall F_l_draw (aCons (fVar 0) (aCons (fC (.int 16)) (aCons (fC (.int 3)) aNil)))))) gNext) (gSeq (gSetD 6 (fC .none)) (gSeq (gSetD 7 (fC .none)) (gSeq (gTryA cE 7 8 (FX_read cE) (aCons (fListO 2) aNil) (gSetD 6 (fFld "place" (fVar 8)))) (gSeq (gIf (bVal (fOp gtD (fFrz (fCall lenD (aCons (fVar 3) aNil))) (fFrz (fC (.int 0))))) (gRet (fCall F_l_same (aCons (fVar 6) (aCons (fIxO 3 (fC (.int 0))) aNil)))) gNext) (gSeq (gIf (bOr (bVal (fOp isNotD (fVar 6) (fC .none))) (bOr (bNot (bVal (fIsin "tuple" (fVar 7)))) (bVal (fOp neDD (fCall lenD (aCons (fVar 7) aNil)) (fC (.int 3)))))) (gRet (fC (.bool false))) gNext) (gRet (fAnd (fOp eqDD (fCall lenD (aCons (fOp ixD (fVar 7) (fC (.int 0))) aNil)) (fVar 4)) (fOp eqDD (fCall lenD (aCons (fOp ixD (fVar 7) (fC (.int 2))) aNil)) (fVar 5)))))))))))))))))
end
end Law
set_option maxHeartbeats 400000
local macro_rules | `(tactic| walk_at "r") => `(tactic| simp only [L2.fnF, L2.gSeq_eq, L2.seqK_next, L2.seqK_ret, L2.seqK_brk, L2.seqK_cont, L2.gSet_eq, L2.letP_some, L2.gSetD_eq, L2.letK_some, L2.gIf, L2.gRet, L2.gRetV, L2.gRetN, L2.gNext, L2.gPass, L2.gBreak, L2.gCont, L2.gDrop, L2.gPar, L2.gApp_eq, L2.gFor, L2.gWhile, L2.gFrz1, L2.frz1, L2.fVar, L2.fC, L2.fOp, L2.fUn, L2.fCall, L2.fTup, L2.fLst, L2.fSl, L2.fIf, L2.fAnd, L2.fOr, L2.fNot, L2.fChain, L2.fIsin, L2.fFlat, L2.Flat, L2.fFrz, L2.frz, L2.fComp, L2.oNone, L2.oSome, L2.asI_int, L2.asB_bool, L2.aCons, L2.aNil, L2.bVal, L2.bNot, L2.bAnd, L2.bOr, L2.bTrue, L2.iFn, L2.iSq, L2.seqOf_list, L2.seqOf_tup, L2.outV_ret, L2.outV_next, L2.dats_nil, L2.dats_cons, L2.sName, L2.sTup, L2.sCons, L2.sNil, L2.gtName, L2.gtTup, L2.PV.d_dat, L2.PV.d_own, L2.muAbs,
 L2.addD_int, L2.subD_int, L2.ltD_int, L2.leD_int, L2.gtD_int, L2.geD_int, L2.eqDD_int, L2.neDD_int, L2.eqDD_str, L2.neDD_str, L2.ixD_tup, L2.ixD_list, L2.absD_int, L2.negD_int, L2.lenD_list, L2.lenD_tup, L2.tupD_list, L2.tupD_tup, L2.listD_list, L2.listD_tup, L2.slD_tup, L2.slD_list, L2.isD_none, L2.isNotD_none, L2.chain_if, L2.intD_int, L2.intD_bool, L2.sumD_list, L2.enumD_seq, L2.fIxO, L2.fListO, L2.gMut0, L2.isNoneD, L2.atI_0, L2.atI_1, L2.atI_2, L2.atI_3, L2.atI_4, L2.atI_5, L2.atI_6, L2.isI, L2.tyOf, String.reduceBEq,
 Option.bind_some, Option.bind_none, Option.map_some, Option.map_none, List.map_cons, List.map_nil, List.length_cons, List.length_nil, List.replicate, List.cons_append, List.nil_append, List.append_nil, List.set_cons_zero, List.set_cons_succ, List.getElem?_cons_zero, List.getElem?_cons_succ, Nat.reduceAdd, Nat.reduceSub, Nat.reduceEqDiff, Nat.reduceLeDiff, Nat.reduceLT, Int.reduceToNat, Int.cast_ofNat_Int, eq_self,
 if_true, if_false, reduceIte, decide_eq_true_eq, decide_true, decide_false, Bool.false_eq_true, Bool.not_eq_true', decide_eq_false_iff_not, Bool.not_true, Bool.not_false, not_true_eq_false, not_false_eq_true, Bool.true_or, Bool.false_or, Bool.or_true, Bool.or_false, Bool.and_true, Bool.true_and, Bool.and_false, Bool.false_and, reduceCtorEq, and_self])
namespace Law
open PySem L2
noncomputable abbrev gc (a b : Int) : Int := (Int.gcd a b : Nat)
theorem gcd_fmod (x y : Int) : Int.gcd y (x.fmod y) = Int.gcd x y := by
 rw [Int.fmod_def]
 apply Nat.dvd_antisymm
 . apply Int.dvd_gcd
   . have h1 : ((Int.gcd y (x - y * x.fdiv y) : Nat) : Int) ∣ y := Int.gcd_dvd_left ..
     have h2 : ((Int.gcd y (x - y * x.fdiv y) : Nat) : Int) ∣ x - y * x.fdiv y := Int.gcd_dvd_right ..
     have h3 := Int.dvd_add h2 (Int.dvd_mul_of_dvd_left (c := x.fdiv y) h1)
     rwa [Int.sub_add_cancel] at h3
   . exact Int.gcd_dvd_left ..
 . apply Int.dvd_gcd
   . exact Int.gcd_dvd_right ..
   . exact Int.dvd_sub (Int.gcd_dvd_left ..) (Int.dvd_mul_of_dvd_left (Int.gcd_dvd_right ..))
theorem natAbs_fmod_lt (x : Int) {y : Int} (h : y ≠ 0) : (x.fmod y).natAbs < y.natAbs := by
 rcases Int.lt_or_gt_of_ne h with hy | hy
 . have e : Int.fmod x y = x % y + if 0 <= y \/ y ∣ x then 0 else y := Int.fmod_eq_emod
   have h1 := Int.emod_nonneg x h
   have h2 := Int.emod_lt x h
   split at e <;> omega
 . have h1 := Int.fmod_nonneg_of_pos x hy
   have h2 := Int.fmod_lt_of_pos x hy
   omega
noncomputable def lowF (t b : Int) : Int × Int := (t.fdiv (if b < 0 then -gc t b else gc t b), b.fdiv (if b < 0 then -gc t b else gc t b))
structure Frac (m : Nat) (q : Int × Int) : Prop where
 pos : 0 < q.2
 low : Int.gcd q.1 q.2 = 1
 bt : Bt m q.1
 bb : Bt m q.2
theorem gc_bt {m : Nat} {t b : Int} (hb : b ≠ 0) (h : Bt m b) : Bt m (gc t b) := h.of_le (by
 have h1 := Int.gcd_le_natAbs_right t hb
 show ((Int.gcd t b : Nat) : Int).natAbs <= _
 omega)
theorem gc_ne {t b : Int} (hb : b ≠ 0) : gc t b ≠ 0 := by
 have h1 := Int.gcd_pos_of_ne_zero_right t hb
 show ((Int.gcd t b : Nat) : Int) ≠ 0
 omega
theorem gc_abs (t b : Int) : gc (if t < 0 then -t else t) (if b < 0 then -b else b) = gc t b := by
 show ((Int.gcd _ _ : Nat) : Int) = (Int.gcd t b : Nat)
 have e1 : ∀ x y : Int, Int.gcd (if x < 0 then -x else x) y = Int.gcd x y := fun x y => by split <;> simp
 have e2 : ∀ x y : Int, Int.gcd x (if y < 0 then -y else y) = Int.gcd x y := fun x y => by split <;> simp
 rw [e1, e2]
noncomputable abbrev fr (q : Int × Int) : PyData := .tuple [.int q.1, .int q.2]
theorem C_common (x y : Int) (z : Option PV) : C_common_divisor_0 [iD x, iD y, z] = some (!decide (y = 0)) := by
 unfold C_common_divisor_0
 walk_at "r"
theorem B_common (x : Int) {y : Int} (z : Option PV) (h : y ≠ 0) : B_common_divisor_0 [iD x, iD y, z] = some (.next [iD y, iD (x.fmod y), iD (x.fmod y)]) := by
 unfold B_common_divisor_0
 walk_at "r"
 rw [modD_int h]
 walk_at "r"
theorem common_eq {x y : Int} (hx : 0 <= x) (hy : 0 <= y) : F_common_divisor [.int x, .int y] = some (.dat (.int (gc x y))) := by
 unfold F_common_divisor
 walk_at "r"
 obtain ⟨ds', h1, ⟨x', y', z', rfl, hg, hx', hy'⟩, h3⟩ := whileD_by (Fc := C_common_divisor_0) (G := B_common_divisor_0) (fun ds => ∃ x' y' z', ds = [iD x', iD y', z'] /\ gc x' y' = gc x y /\ 0 <= x' /\ 0 <= y') (fun ds => muAbs 1 ds - 1) (by
  rintro ds ⟨x', y', z', rfl, hg, hx', hy'⟩
  rw [C_common]
  by_cases h : y' = 0
  . left; simp [h]
  . right
    refine ⟨by simp [h], _, B_common x' z' h, ⟨y', x'.fmod y', _, rfl, ?_, hy', Int.fmod_nonneg_of_pos x' (by omega)⟩, ?_⟩
    . rw [<- hg]
      show ((Int.gcd y' (x'.fmod y') : Nat) : Int) = (Int.gcd x' y' : Nat)
      rw [gcd_fmod]
    . have := natAbs_fmod_lt x' h
      walk_at "r"
      omega) (y.natAbs + 1) [iD x, iD y, none] ⟨x, y, none, rfl, rfl, hx, hy⟩ (by walk_at "r"; omega)
 rw [C_common] at h3
 have hz : y' = 0 := by simpa using h3
 subst hz
 have e : gc x' 0 = x' := by show ((Int.gcd x' 0 : Nat) : Int) = x'; rw [Int.gcd_zero_right]; omega
 rw [h1, <- hg, e]
 walk_at "r"
theorem fraction_eq {t b : Int} (hb : b ≠ 0) (hbb : Bt 8000 b) : F_fraction [.int t, .int b] = some (.dat (fr (lowF t b))) := by
 unfold F_fraction
 walk_at "r"
 rw [if_neg hb]
 walk_at "r"
 rw [common_eq (by split <;> omega) (by split <;> omega), gc_abs]
 walk_at "r"
 have hg := gc_ne (t := t) hb
 have hgb := gc_bt (t := t) hb hbb
 unfold lowF
 by_cases h0 : b < 0
 . simp only [if_pos h0]
   walk_at "r"
   rw [fdivD_int (by omega) hgb.neg, fdivD_int (by omega) hgb.neg]
   rfl
 . simp only [if_neg h0]
   walk_at "r"
   rw [fdivD_int hg hgb, fdivD_int hg hgb]
   rfl
theorem cpow_10 {j : Int} (h0 : 0 <= j := by decide) (h1 : j <= 1000000 := by decide) : CPow 10 j := ⟨h0, h1, by decide⟩
end Law
local macro_rules | `(tactic| walk_at "t") => `(tactic| simp only [L2.fnF, L2.fAlt, L2.isFnD, L2.fMeth, L2.fLst, L2.iWk, L2.walkOf, L2.startsD, L2.findD, L2.gSeq_eq, L2.seqK_next, L2.seqK_ret, L2.seqK_brk, L2.seqK_cont, L2.gSet_eq, L2.letP_some, L2.gSetD_eq, L2.letK_some, L2.gIf, L2.gRet, L2.gRetV, L2.gRetN, L2.gNext, L2.gPass, L2.gBreak, L2.gCont, L2.gDrop, L2.gPar, L2.gApp_eq, L2.gFor, L2.gWhile, L2.gFrz1, L2.frz1, L2.fVar, L2.fC, L2.fOp, L2.fUn, L2.fCall, L2.fTup, L2.fLst, L2.fSl, L2.fIf, L2.fAnd, L2.fOr, L2.fNot, L2.fChain, L2.fIsin, L2.fFlat, L2.Flat, L2.fFrz, L2.frz, L2.fComp, L2.oNone, L2.oSome, L2.asI_int, L2.asB_bool, L2.aCons, L2.aNil, L2.bVal, L2.bNot, L2.bAnd, L2.bOr, L2.bTrue, L2.iFn, L2.iSq, L2.seqOf_list, L2.seqOf_tup, L2.outV_ret, L2.outV_next, L2.dats_nil, L2.dats_cons, L2.sName, L2.sTup, L2.sCons, L2.sNil, L2.gtName, L2.gtTup, L2.PV.d_dat, L2.PV.d_own, L2.muAbs,
 L2.addD_int, L2.subD_int, L2.ltD_int, L2.leD_int, L2.gtD_int, L2.geD_int, L2.eqDD_int, L2.neDD_int, L2.eqDD_str, L2.neDD_str, L2.ixD_tup, L2.ixD_list, L2.absD_int, L2.negD_int, L2.lenD_list, L2.lenD_tup, L2.tupD_list, L2.tupD_tup, L2.listD_list, L2.listD_tup, L2.slD_tup, L2.slD_list, L2.isD_none, L2.isNotD_none, L2.chain_if, L2.intD_int, L2.intD_bool, L2.sumD_list, L2.enumD_seq, L2.fIxO, L2.fListO, L2.gMut0, L2.isNone_tup, L2.isNone_lst, L2.isNone_int, L2.isNone_non, L2.isNone_str, L2.atI_0, L2.atI_1, L2.atI_2, L2.atI_3, L2.atI_4, L2.atI_5, L2.atI_6, L2.isI, L2.tyOf, String.reduceBEq,
 Option.bind_some, Option.bind_none, Option.map_some, Option.map_none, List.map_cons, List.map_nil, List.length_cons, List.length_nil, List.replicate, List.cons_append, List.nil_append, List.append_nil, List.set_cons_zero, List.set_cons_succ, List.getElem?_cons_zero, List.getElem?_cons_succ, Nat.reduceAdd, Nat.reduceSub, Nat.reduceEqDiff, Nat.reduceLeDiff, Nat.reduceLT, Int.reduceToNat, Int.cast_ofNat_Int, eq_self,
 if_true, if_false, reduceIte, decide_eq_true_eq, decide_true, decide_false, Bool.false_eq_true, Bool.not_eq_true', decide_eq_false_iff_not, Bool.not_true, Bool.not_false, not_true_eq_false, not_false_eq_true, Bool.true_or, Bool.false_or, Bool.or_true, Bool.or_false, Bool.and_true, Bool.true_and, Bool.and_false, Bool.false_and, reduceCtorEq, and_self])
namespace Law
open PySem L2 PySem.NumText PySem.StrLaws
noncomputable abbrev txtI (i : Int) : Str := Str.ofString (toString i)
theorem lg_small {n : Nat} (h : n < 10 ^ 60) : n.log2 < 1920 := by
 by_cases h0 : n = 0
 . subst h0; decide
 . exact (Nat.log2_lt h0).mpr (Nat.lt_of_lt_of_le (Nat.lt_trans h (show 10 ^ 60 < 2 ^ 200 by decide)) (Nat.pow_le_pow_right (by decide) (by decide)))
theorem strD_int {i : Int} (h : i.natAbs < 10 ^ 60) : strD [.int i] = some (.dat (.str (txtI i))) := by
 show (if i.natAbs.log2 < 1920 then some (PV.dat (.str (txtI i))) else none) = _
 rw [if_pos (lg_small h)]
theorem joinD_one (z : Str) (h : z.length <= 1000) : joinD (.str "") [.list [.str z]] = some (.dat (.str z)) := by
 have e : strsOf [.str z] = some [z] := rfl
 unfold joinD
 simp only [e, Option.bind_some]
 have hj : JoinOk "" [z] = true := by
  unfold JoinOk
  show (!decide (0 + z.length + 0 > sizeLine)) = true
  have : ¬ (0 + z.length + 0 > sizeLine) := by have := line63; have : (1000 : Nat) <= sizeLine := by decide
                                               omega
  rw [decide_eq_false this]
  rfl
 rw [if_pos hj]
 rfl
theorem len_txt {i : Int} (h : i.natAbs < 10 ^ 60) : (txtI i).length <= 61 := by
 rw [lz_len, lz_int]
 have hl := (numL_len (n := i.natAbs) (k := 60) (by decide)).mpr h
 unfold intL
 split
 . rw [List.length_cons]; omega
 . omega
theorem figures_eq {n : Int} (h0 : 0 <= n) (h : n.natAbs < 10 ^ 60) : F_figures_of [.int n] = some (.dat (.str (txtI n))) := by
 have hC : C_figures_of_0 [iD n, iD (10 ^ 60), some (.own []), iD n] = some false := by
  unfold C_figures_of_0
  walk_at "t"
  congr 1
  exact decide_eq_false (by omega)
 unfold F_figures_of
 walk_at "t"
 rw [powD_int cpow_10]
 walk_at "t"
 rw [whileD_false hC]
 walk_at "t"
 rw [strD_int h, appK_some (l := []) _ rfl (by decide)]
 walk_at "t"
 show ((joinD (.str "") [.list [.str (txtI n)]]).bind _).bind _ = _
 rw [joinD_one _ (Nat.le_trans (len_txt h) (by decide))]
 rfl
theorem addD_str {x y : Str} (h : x.length + y.length <= 1000000) : addD (.str x) (.str y) = some (.dat (.str (x ++ y))) := by
 show (if x.length + y.length <= 1000000 then some (PV.dat (.str (x ++ y))) else none) = _
 rw [if_pos h]
theorem lit_minus : lz (Str.ofString "-") = [45] := by decide +kernel
theorem lit_slash : lz (Str.ofString "/") = [47] := by decide +kernel
theorem minus_txt {i : Int} (h : i < 0) : (Str.ofString "-" ++ txtI (-i)) = txtI i := by
 apply str_ext
 rw [lz_app, lit_minus, lz_int, lz_int]
 unfold intL
 rw [if_neg (by omega), if_pos h, Int.natAbs_neg]
 rfl
noncomputable def txtF (p : Int × Int) : Str := if p.2 = 1 then txtI p.1 else txtI p.1 ++ Str.ofString "/" ++ txtI p.2
structure Small (p : Int × Int) : Prop where
 top : p.1.natAbs < 10 ^ 60
 bot : p.2.natAbs < 10 ^ 60
 pos : 0 < p.2
theorem written_eq {p : Int × Int} (h : Small p) : F_written [fr p] = some (.dat (.str (txtF p))) := by
 have hb0 : 0 <= p.2 := by have := h.pos; omega
 have lt1 := len_txt h.top
 have lt2 := len_txt h.bot
 have ls : (Str.ofString "/").length = 1 := by decide +kernel
 have lm : (Str.ofString "-").length = 1 := by decide +kernel
 have ha : 0 <= (if p.1 < 0 then -p.1 else p.1) := by split <;> omega
 have han : (if p.1 < 0 then -p.1 else p.1).natAbs < 10 ^ 60 := by
  split
  . rw [Int.natAbs_neg]; exact h.top
  . exact h.top
 unfold F_written txtF
 walk_at "t"
 rw [figures_eq ha han]
 walk_at "t"
 have hs : (if p.1 < 0 then letK (addD (.str (Str.ofString "-")) (.str (txtI (if p.1 < 0 then -p.1 else p.1)))) 1 [some (.dat (fr p)), some (.dat (.str (txtI (if p.1 < 0 then -p.1 else p.1))))] else some (Out.next [some (.dat (fr p)), some (.dat (.str (txtI (if p.1 < 0 then -p.1 else p.1))))])) = some (Out.next [some (.dat (fr p)), some (.dat (.str (txtI p.1)))]) := by
  by_cases hn : p.1 < 0
  . have l3 := len_txt (i := -p.1) (by rw [Int.natAbs_neg]; exact h.top)
    rw [if_pos hn, if_pos hn, addD_str (by omega), minus_txt hn]
    rfl
  . rw [if_neg hn, if_neg hn]
 rw [hs]
 walk_at "t"
 by_cases h1 : p.2 = 1
 . rw [if_neg (by simpa using h1), if_pos h1]
   walk_at "t"
 . rw [if_pos (by simpa using h1), if_neg h1, addD_str (by omega)]
   walk_at "t"
   rw [figures_eq hb0 h.bot]
   walk_at "t"
   rw [addD_str (by rw [lz_len, lz_app, List.length_append, <- lz_len, <- lz_len]; omega)]
   walk_at "t"
noncomputable def dig (c : Nat) : Bool := decide (48 <= c /\ c <= 57)
theorem all_dig {cs : List Nat} : cs.all dig = true ↔ AllDigits cs := by
 rw [List.all_eq_true]
 exact ⟨fun h c hc => of_decide_eq_true (h c hc), fun h c hc => decide_eq_true (h c hc)⟩
theorem lit_fig : lz (Str.ofString "0123456789") = [48, 49, 50, 51, 52, 53, 54, 55, 56, 57] := by decide +kernel
theorem fig_mem (c : Nat) : decide (c ∈ lz (Str.ofString "0123456789")) = dig c := by
 rw [lit_fig]
 unfold dig
 rw [Bool.eq_iff_iff, decide_eq_true_eq, decide_eq_true_eq]
 simp only [List.mem_cons, List.not_mem_nil, or_false]
 omega
theorem notIn_fig (c : Nat) : (or2 notInD notInSD) (.str ⟨#[c]⟩) (.str (Str.ofString "0123456789")) = some (.dat (.bool (!dig c))) := by
 show notInSD (.str ⟨#[c]⟩) (.str (Str.ofString "0123456789")) = _
 show some (PV.dat (.bool (!Txt.contains (Str.ofString "0123456789") ⟨#[c]⟩))) = _
 rw [contains_one, fig_mem]
noncomputable def rdFig (cs : List Nat) : Option Nat := if cs ≠ [] /\ cs.length <= 60 /\ cs.all dig = true then some (digitsVal cs) else none
noncomputable def natD : Option Nat -> PyData
 | none => .none
 | some n => .int (n : Nat)
noncomputable def intO : Option Int -> PyData
 | none => .none
 | some n => .int n
theorem B_readfig (z : Str) (c : Nat) : B_read_figures_0 [some (.dat (.str z)), some (.dat (.str ⟨#[c]⟩))] = if dig c = true then some (.next [some (.dat (.str z)), some (.dat (.str ⟨#[c]⟩))]) else some (.ret (.dat .none)) := by
 unfold B_read_figures_0
 walk_at "t"
 rw [show (c_FIGURES : PyData) = .str (Str.ofString "0123456789") from rfl, notIn_fig]
 walk_at "t"
 cases dig c <;> rfl
theorem for_readfig (z : Str) : ∀ (l : List Nat) (y : Option PV), (l.all dig = true -> ∃ y', forD (sName 1) B_read_figures_0 (l.map fun c => .str ⟨#[c]⟩) [some (.dat (.str z)), y] = some (.next [some (.dat (.str z)), y'])) /\ (l.all dig = false -> forD (sName 1) B_read_figures_0 (l.map fun c => .str ⟨#[c]⟩) [some (.dat (.str z)), y] = some (.ret (.dat .none)))
 | [], y => ⟨fun _ => ⟨y, rfl⟩, fun h => by cases h⟩
 | c :: r, y => by
  obtain ⟨h1, h2⟩ := for_readfig z r (some (.dat (.str ⟨#[c]⟩)))
  have hb := B_readfig z c
  rw [List.all_cons, List.map_cons]
  cases hc : dig c with
  | true =>
   rw [hc, if_pos rfl] at hb
   have e := forD_next (gt := sName 1) (G := B_read_figures_0) (d := .str ⟨#[c]⟩) (r := r.map fun c => .str ⟨#[c]⟩) (ds := [some (.dat (.str z)), y]) rfl hb
   rw [e, Bool.true_and]
   exact ⟨h1, h2⟩
  | false =>
   rw [hc, if_neg (by decide)] at hb
   refine ⟨fun h => (by cases h), fun _ => ?_⟩
   unfold forD
   show (B_read_figures_0 [some (.dat (.str z)), some (.dat (.str ⟨#[c]⟩))]).bind _ = _
   rw [hb]
   rfl
theorem eq_empty (z : Str) : (z = Str.ofString "") ↔ lz z = [] := ⟨fun h => by rw [h]; decide +kernel, fun h => str_ext (by rw [h]; decide +kernel)⟩
theorem lenD_str {z : Str} (h : z.length <= 1000000) : lenD [.str z] = some (.dat (.int (z.length : Nat))) := by
 show (if z.length <= 1000000 then some (PV.dat (.int (z.length : Nat))) else none) = _
 rw [if_pos h]
theorem intD_str {z : Str} (h1 : AllDigits (lz z)) (h2 : lz z ≠ []) (h3 : (lz z).length <= 60) : (or1 intD intSD) [.str z] = some (.dat (.int (digitsVal (lz z) : Nat))) := by
 have hl := lz_len z
 show (if z.length <= 640 then (PySem.intText? z).bind fun n => some (PV.dat (.int n)) else none) = _
 rw [if_pos (by omega), intText_digits h1 h2 (by omega)]
 rfl
theorem readfig_eq {z : Str} (hz : z.length <= 1000) : F_read_figures [.str z] = some (.dat (natD (rdFig (lz z)))) := by
 have hl := lz_len z
 unfold F_read_figures rdFig
 walk_at "t"
 rw [lenD_str (by omega), show (c_MOST_FIGURES : PyData) = .int 60 from rfl]
 walk_at "t"
 by_cases h1 : lz z = []
 . rw [if_pos ((eq_empty z).mpr h1), if_neg (show ¬ (lz z ≠ [] /\ (lz z).length <= 60 /\ (lz z).all dig = true) from fun hh => hh.1 h1)]
   rfl
 . rw [if_neg (fun e => h1 ((eq_empty z).mp e))]
   by_cases h2 : (lz z).length <= 60
   . have e2 : ¬ ((z.length : Int) > 60) := by omega
     walk_at "t"
     rw [if_neg (show ¬ ((60 : Int) < (z.length : Nat)) by omega)]
     walk_at "t"
     obtain ⟨f1, f2⟩ := for_readfig z (lz z) none
     cases h3 : (lz z).all dig with
     | true =>
      obtain ⟨y', f1⟩ := f1 h3
      rw [if_pos ⟨h1, h2, rfl⟩]
      show (seqK (forD (sName 1) B_read_figures_0 ((lz z).map fun c => .str ⟨#[c]⟩) [some (.dat (.str z)), none]) _).bind _ = _
      rw [f1]
      walk_at "t"
      rw [intD_str (all_dig.mp h3) h1 h2]
      rfl
     | false =>
      rw [if_neg (show ¬ (lz z ≠ [] /\ (lz z).length <= 60 /\ false = true) from fun hh => by cases hh.2.2)]
      show (seqK (forD (sName 1) B_read_figures_0 ((lz z).map fun c => .str ⟨#[c]⟩) [some (.dat (.str z)), none]) _).bind _ = _
      rw [f2 h3]
      rfl
   . have e2 : ((z.length : Int) > 60) := by omega
     rw [if_neg (show ¬ (lz z ≠ [] /\ (lz z).length <= 60 /\ (lz z).all dig = true) from fun hh => h2 hh.2.1)]
     walk_at "t"
     rw [if_pos (show (60 : Int) < (z.length : Nat) by omega)]
     rfl
theorem ofs_minus : Str.ofString "-" = ⟨#[45]⟩ := str_ext (by decide +kernel)
theorem ofs_slash : Str.ofString "/" = ⟨#[47]⟩ := str_ext (by decide +kernel)
noncomputable def rdSig (cs : List Nat) : Option Int := if cs.head? = some 45 then (rdFig (cs.drop 1)).map fun n => -((n : Nat) : Int) else (rdFig cs).map fun n => ((n : Nat) : Int)
theorem natD_int (o : Option Nat) : natD o = intO (o.map fun n => ((n : Nat) : Int)) := by cases o <;> rfl
theorem slAD_from {z : Str} (h : z.length <= 1000000) (i : Nat) : slAD (.str z) (some (i : Int)) none = some (.dat (.str (Txt.slice z (some (i : Int)) none))) := by
 show (if z.length <= 1000000 then some (PV.dat (.str (Txt.slice z (some (i : Int)) none))) else none) = _
 rw [if_pos h]
theorem readsig_eq {z : Str} (hz : z.length <= 1000) : F_read_signed [.str z] = some (.dat (intO (rdSig (lz z)))) := by
 have hl := lz_len z
 unfold F_read_signed rdSig
 walk_at "t"
 rw [ofs_minus, starts_one]
 walk_at "t"
 by_cases h : (lz z).head? = some 45
 . rw [if_pos h]
   simp only [h, decide_true, Bool.not_true, Bool.false_eq_true, if_false]
   walk_at "t"
   rw [show (1 : Int) = ((1 : Nat) : Int) from rfl, slAD_from (by omega)]
   walk_at "t"
   rw [readfig_eq (Nat.le_trans (Txt.slice_le z _ _) hz), show lz (Txt.slice z (some 1) none) = (lz z).drop 1 from lz_from z 1]
   walk_at "t"
   cases rdFig ((lz z).drop 1) with
   | none => rfl
   | some n => rfl
 . rw [if_neg h]
   simp only [h, decide_false, Bool.not_false, if_true]
   rw [readfig_eq hz, natD_int]
   rfl
theorem val_lt {cs : List Nat} (h : AllDigits cs) : digitsVal cs < 10 ^ cs.length := by
 have key : ∀ (l : List Nat) (a : Nat), AllDigits l -> l.foldl (fun acc c => acc * 10 + (c - 48)) a < (a + 1) * 10 ^ l.length := by
  intro l
  induction l with
  | nil => intro a _; simp
  | cons d l ih =>
   intro a hl
   have hd := hl.head
   have := ih (a * 10 + (d - 48)) hl.tail
   rw [List.foldl_cons]
   refine Nat.lt_of_lt_of_le this ?_
   rw [List.length_cons, Nat.pow_succ, Nat.mul_comm (10 ^ l.length) 10, <- Nat.mul_assoc]
   exact Nat.mul_le_mul_right _ (by omega)
 have := key cs 0 h
 simpa [digitsVal] using this
theorem rdFig_lt {cs : List Nat} {n : Nat} (h : rdFig cs = some n) : n < 10 ^ 60 := by
 unfold rdFig at h
 split at h
 . rename_i hh
   cases h
   exact Nat.lt_of_lt_of_le (val_lt (all_dig.mp hh.2.2)) (Nat.pow_le_pow_right (by decide) hh.2.1)
 . cases h
theorem rdSig_lt {cs : List Nat} {n : Int} (h : rdSig cs = some n) : n.natAbs < 10 ^ 60 := by
 unfold rdSig at h
 split at h
 . cases e : rdFig (cs.drop 1) with
   | none => rw [e] at h; cases h
   | some m =>
    rw [e] at h
    cases h
    have := rdFig_lt e
    rw [Int.natAbs_neg]
    exact this
 . cases e : rdFig cs with
   | none => rw [e] at h; cases h
   | some m =>
    rw [e] at h
    cases h
    exact rdFig_lt e
noncomputable def cutA (cs : List Nat) : List Nat := if 47 ∈ cs then cs.take (cs.idxOf 47) else cs
noncomputable def cutB (cs : List Nat) : List Nat := if 47 ∈ cs then cs.drop (cs.idxOf 47 + 1) else []
noncomputable def frO : Option (Int × Int) -> PyData
 | none => .none
 | some q => fr q
noncomputable def judge (cs : List Nat) : Option Int -> Option Nat -> Option (Int × Int)
 | some t, some b => if b = 0 then none else if lz (txtF (lowF t b)) = cs then some (lowF t b) else none
 | _, _ => none
noncomputable def rdFrac (cs : List Nat) : Option (Int × Int) := judge cs (rdSig (cutA cs)) (if 47 ∈ cs then rdFig (cutB cs) else some 1)
theorem cut_parts (z : Str) : ∃ a b c, cutAtD z ⟨#[47]⟩ = [a, b, c] /\ lz a = cutA (lz z) /\ lz b = (if 47 ∈ lz z then [47] else []) /\ lz c = cutB (lz z) := by
 have h := cut_one z 47
 unfold cutA cutB
 have three : ∀ {l : List Str} {p q r : List Nat}, l.map lz = [p, q, r] -> ∃ a b c, l = [a, b, c] /\ lz a = p /\ lz b = q /\ lz c = r := fun {l p q r} h => by
  have hl := congrArg List.length h
  rw [List.length_map] at hl
  obtain ⟨a, b, c, rfl⟩ := len3 hl
  simp only [List.map_cons, List.map_nil, List.cons.injEq, and_true] at h
  exact ⟨a, b, c, rfl, h.1, h.2.1, h.2.2⟩
 by_cases hm : 47 ∈ lz z
 . rw [if_pos hm] at h
   simp only [if_pos hm]
   exact three h
 . rw [if_neg hm] at h
   simp only [if_neg hm]
   exact three h
theorem partD_slash {z : Str} (h : z.length <= 1000) : partD (.str z) [.str (Str.ofString "/")] = some (.dat (.tuple ((cutAtD z ⟨#[47]⟩).map .str))) := by
 show (if ((Str.ofString "/").length == 0) = false /\ z.length <= 1000000 then some (PV.dat (.tuple ((cutAtD z (Str.ofString "/")).map .str))) else none) = _
 rw [if_pos ⟨by decide +kernel, by omega⟩, ofs_slash]
theorem cutA_len (cs : List Nat) : (cutA cs).length <= cs.length := by
 unfold cutA
 split
 . rw [List.length_take]; omega
 . exact Nat.le_refl _
theorem cutB_len (cs : List Nat) : (cutB cs).length <= cs.length := by
 unfold cutB
 split
 . rw [List.length_drop]; omega
 . exact Nat.zero_le _
theorem ediv_le (t : Int) {g : Int} : (t / g).natAbs <= t.natAbs := Int.natAbs_ediv_le_natAbs t g
theorem low_small {t b : Int} (hb : 0 < b) (h1 : t.natAbs < 10 ^ 60) (h2 : b.natAbs < 10 ^ 60) : Small (lowF t b) := by
 have hg : 0 < Int.gcd t b := Int.gcd_pos_of_ne_zero_right t (by omega)
 have hgi : (0 : Int) < gc t b := by show (0 : Int) < ((Int.gcd t b : Nat) : Int); omega
 have e : lowF t b = (t / gc t b, b / gc t b) := by
  unfold lowF
  rw [if_neg (by omega), Int.fdiv_eq_ediv_of_nonneg _ (by omega), Int.fdiv_eq_ediv_of_nonneg _ (by omega)]
 have d2 : gc t b ∣ b := Int.gcd_dvd_right ..
 rw [e]
 exact ⟨Nat.lt_of_le_of_lt (ediv_le t) h1, Nat.lt_of_le_of_lt (ediv_le b) h2, Int.ediv_pos_of_pos_of_dvd hb (by omega) d2⟩
theorem bt_nat {i : Int} (h : i.natAbs < 10 ^ 60) : Bt 8000 i := ⟨Nat.lt_of_lt_of_le (Nat.lt_trans h (show 10 ^ 60 < 2 ^ 200 by decide)) (Nat.pow_le_pow_right (by decide) (by decide))⟩
theorem readfrac_eq {z : Str} (hz : z.length <= 1000) : F_read_fraction [.str z] = some (.dat (frO (rdFrac (lz z)))) := by
 have hl := lz_len z
 obtain ⟨a, b, c, ec, la, lb, lc⟩ := cut_parts z
 have za : a.length <= 1000 := by rw [lz_len, la]; exact Nat.le_trans (cutA_len _) (by omega)
 have zc : c.length <= 1000 := by rw [lz_len, lc]; exact Nat.le_trans (cutB_len _) (by omega)
 have eb : (b = Str.ofString "/") ↔ 47 ∈ lz z := by
  constructor
  . intro e
    rw [e, lit_slash] at lb
    by_cases hm : 47 ∈ lz z
    . exact hm
    . rw [if_neg hm] at lb; cases lb
  . intro hm
    rw [if_pos hm] at lb
    exact str_ext (by rw [lb, lit_slash])
 unfold F_read_fraction rdFrac
 walk_at "t"
 rw [partD_slash hz, ec]
 walk_at "t"
 rw [readsig_eq za, la]
 walk_at "t"
 rw [readfig_eq zc, lc]
 walk_at "t"
 have hs : (if b = Str.ofString "/" then some (Out.next [some (PV.dat (PyData.str z)), some (PV.dat (PyData.tuple [.str a, .str b, .str c])), some (PV.dat (intO (rdSig (cutA (lz z))))), some (PV.dat (natD (rdFig (cutB (lz z))))), none]) else some (Out.next [some (PV.dat (PyData.str z)), some (PV.dat (PyData.tuple [.str a, .str b, .str c])), some (PV.dat (intO (rdSig (cutA (lz z))))), some (PV.dat (PyData.int 1)), none]))
   = some (Out.next [some (PV.dat (PyData.str z)), some (PV.dat (PyData.tuple [.str a, .str b, .str c])), some (PV.dat (intO (rdSig (cutA (lz z))))), some (PV.dat (natD (if 47 ∈ lz z then rdFig (cutB (lz z)) else some 1))), none]) := by
  by_cases hm : 47 ∈ lz z
  . rw [if_pos (eb.mpr hm), if_pos hm]
  . rw [if_neg (fun e => hm (eb.mp e)), if_neg hm]
    rfl
 rw [hs]
 have hbig : ∀ n, (if 47 ∈ lz z then rdFig (cutB (lz z)) else some 1) = some n -> n < 10 ^ 60 := fun n h => by
  split at h
  . exact rdFig_lt h
  . cases h; decide
 generalize hB : (if 47 ∈ lz z then rdFig (cutB (lz z)) else some 1) = B at hbig
 generalize hA : rdSig (cutA (lz z)) = A
 cases A with
 | none => rfl
 | some t =>
  have ht := rdSig_lt hA
  cases B with
  | none => rfl
  | some n =>
   have hn := hbig n rfl
   walk_at "t"
   rw [show intO (some t) = .int t from rfl, show natD (some n) = .int ((n : Nat) : Int) from rfl]
   walk_at "t"
   rw [show judge (lz z) (some t) (some n) = (if n = 0 then none else if lz (txtF (lowF t ((n : Nat) : Int))) = lz z then some (lowF t ((n : Nat) : Int)) else none) from rfl]
   by_cases h0 : n = 0
   . rw [if_pos (show ((n : Nat) : Int) = 0 by omega), if_pos h0]
     rfl
   . rw [if_neg (show ¬ (((n : Nat) : Int) = 0) by omega), if_neg h0]
     walk_at "t"
     have hs := low_small (t := t) (b := ((n : Nat) : Int)) (by omega) ht hn
     rw [fraction_eq (b := ((n : Nat) : Int)) (by omega) (bt_nat (i := ((n : Nat) : Int)) hn)]
     walk_at "t"
     rw [written_eq hs]
     walk_at "t"
     have ez : (txtF (lowF t ((n : Nat) : Int)) = z) ↔ lz (txtF (lowF t ((n : Nat) : Int))) = lz z := ⟨fun e => by rw [e], str_ext⟩
     by_cases he : txtF (lowF t ((n : Nat) : Int)) = z
     . rw [if_pos (ez.mp he), if_neg (by simpa using he)]
       rfl
     . rw [if_neg (fun e => he (ez.mpr e)), if_pos (by simpa using he)]
       rfl
theorem intL_abs {n : Int} (h : 0 <= n) : intL n = numL n.natAbs := by
 unfold intL
 rw [if_neg (by omega)]
theorem numL_head {n : Nat} {c : Nat} (h : (numL n).head? = some c) : 48 <= c /\ c <= 57 := numL_digits n c (List.mem_of_mem_head? (by rw [h]; rfl))
theorem rdFig_num {n : Nat} (h : n < 10 ^ 60) : rdFig (numL n) = some n := by
 have hp := numL_plain n
 have hl := (numL_len (n := n) (k := 60) (by decide)).mpr h
 unfold rdFig
 rw [if_pos ⟨hp.2.1, hl, all_dig.mpr hp.1⟩, numL_val]
theorem rdSig_int {n : Int} (h : n.natAbs < 10 ^ 60) : rdSig (intL n) = some n := by
 unfold rdSig intL
 split
 . rename_i h0
   rw [if_pos (show (45 :: numL n.natAbs).head? = some 45 from rfl), show (45 :: numL n.natAbs).drop 1 = numL n.natAbs from rfl, rdFig_num h]
   show some (-((n.natAbs : Nat) : Int)) = _
   congr 1
   omega
 . rename_i h0
   rw [if_neg (fun q => by have := numL_head q; omega), rdFig_num h]
   show some ((n.natAbs : Nat) : Int) = _
   congr 1
   omega
theorem no_slash_num (n : Nat) : 47 ∉ numL n := fun h => by
 have := numL_digits n 47 h
 omega
theorem no_slash_int (n : Int) : 47 ∉ intL n := by
 unfold intL
 split
 . intro h
   rcases List.mem_cons.mp h with h | h
   . cases h
   . exact no_slash_num _ h
 . exact no_slash_num _
end Law
namespace Law
open PySem L2 PySem.NumText PySem.StrLaws
theorem os_inj {a b : String} : (Str.ofString a = Str.ofString b) = (a = b) := by
 refine propext ⟨fun h => ?_, fun h => by rw [h]⟩
 rw [Str.ofString_eq_toList, Str.ofString_eq_toList] at h
 injection h with h
 injection h with h
 have : a.toList = b.toList := List.map_inj_right (fun x y e => Char.toNat_inj.mp e) |>.mp h
 exact String.toList_inj.mp this
theorem lz_join (s : Str) : ∀ (ws : List Str), lz (Str.join s ws) = (match ws with | [] => [] | w :: r => lz w ++ (r.map fun x => lz s ++ lz x).flatten)
 | [] => rfl
 | [w] => by simp [Str.join]
 | w :: x :: r => by
  have ih := lz_join s (x :: r)
  show lz (w ++ s ++ Str.join s (x :: r)) = _
  rw [lz_app, lz_app, ih]
  simp [List.append_assoc]
theorem join_uniq {c : Nat} : ∀ (a b : List (List Nat)) (x y : List Nat), (∀ l ∈ x :: a, c ∉ l) -> (∀ l ∈ y :: b, c ∉ l) -> x ++ (a.map fun z => c :: z).flatten = y ++ (b.map fun z => c :: z).flatten -> x = y /\ a = b
 | a, b, x, y, ha, hb, e => by
  have key : ∀ (x y : List Nat) (p q : List Nat), c ∉ x -> c ∉ y -> (p = [] \/ p.head? = some c) -> (q = [] \/ q.head? = some c) -> x ++ p = y ++ q -> x = y /\ p = q := by
   intro x
   induction x with
   | nil =>
    intro y p q hx hy hp hq e
    cases y with
    | nil => exact ⟨rfl, e⟩
    | cons d y =>
     rw [List.nil_append] at e
     rcases hp with rfl | hp
     . simp at e
     . rw [e] at hp
       simp at hp
       exact absurd (by simp [hp]) hy
   | cons d x ih =>
    intro y p q hx hy hp hq e
    cases y with
    | nil =>
     rw [List.nil_append] at e
     rcases hq with rfl | hq
     . simp at e
     . rw [<- e] at hq
       simp at hq
       exact absurd (by simp [hq]) hx
    | cons d' y =>
     rw [List.cons_append, List.cons_append] at e
     injection e with e1 e2
     obtain ⟨h1, h2⟩ := ih y p q (fun z => hx (List.mem_cons_of_mem _ z)) (fun z => hy (List.mem_cons_of_mem _ z)) hp hq e2
     exact ⟨by rw [e1, h1], h2⟩
  have hd : ∀ l : List (List Nat), (l.map fun z => c :: z).flatten = [] \/ ((l.map fun z => c :: z).flatten).head? = some c := fun l => by
   cases l with
   | nil => exact .inl rfl
   | cons z l => exact .inr rfl
  obtain ⟨h1, h2⟩ := key x y _ _ (ha x (by simp)) (hb y (by simp)) (hd a) (hd b) e
  refine ⟨h1, ?_⟩
  cases a with
  | nil =>
   cases b with
   | nil => rfl
   | cons z b => simp at h2
  | cons z a =>
   cases b with
   | nil => simp at h2
   | cons z' b =>
    have h2' : c :: (z ++ (a.map fun z => c :: z).flatten) = c :: (z' ++ (b.map fun z => c :: z).flatten) := by simpa using h2
    injection h2' with _ h3
    obtain ⟨h4, h5⟩ := join_uniq a b z z' (fun l hl => ha l (List.mem_cons_of_mem _ hl)) (fun l hl => hb l (List.mem_cons_of_mem _ hl)) h3
    rw [h4, h5]
termination_by a => a.length
theorem split_join {c : Nat} {ws : List Str} (hn : ws ≠ []) (hf : ∀ w ∈ ws, c ∉ lz w) : Txt.split (Txt.join ⟨#[c]⟩ ws) ⟨#[c]⟩ = ws := by
 have hj := join_split (Txt.join ⟨#[c]⟩ ws) ⟨#[c]⟩
 have hs := split_free (Txt.join ⟨#[c]⟩ ws) c
 have hp := PyProof.Rows.split_pos (Txt.join ⟨#[c]⟩ ws) ⟨#[c]⟩
 rw [show Txt.join ⟨#[c]⟩ ws = Str.join ⟨#[c]⟩ ws from glued_eq_join _ _] at *
 generalize Txt.split (Str.join ⟨#[c]⟩ ws) ⟨#[c]⟩ = S at *
 cases S with
 | nil => simp at hp
 | cons y b =>
  cases ws with
  | nil => exact absurd rfl hn
  | cons x a =>
   have e := congrArg lz hj
   rw [lz_join, lz_join] at e
   have e' : lz y ++ ((b.map lz).map fun z => c :: z).flatten = lz x ++ ((a.map lz).map fun z => c :: z).flatten := by
    rw [List.map_map, List.map_map]
    exact e
   obtain ⟨h1, h2⟩ := join_uniq (b.map lz) (a.map lz) (lz y) (lz x) (fun l hl => by
    rcases List.mem_cons.mp hl with rfl | hl
    . exact hs y (by simp)
    . obtain ⟨w, hw, rfl⟩ := List.mem_map.mp hl
      exact hs w (by simp [hw])) (fun l hl => by
    rcases List.mem_cons.mp hl with rfl | hl
    . exact hf x (by simp)
    . obtain ⟨w, hw, rfl⟩ := List.mem_map.mp hl
      exact hf w (by simp [hw])) e'
   rw [str_ext h1, List.map_inj_right (fun x y e => str_ext e) |>.mp h2]
theorem sp_one : Str.ofString " " = ⟨#[32]⟩ := str_ext (by decide +kernel)
theorem join_len {ws : List Str} (hl : ws.length <= 700) (h : ∀ w ∈ ws, w.length <= 130) : (Txt.join ⟨#[32]⟩ ws).length <= 92000 := by
 have e := size_glued ⟨#[32]⟩ ws
 have s : (ws.map (·.length)).sum <= ws.length * 130 := by
  clear hl e
  induction ws with
  | nil => simp
  | cons w r ih =>
   have := h w (by simp)
   have := ih fun x hx => h x (by simp [hx])
   simp only [List.map_cons, List.sum_cons, List.length_cons, Nat.add_mul]
   omega
 have : (Txt.join ⟨#[32]⟩ ws).length = (ws.map (·.length)).sum + (ws.length - 1) * 1 := e
 omega
theorem splitD_eq {ws : List Str} (hn : ws ≠ []) (hl : ws.length <= 700) (h : ∀ w ∈ ws, w.length <= 130) (hf : ∀ w ∈ ws, 32 ∉ lz w) : splitD (.str (Txt.join ⟨#[32]⟩ ws)) [.str (Str.ofString " ")] = some (.own (ws.map .str)) := by
 have hj := join_len hl h
 unfold splitD
 rw [sp_one]
 simp only
 rw [if_pos ⟨by decide, by omega⟩, split_join hn hf]
theorem low_one (n : Int) : lowF n 1 = (n, 1) := by
 have h1 : gc n 1 = 1 := by show ((Int.gcd n 1 : Nat) : Int) = 1; simp
 unfold lowF
 rw [if_neg (by decide), h1]
 simp
theorem rdFrac_int {n : Int} (h : n.natAbs < 10 ^ 60) : rdFrac (intL n) = some (n, 1) := by
 have hs := no_slash_int n
 unfold rdFrac cutA
 rw [if_neg hs, if_neg hs, rdSig_int h]
 show (if (1 : Nat) = 0 then none else if lz (txtF (lowF n ((1 : Nat) : Int))) = intL n then some (lowF n ((1 : Nat) : Int)) else none) = some (n, 1)
 rw [if_neg (by decide), show (((1 : Nat) : Int)) = 1 from rfl, low_one]
 have e : lz (txtF (n, 1)) = intL n := by
  unfold txtF
  rw [if_pos rfl]
  exact lz_int n
 rw [if_pos e]
end Law
namespace Law
open PySem L2 PySem.NumText PySem.StrLaws
theorem cut_app {A B : List Nat} (h : 47 ∉ A) : cutA (A ++ 47 :: B) = A /\ cutB (A ++ 47 :: B) = B := by
 have hm : 47 ∈ A ++ 47 :: B := List.mem_append_right _ List.mem_cons_self
 have hi : (A ++ 47 :: B).idxOf 47 = A.length := by
  rw [List.idxOf_append, if_neg h, List.idxOf_cons_self, Nat.zero_add]
 unfold cutA cutB
 rw [if_pos hm, if_pos hm, hi, List.take_left, <- List.drop_drop, List.drop_left]
 exact ⟨rfl, rfl⟩
theorem lz_txtF {q : Int × Int} (hq : 0 < q.2) : lz (txtF q) = if q.2 = 1 then intL q.1 else intL q.1 ++ 47 :: numL q.2.natAbs := by
 unfold txtF
 split
 . rw [lz_int]
 . rw [lz_app, lz_app, lit_slash, lz_int, lz_int, intL_abs (n := q.2) (by omega), List.append_assoc]
   rfl
theorem low_self1 {t b : Int} (hb : 0 < b) (h : Int.gcd t b = 1) : lowF t b = (t, b) := by
 unfold lowF
 rw [if_neg (by omega)]
 have e : gc t b = 1 := by show ((Int.gcd t b : Nat) : Int) = 1; rw [h]; rfl
 rw [e, Int.fdiv_one, Int.fdiv_one]
theorem rdFrac_low {q : Int × Int} (h0 : 0 < q.2) (h1 : Int.gcd q.1 q.2 = 1) (hs : Small q) (hn : q.1.natAbs < 10 ^ 60) (hd : q.2.natAbs < 10 ^ 60) : rdFrac (lz (txtF q)) = some q := by
 by_cases c : q.2 = 1
 . have e : lz (txtF q) = intL q.1 := by rw [lz_txtF h0, if_pos c]
   rw [e, rdFrac_int hn]
   exact congrArg some (Prod.ext rfl c.symm)
 . have e : lz (txtF q) = intL q.1 ++ 47 :: numL q.2.natAbs := by rw [lz_txtF h0, if_neg c]
   have hm : 47 ∈ lz (txtF q) := by rw [e]; exact List.mem_append_right _ List.mem_cons_self
   obtain ⟨c1, c2⟩ := cut_app (A := intL q.1) (B := numL q.2.natAbs) (no_slash_int q.1)
   unfold rdFrac
   rw [if_pos hm]
   rw [show cutA (lz (txtF q)) = intL q.1 by rw [e]; exact c1, show cutB (lz (txtF q)) = numL q.2.natAbs by rw [e]; exact c2, rdSig_int hn, rdFig_num hd]
   have eb : ((q.2.natAbs : Nat) : Int) = q.2 := by omega
   show (if q.2.natAbs = 0 then none else if lz (txtF (lowF q.1 ((q.2.natAbs : Nat) : Int))) = lz (txtF q) then some (lowF q.1 ((q.2.natAbs : Nat) : Int)) else none) = some q
   rw [if_neg (by omega), eb, low_self1 h0 h1, if_pos rfl]
theorem nat60 {n : Int} (h : -1000000 <= n /\ n <= 1000000) : n.natAbs < 10 ^ 60 := Nat.lt_of_le_of_lt (show n.natAbs <= 1000000 by omega) (by decide)
theorem rwhole_eq {n least : Int} (h0 : least <= n) (h1 : n <= 1000000) (hl : -1000000 <= least) : F_read_whole [.str (txtI n), .int least] = some (.dat (.int n)) := by
 have hn : n.natAbs < 10 ^ 60 := nat60 ⟨by omega, h1⟩
 have rf := readfrac_eq (z := txtI n) (Nat.le_trans (len_txt hn) (by decide))
 rw [lz_int, rdFrac_int hn] at rf
 unfold F_read_whole
 walk_at "t"
 rw [rf]
 walk_at "t"
 show _ = _
 unfold frO
 walk_at "t"
 rw [if_neg (by omega), decide_eq_false (show ¬ 1000000 < n by omega)]
 walk_at "t"
theorem ramount_eq {n : Int} (h0 : 0 <= n) (h1 : n <= 1000000) : F_read_amount [.str (txtI n)] = some (.dat (.int n)) := by
 unfold F_read_amount
 walk_at "t"
 rw [rwhole_eq h0 h1 (by decide)]
 walk_at "t"
theorem rprice_eq {n : Int} (h0 : -1000000 <= n) (h1 : n <= 1000000) : F_read_price [.str (txtI n)] = some (.dat (.int n)) := by
 unfold F_read_price
 walk_at "t"
 rw [rwhole_eq h0 h1 (by decide)]
 walk_at "t"
structure Shr (q : Int × Int) : Prop where
 pos : 0 < q.1
 le : q.1 <= q.2
 most : q.2 <= 1000
 low : Int.gcd q.1 q.2 = 1
end Law
namespace Law
open PySem L2 PySem.NumText PySem.StrLaws
theorem Shr.small {q : Int × Int} (h : Shr q) : Small q := by
 have := h.pos; have := h.le; have := h.most
 exact ⟨nat60 ⟨by omega, by omega⟩, nat60 ⟨by omega, by omega⟩, by omega⟩
theorem Shr.len {q : Int × Int} (h : Shr q) : (txtF q).length <= 130 := by
 have s := h.small
 have l1 := len_txt s.top
 have l2 := len_txt s.bot
 unfold txtF
 split
 . omega
 . rw [lz_len, lz_app, lz_app, List.length_append, List.length_append, lit_slash, <- lz_len, <- lz_len]
   show _ + 1 + _ <= 130
   omega
theorem rshare_eq {q : Int × Int} (h : Shr q) : F_read_share [.str (txtF q)] = some (.dat (fr q)) := by
 have p0 := h.pos; have p1 := h.le; have p2 := h.most
 have s := h.small
 have rf := readfrac_eq (z := txtF q) (Nat.le_trans h.len (by decide))
 rw [rdFrac_low s.pos h.low s s.top s.bot] at rf
 unfold F_read_share
 walk_at "t"
 rw [rf]
 walk_at "t"
 show _ = _
 unfold frO
 walk_at "t"
 rw [if_neg (by omega), if_neg (by omega), decide_eq_false (show ¬ 1000 < q.2 by omega)]
 walk_at "t"
noncomputable def ltr (c : Nat) : Bool := decide (97 <= c /\ c <= 122)
structure Nm (z : Str) : Prop where
 ne : lz z ≠ []
 len : (lz z).length <= 8
 all : (lz z).all ltr = true
theorem lit_ltr : lz (Str.ofString "abcdefghijklmnopqrstuvwxyz") = [97, 98, 99, 100, 101, 102, 103, 104, 105, 106, 107, 108, 109, 110, 111, 112, 113, 114, 115, 116, 117, 118, 119, 120, 121, 122] := by decide +kernel
theorem ltr_mem {c : Nat} (h : ltr c = true) : c ∈ lz (Str.ofString "abcdefghijklmnopqrstuvwxyz") := by
 rw [lit_ltr]
 have := of_decide_eq_true h
 simp only [List.mem_cons, List.not_mem_nil, or_false]
 omega
end Law
namespace Law
open PySem L2 PySem.NumText PySem.StrLaws
theorem B_rname (z : Str) {c : Nat} (h : ltr c = true) : B_read_name_0 [some (.dat (.str z)), some (.dat (.str ⟨#[c]⟩))] = some (.next [some (.dat (.str z)), some (.dat (.str ⟨#[c]⟩))]) := by
 have e : (or2 notInD notInSD) (.str ⟨#[c]⟩) (.str (Str.ofString "abcdefghijklmnopqrstuvwxyz")) = some (.dat (.bool false)) := by
  show some (PV.dat (.bool (!Txt.contains (Str.ofString "abcdefghijklmnopqrstuvwxyz") ⟨#[c]⟩))) = _
  rw [contains_one, decide_eq_true (ltr_mem h)]
  rfl
 unfold B_read_name_0
 walk_at "t"
 rw [show (c_LETTERS : PyData) = .str (Str.ofString "abcdefghijklmnopqrstuvwxyz") from rfl, e]
 walk_at "t"
theorem for_rname (z : Str) : ∀ (l : List Nat) (y : Option PV), l.all ltr = true -> ∃ y', forD (sName 1) B_read_name_0 (l.map fun c => .str ⟨#[c]⟩) [some (.dat (.str z)), y] = some (.next [some (.dat (.str z)), y'])
 | [], y, _ => ⟨y, rfl⟩
 | c :: r, y, h => by
  rw [List.all_cons, Bool.and_eq_true] at h
  obtain ⟨y', e⟩ := for_rname z r (some (.dat (.str ⟨#[c]⟩))) h.2
  refine ⟨y', ?_⟩
  rw [List.map_cons, forD_next rfl (B_rname z h.1)]
  exact e
theorem rname_eq {z : Str} (h : Nm z) : F_read_name [.str z] = some (.dat (.str z)) := by
 have hl := lz_len z
 have h8 := h.len
 unfold F_read_name
 walk_at "t"
 rw [lenD_str (by omega), show (c_MOST_LETTERS : PyData) = .int 8 from rfl]
 walk_at "t"
 rw [if_neg (fun e => h.ne ((eq_empty z).mp e)), decide_eq_false (show ¬ ((8 : Int) < (z.length : Nat)) by omega)]
 walk_at "t"
 obtain ⟨y', f1⟩ := for_rname z (lz z) none h.all
 show (seqK (forD (sName 1) B_read_name_0 ((lz z).map fun c => .str ⟨#[c]⟩) [some (.dat (.str z)), none]) _).bind _ = _
 rw [f1]
 walk_at "t"
inductive Wrd where
 | am (n : Int)
 | pr (n : Int)
 | sh (q : Int × Int)
 | nm (z : Str)
noncomputable def Wrd.rd : Wrd -> PyData
 | .am _ => fnD "read_amount"
 | .pr _ => fnD "read_price"
 | .sh _ => fnD "read_share"
 | .nm _ => fnD "read_name"
noncomputable def Wrd.w : Wrd -> Str
 | .am n => txtI n
 | .pr n => txtI n
 | .sh q => txtF q
 | .nm z => z
noncomputable def Wrd.v : Wrd -> PyData
 | .am n => .int n
 | .pr n => .int n
 | .sh q => fr q
 | .nm z => .str z
noncomputable def Wrd.ok : Wrd -> Prop
 | .am n => 0 <= n /\ n <= 1000000
 | .pr n => -1000000 <= n /\ n <= 1000000
 | .sh q => Shr q
 | .nm z => Nm z
theorem fn_ne {a b : String} (h : a ≠ b) {f : List PyData -> Option PV} {Fl : Ds -> Option (List PyData)} {r : Ds} : fCallV 0 (Str.ofString b) f Fl (some (.dat (fnD (Str.ofString a))) :: r) = none := by
 show (if Str.ofString a = Str.ofString b then _ else none) = none
 rw [if_neg (by rw [os_inj]; exact h)]
theorem fn_eq {a : String} {f : List PyData -> Option PV} {Fl : Ds -> Option (List PyData)} {r : Ds} : fCallV 0 (Str.ofString a) f Fl (some (.dat (fnD (Str.ofString a))) :: r) = (Fl (some (.dat (fnD (Str.ofString a))) :: r)).bind f := by
 show (if Str.ofString a = Str.ofString a then _ else none) = _
 rw [if_pos rfl]
theorem alt_none {F1 F2 : Ds -> Option PV} {ds : Ds} (h : F1 ds = none) : fAlt F1 F2 ds = F2 ds := by unfold fAlt; rw [h]
theorem alt_some {F1 F2 : Ds -> Option PV} {ds : Ds} {pv : PV} (h : F1 ds = some pv) : fAlt F1 F2 ds = some pv := by unfold fAlt; rw [h]
theorem E_parts {x : Wrd} (h : x.ok) (r : Ds) : E_read_parts_0 (some (.dat x.rd) :: some (.dat (.str x.w)) :: r) = some (.dat x.v) := by
 unfold E_read_parts_0
 cases x with
 | am n => exact alt_some (fn_eq.trans (ramount_eq h.1 h.2))
 | nm z => exact (alt_none (fn_ne (by decide))).trans (alt_some (fn_eq.trans (rname_eq h)))
 | pr n => exact (alt_none (fn_ne (by decide))).trans ((alt_none (fn_ne (by decide))).trans (alt_some (fn_eq.trans (rprice_eq h.1 h.2))))
 | sh q => exact (alt_none (fn_ne (by decide))).trans ((alt_none (fn_ne (by decide))).trans ((alt_none (fn_ne (by decide))).trans (fn_eq.trans (rshare_eq h))))
theorem parts_comp {ds : Ds} : ∀ l : List Wrd, (∀ x ∈ l, x.ok) -> compD (gtTup 2) bTrue E_read_parts_0 ds (List.zipWith (fun x y => .tuple [x, y]) (l.map Wrd.rd) (l.map fun x => .str x.w)) = some (l.map Wrd.v)
 | [], _ => rfl
 | x :: l, h => by
  have ih := parts_comp (ds := ds) l fun y hy => h y (List.mem_cons_of_mem _ hy)
  show (E_read_parts_0 (some (.dat x.rd) :: some (.dat (.str x.w)) :: ds)).bind (fun y => (compD (gtTup 2) bTrue E_read_parts_0 ds (List.zipWith (fun x y => .tuple [x, y]) (l.map Wrd.rd) (l.map fun x => .str x.w))).bind fun l => some (y.d :: l)) = _
  rw [E_parts (h x List.mem_cons_self), ih]
  rfl
theorem v_plain (x : Wrd) : plainN x.v = true /\ isNoneD x.v = false := by cases x <;> exact ⟨rfl, rfl⟩
theorem parts_eq {l : List Wrd} (h : ∀ x ∈ l, x.ok) (hl : l.length <= 100) : F_read_parts [.list (l.map fun x => .str x.w), .tuple (l.map Wrd.rd)] = some (.dat (.tuple (l.map Wrd.v))) := by
 have e1 : noneInD .none (.list (l.map Wrd.v)) = some (.dat (.bool false)) := by
  show (if (l.map Wrd.v).all plainN = true then some (PV.dat (.bool ((l.map Wrd.v).any isNoneD))) else none) = _
  rw [if_pos (by rw [List.all_eq_true]; intro d hd; obtain ⟨x, _, rfl⟩ := List.mem_map.mp hd; exact (v_plain x).1)]
  congr 3
  rw [List.any_eq_false]
  intro d hd
  obtain ⟨x, _, rfl⟩ := List.mem_map.mp hd
  rw [(v_plain x).2]; decide
 unfold F_read_parts
 walk_at "t"
 rw [List.length_map, List.length_map]
 walk_at "t"
 rw [show zipD [.tuple (l.map Wrd.rd), .list (l.map fun x => .str x.w)] = some (List.zipWith (fun x y => .tuple [x, y]) (l.map Wrd.rd) (l.map fun x => .str x.w)) from rfl]
 walk_at "t"
 rw [if_pos (by rw [List.length_zipWith, List.length_map, List.length_map]; omega), parts_comp l h]
 walk_at "t"
 rw [e1]
 walk_at "t"
 try rw [if_pos (by rw [List.length_map]; omega)]
 try walk_at "t"
end Law
namespace Law
open PySem L2 PySem.NumText PySem.StrLaws
noncomputable abbrev Q2 := Int × Int
structure Hr where
 sun : Int
 need : Int
 line : Option (Int × Int × Int × Int)
noncomputable def lineD : Option (Int × Int × Int × Int) -> PyData
 | none => .none
 | some (a, b, c, d) => .tuple [.int a, .int b, .int c, .int d]
noncomputable def hourD (h : Hr) : PyData := .tuple [.int h.sun, .int h.need, lineD h.line]
structure Wk where
 name : Str
 amount : Int
 first : Int
 last : Int
 most : Int
noncomputable def workD (w : Wk) : PyData := .tuple [.str w.name, .int w.amount, .int w.first, .int w.last, .int w.most]
structure House where
 hs : List Hr
 size : Int
 start : Int
 fill : Int
 take : Int
 kept : Q2
 left : Q2
 rest : Int
 ws : List Wk
noncomputable def storeD (h : House) : PyData := .tuple [.int h.size, .int h.start, .int h.fill, .int h.take, fr h.kept, fr h.left, .int h.rest]
theorem cut_from {α : Type} (l : List α) (k : Nat) : cutD l (some (k : Int)) none = l.drop k := by
 unfold cutD HT.sIx
 simp only [show ¬ (k : Int) < 0 by omega, if_false, Int.toNat_natCast]
 by_cases h : k <= l.length
 . rw [Nat.min_eq_left h]
   exact List.take_of_length_le (by rw [List.length_drop]; omega)
 . rw [Nat.min_eq_right (by omega), List.drop_length, List.drop_eq_nil_of_le (by omega)]
   simp
noncomputable def InM (i : Int) : Prop := 0 <= i /\ i <= 1000000
noncomputable def PrM (i : Int) : Prop := -1000000 <= i /\ i <= 1000000
structure Hr5 (x : Hr) : Prop where
 sun : InM x.sun
 need : InM x.need
 line : ∀ a b c d, x.line = some (a, b, c, d) -> PrM a /\ InM b /\ PrM c /\ InM d
structure Wk5 (n : Int) (w : Wk) : Prop where
 name : Nm w.name
 amount : InM w.amount
 first : 0 <= w.first
 fl : w.first <= w.last
 last : w.last < n
 most : InM w.most
structure H5 (h : House) : Prop where
 hs : ∀ x ∈ h.hs, Hr5 x
 h1 : 1 <= h.hs.length
 hl : h.hs.length <= 24
 size : InM h.size
 start : InM h.start
 full : h.start <= h.size
 fill : InM h.fill
 take : InM h.take
 kept : Shr h.kept
 left : Shr h.left
 rest : InM h.rest
 ws : ∀ w ∈ h.ws, Wk5 h.hs.length w
 wl : h.ws.length <= 6
 nd : (h.ws.map Wk.name).Nodup
noncomputable def storeW (h : House) : List Wrd := [.am h.size, .am h.start, .am h.fill, .am h.take, .sh h.kept, .sh h.left, .am h.rest]
noncomputable def storeL (h : House) : List Str := Str.ofString "store" :: (storeW h).map Wrd.w
noncomputable def lineW5 : Int × Int × Int × Int -> List Wrd := fun l => [.pr l.1, .am l.2.1, .pr l.2.2.1, .am l.2.2.2]
noncomputable def hourL (x : Hr) : List Str := match x.line with
 | none => [Str.ofString "hour", txtI x.sun, txtI x.need, Str.ofString "dark"]
 | some l => [Str.ofString "hour", txtI x.sun, txtI x.need, Str.ofString "line"] ++ (lineW5 l).map Wrd.w
noncomputable def workW (w : Wk) : List Wrd := [.nm w.name, .am w.amount, .am w.first, .am w.last, .am w.most]
noncomputable def workL (w : Wk) : List Str := Str.ofString "work" :: (workW w).map Wrd.w
theorem rstore_eq {h : House} (H : H5 h) : F_read_store [.list ((storeL h).map .str)] = some (.dat (storeD h)) := by
 have a1 := H.size; have a2 := H.start; have a3 := H.fill; have a4 := H.take; have a5 := H.kept; have a6 := H.left; have a7 := H.rest; have a8 := H.full
 have p := parts_eq (l := storeW h) (by
  intro x hx
  simp only [storeW, List.mem_cons, List.not_mem_nil, or_false] at hx
  rcases hx with rfl | rfl | rfl | rfl | rfl | rfl | rfl <;> assumption) (by simp [storeW])
 have e1 : (.list ((storeL h).map .str) : PyData) = .list (.str (Str.ofString "store") :: (storeW h).map fun x => .str x.w) := by
  simp [storeL, List.map_map]
 have e2 : PyData.tuple ((storeW h).map Wrd.v) = storeD h := rfl
 have e3 : (c_STORE_PARTS : PyData) = .tuple ((storeW h).map Wrd.rd) := rfl
 rw [e2] at p
 rw [e1]
 unfold F_read_store
 walk_at "t"
 rw [show slAD (.list (.str (Str.ofString "store") :: (storeW h).map fun x => .str x.w)) (some 1) none = some (.own ((storeW h).map fun x => .str x.w)) from rfl, e3]
 walk_at "t"
 rw [p]
 walk_at "t"
 unfold storeD
 walk_at "t"
 rw [if_neg (show ¬ h.size < h.start by omega)]
 walk_at "t"
theorem rwork_eq {n : Int} {w : Wk} (H : Wk5 n w) (hn : n <= 24) : F_read_work [.list ((workL w).map .str), .int n] = some (.dat (workD w)) := by
 have a1 := H.name; have a2 := H.amount; have a3 := H.first; have a4 := H.fl; have a5 := H.last; have a6 := H.most
 have p := parts_eq (l := workW w) (by
  intro x hx
  simp only [workW, List.mem_cons, List.not_mem_nil, or_false] at hx
  rcases hx with rfl | rfl | rfl | rfl | rfl
  . exact a1
  . exact a2
  . exact ⟨a3, by omega⟩
  . exact ⟨by omega, by omega⟩
  . exact a6) (by simp [workW])
 have e1 : (.list ((workL w).map .str) : PyData) = .list (.str (Str.ofString "work") :: (workW w).map fun x => .str x.w) := by
  simp [workL, List.map_map]
 have e2 : PyData.tuple ((workW w).map Wrd.v) = workD w := rfl
 have e3 : (c_WORK_PARTS : PyData) = .tuple ((workW w).map Wrd.rd) := rfl
 rw [e2] at p
 rw [e1]
 unfold F_read_work
 walk_at "t"
 rw [show slAD (.list (.str (Str.ofString "work") :: (workW w).map fun x => .str x.w)) (some 1) none = some (.own ((workW w).map fun x => .str x.w)) from rfl, e3]
 walk_at "t"
 rw [p]
 walk_at "t"
 unfold workD
 walk_at "t"
 rw [if_neg (show ¬ w.last < w.first by omega), decide_eq_false (show ¬ n <= w.last by omega)]
 walk_at "t"
noncomputable def SOk (w : Str) : Prop := PyData.strOk w = true
theorem sok_of {w : Str} (h : ∀ c ∈ lz w, c < 1114112) : SOk w := by
 unfold SOk PyData.strOk
 rw [Array.all_eq_true']
 intro c hc
 have : c ∈ lz w := by unfold lz; simpa using hc
 have := h c this
 simp
 omega
theorem sh_strs : ∀ l : List Str, (∀ w ∈ l, SOk w) -> PyData.canLayAll0 (l.map .str) = true /\ PyData.depthAll (l.map .str) <= 1
 | [], _ => ⟨by simp [PyData.canLayAll0], by simp [PyData.depthAll]⟩
 | a :: l, h => by
  obtain ⟨h1, h2⟩ := sh_strs l fun w hw => h w (List.mem_cons_of_mem _ hw)
  have h0 : PyData.strOk a = true := h a List.mem_cons_self
  exact ⟨by simp [PyData.canLayAll0, PyData.canLay0, h1, h0], by simp [PyData.depthAll, PyData.depth]; exact h2⟩
theorem shp_strs {l : List Str} (h : ∀ w ∈ l, SOk w) : SeqAt.shaped (.list (l.map .str)) = true := by
 obtain ⟨h1, h2⟩ := sh_strs l h
 simp [SeqAt.shaped, PyData.canLay0, PyData.depth, h1]
 omega
theorem eqv_strs : ∀ l m : List Str, PyData.eqvAll (l.map .str) (m.map .str) = decide (l = m)
 | [], [] => by simp [PyData.eqvAll]
 | [], b :: m => by simp [PyData.eqvAll]
 | a :: l, [] => by simp [PyData.eqvAll]
 | a :: l, b :: m => by
  have ih := eqv_strs l m
  simp only [List.map_cons, PyData.eqvAll, ih, PyData.eqv]
  by_cases c : a = b
  . subst c; simp
  . simp [c]
theorem eqD_strs {l m : List Str} (hl : ∀ w ∈ l, SOk w) (hm : ∀ w ∈ m, SOk w) : eqDD (.list (l.map .str)) (.list (m.map .str)) = some (.dat (.bool (decide (l = m)))) := by
 unfold eqDD
 split
 . rename_i h _; cases h
 . rw [if_pos ⟨shp_strs hl, shp_strs hm⟩]
   simp only [PyData.eqv, eqv_strs]
theorem neD_strs {l m : List Str} (hl : ∀ w ∈ l, SOk w) (hm : ∀ w ∈ m, SOk w) : neDD (.list (l.map .str)) (.list (m.map .str)) = some (.dat (.bool (!decide (l = m)))) := by
 unfold neDD
 split
 . rename_i h _; cases h
 . rw [if_pos ⟨shp_strs hl, shp_strs hm⟩]
   simp only [PyData.eqv, eqv_strs]
end Law
namespace Law
open PySem L2 PySem.NumText PySem.StrLaws
theorem intL_lt (n : Int) : ∀ c ∈ intL n, c = 45 \/ (48 <= c /\ c <= 57) := by
 intro c hc
 unfold intL at hc
 split at hc
 . rcases List.mem_cons.mp hc with h | h
   . exact .inl h
   . exact .inr (numL_digits _ c h)
 . exact .inr (numL_digits _ c hc)
theorem sok_int (n : Int) : SOk (txtI n) := sok_of fun c hc => by
 rw [lz_int] at hc
 have := intL_lt n c hc
 omega
theorem sok_lit {s : String} (h : (lz (Str.ofString s)).all (fun c => decide (c < 1114112)) = true) : SOk (Str.ofString s) := sok_of fun c hc => by
 have := List.all_eq_true.mp h c hc
 exact of_decide_eq_true this
theorem rhour_eq {x : Hr} (H : Hr5 x) : F_read_hour [.list ((hourL x).map .str)] = some (.dat (hourD x)) := by
 have a1 := H.sun; have a2 := H.need; have a3 := H.line
 have p := parts_eq (l := [Wrd.am x.sun, .am x.need]) (by
  intro y hy
  simp only [List.mem_cons, List.not_mem_nil, or_false] at hy
  rcases hy with rfl | rfl <;> assumption) (by simp)
 have p' : F_read_parts [.list [.str (txtI x.sun), .str (txtI x.need)], c_HOUR_PARTS] = some (.dat (.tuple [.int x.sun, .int x.need])) := p
 obtain ⟨su, ne, ln⟩ := x
 simp only at p' a3
 have hd : SOk (Str.ofString "dark") := sok_lit (by decide +kernel)
 have hli : SOk (Str.ofString "line") := sok_lit (by decide +kernel)
 cases ln with
 | none =>
  have e : eqDD (.list [.str (Str.ofString "dark")]) (.list [.str (Str.ofString "dark")]) = some (.dat (.bool true)) := by
   have := eqD_strs (l := [Str.ofString "dark"]) (m := [Str.ofString "dark"]) (by simpa using hd) (by simpa using hd)
   rw [decide_eq_true rfl] at this
   exact this
  show F_read_hour [.list [.str (Str.ofString "hour"), .str (txtI su), .str (txtI ne), .str (Str.ofString "dark")]] = some (.dat (.tuple [.int su, .int ne, .none]))
  unfold F_read_hour
  walk_at "t"
  rw [show slAD (.list [.str (Str.ofString "hour"), .str (txtI su), .str (txtI ne), .str (Str.ofString "dark")]) (some 1) (some 3) = some (.own [.str (txtI su), .str (txtI ne)]) from rfl]
  walk_at "t"
  rw [p']
  walk_at "t"
  rw [show slAD (.list [.str (Str.ofString "hour"), .str (txtI su), .str (txtI ne), .str (Str.ofString "dark")]) (some 3) none = some (.own [.str (Str.ofString "dark")]) from rfl]
  walk_at "t"
  rw [e]
  walk_at "t"
  rw [show addD (.tuple [.int su, .int ne]) (.tuple [.none]) = some (.dat (.tuple [.int su, .int ne, .none])) from rfl]
  walk_at "t"
 | some l =>
  obtain ⟨a, b, c, d⟩ := l
  obtain ⟨b1, b2, b3, b4⟩ := a3 a b c d rfl
  have q := parts_eq (l := lineW5 (a, b, c, d)) (by
   intro y hy
   simp only [lineW5, List.mem_cons, List.not_mem_nil, or_false] at hy
   rcases hy with rfl | rfl | rfl | rfl
   . exact b1
   . exact b2
   . exact b3
   . exact b4) (by simp [lineW5])
  have q' : F_read_parts [.list [.str (txtI a), .str (txtI b), .str (txtI c), .str (txtI d)], c_LINE_PARTS] = some (.dat (.tuple [.int a, .int b, .int c, .int d])) := q
  have e : eqDD (.list [.str (Str.ofString "line"), .str (txtI a), .str (txtI b), .str (txtI c), .str (txtI d)]) (.list [.str (Str.ofString "dark")]) = some (.dat (.bool false)) := by
   have := eqD_strs (l := [Str.ofString "line", txtI a, txtI b, txtI c, txtI d]) (m := [Str.ofString "dark"]) (by
    intro w hw
    simp only [List.mem_cons, List.not_mem_nil, or_false] at hw
    rcases hw with rfl | rfl | rfl | rfl | rfl
    . exact hli
    . exact sok_int _
    . exact sok_int _
    . exact sok_int _
    . exact sok_int _) (by simpa using hd)
   rw [decide_eq_false (by simp)] at this
   exact this
  have e2 : neDD (.list [.str (Str.ofString "line")]) (.list [.str (Str.ofString "line")]) = some (.dat (.bool false)) := by
   have := neD_strs (l := [Str.ofString "line"]) (m := [Str.ofString "line"]) (by simpa using hli) (by simpa using hli)
   rw [decide_eq_true rfl] at this
   exact this
  show F_read_hour [.list [.str (Str.ofString "hour"), .str (txtI su), .str (txtI ne), .str (Str.ofString "line"), .str (txtI a), .str (txtI b), .str (txtI c), .str (txtI d)]] = some (.dat (.tuple [.int su, .int ne, .tuple [.int a, .int b, .int c, .int d]]))
  generalize eL : [PyData.str (Str.ofString "hour"), .str (txtI su), .str (txtI ne), .str (Str.ofString "line"), .str (txtI a), .str (txtI b), .str (txtI c), .str (txtI d)] = L
  have i0 : ixD (.list L) (.int 0) = some (.dat (.str (Str.ofString "hour"))) := by rw [<- eL]; rfl
  have s13 : slAD (.list L) (some 1) (some 3) = some (.own [.str (txtI su), .str (txtI ne)]) := by rw [<- eL]; rfl
  have s3 : slAD (.list L) (some 3) none = some (.own [.str (Str.ofString "line"), .str (txtI a), .str (txtI b), .str (txtI c), .str (txtI d)]) := by rw [<- eL]; rfl
  have s4 : slAD (.list L) (some 4) none = some (.own [.str (txtI a), .str (txtI b), .str (txtI c), .str (txtI d)]) := by rw [<- eL]; rfl
  have s34 : slAD (.list L) (some 3) (some 4) = some (.own [.str (Str.ofString "line")]) := by rw [<- eL]; rfl
  unfold F_read_hour
  rw [show c_HOUR_PARTS = c_HOUR_PARTS from rfl]
  walk_at "t"
  rw [s13]
  walk_at "t"
  rw [p']
  walk_at "t"
  rw [show atI L 0 = some (.str (Str.ofString "hour")) from by rw [<- eL]; rfl]
  walk_at "t"
  rw [s3]
  walk_at "t"
  rw [e]
  walk_at "t"
  rw [s4]
  walk_at "t"
  rw [q']
  walk_at "t"
  rw [s34]
  walk_at "t"
  rw [e2]
  walk_at "t"
  rw [show addD (.tuple [.int su, .int ne]) (.tuple [.tuple [.int a, .int b, .int c, .int d]]) = some (.dat (.tuple [.int su, .int ne, .tuple [.int a, .int b, .int c, .int d]])) from rfl]
  walk_at "t"
end Law
namespace Law
open PySem L2 PySem.NumText PySem.StrLaws
noncomputable abbrev rowH (x : Hr) : PyData := .list ((hourL x).map .str)
noncomputable abbrev rowW (w : Wk) : PyData := .list ((workL w).map .str)
theorem rdFrac_name {z : Str} (h : Nm z) : rdFrac (lz z) = none := by
 have nm : ∀ c ∈ lz z, 97 <= c /\ c <= 122 := fun c hc => of_decide_eq_true (List.all_eq_true.mp h.all c hc)
 have h47 : 47 ∉ lz z := fun hc => by have := nm 47 hc; omega
 have hs : rdSig (lz z) = none := by
  unfold rdSig
  cases e : lz z with
  | nil => exact absurd e h.ne
  | cons c r =>
   have hc := nm c (by rw [e]; exact List.mem_cons_self)
   rw [if_neg (by simp; omega)]
   have : rdFig (c :: r) = none := by
    unfold rdFig
    rw [if_neg]
    rintro ⟨_, _, ha⟩
    rw [List.all_cons, Bool.and_eq_true] at ha
    have := of_decide_eq_true ha.1
    omega
   rw [this]; rfl
 unfold rdFrac cutA
 rw [if_neg h47, hs]
 rfl
theorem ramount_name {z : Str} (h : Nm z) : F_read_amount [.str z] = some (.dat .none) := by
 have hl := lz_len z
 have h8 := h.len
 have rf := readfrac_eq (z := z) (by omega)
 rw [rdFrac_name h] at rf
 unfold F_read_amount F_read_whole
 walk_at "t"
 rw [rf]
 walk_at "t"
 show _ = _
 unfold frO
 walk_at "t"
theorem rhour_work {n : Int} {w : Wk} (H : Wk5 n w) (hn : n <= 24) : F_read_hour [rowW w] = some (.dat .none) := by
 have a2 := H.amount
 have E1 : ∀ r : Ds, E_read_parts_0 (some (.dat (fnD "read_amount")) :: some (.dat (.str w.name)) :: r) = some (.dat .none) := fun r => by
  unfold E_read_parts_0
  exact alt_some (fn_eq.trans (ramount_name H.name))
 have E2 : ∀ r : Ds, E_read_parts_0 (some (.dat (fnD "read_amount")) :: some (.dat (.str (txtI w.amount))) :: r) = some (.dat (.int w.amount)) := fun r => E_parts (x := .am w.amount) a2 r
 have p : F_read_parts [.list [.str w.name, .str (txtI w.amount)], c_HOUR_PARTS] = some (.dat .none) := by
  unfold F_read_parts
  walk_at "t"
  rw [show zipD [c_HOUR_PARTS, .list [.str w.name, .str (txtI w.amount)]] = some [.tuple [fnD "read_amount", .str w.name], .tuple [fnD "read_amount", .str (txtI w.amount)]] from rfl]
  walk_at "t"
  simp only [compD]
  walk_at "t"
  rw [E1]
  walk_at "t"
  rw [E2]
  walk_at "t"
  rw [show noneInD .none (.list [.none, .int w.amount]) = some (.dat (.bool true)) from rfl]
  walk_at "t"
 show F_read_hour [.list [.str (Str.ofString "work"), .str w.name, .str (txtI w.amount), .str (txtI w.first), .str (txtI w.last), .str (txtI w.most)]] = _
 unfold F_read_hour
 walk_at "t"
 rw [show slAD (.list [.str (Str.ofString "work"), .str w.name, .str (txtI w.amount), .str (txtI w.first), .str (txtI w.last), .str (txtI w.most)]) (some 1) (some 3) = some (.own [.str w.name, .str (txtI w.amount)]) from rfl]
 walk_at "t"
 rw [p]
 walk_at "t"
 try simp
 try walk_at "t"
 try rfl
theorem hours_run {r : Option PV} {rest : List PyData} : ∀ (hs : List Hr) (done : List PyData) (y2 y3 : Option PV), (∀ x ∈ hs, Hr5 x) -> done.length + hs.length <= 1000 ->
  ∃ z2 z3, forD (sName 2) B_read_hours_0 (hs.map rowH ++ rest) [r, some (.own done), y2, y3] = forD (sName 2) B_read_hours_0 rest [r, some (.own (done ++ hs.map hourD)), z2, z3]
 | [], done, y2, y3, _, _ => ⟨y2, y3, by simp⟩
 | x :: hs, done, y2, y3, h, hl => by
  rw [List.length_cons] at hl
  obtain ⟨z2, z3, e⟩ := hours_run (r := r) (rest := rest) hs (done ++ [hourD x]) (some (.dat (rowH x))) (some (.dat (hourD x))) (fun y hy => h y (List.mem_cons_of_mem _ hy)) (by rw [List.length_append, List.length_singleton]; omega)
  refine ⟨z2, z3, ?_⟩
  have B : B_read_hours_0 [r, some (.own done), some (.dat (rowH x)), y3] = some (.next [r, some (.own (done ++ [hourD x])), some (.dat (rowH x)), some (.dat (hourD x))]) := by
   have rh := rhour_eq (h x List.mem_cons_self)
   have nn : isNoneD (hourD x) = false := rfl
   unfold B_read_hours_0
   walk_at "t"
   rw [rh]
   walk_at "t"
   rw [nn]
   walk_at "t"
   rw [appK_some (l := done) _ rfl (by omega)]
   rfl
  rw [List.map_cons, List.cons_append, forD_next rfl B, e, List.map_cons, List.append_assoc]
  rfl
end Law
namespace Law
open PySem L2 PySem.NumText PySem.StrLaws
theorem sq_next5 {G1 G2 : Ds -> Option Out} {ds ds' : Ds} (h : G1 ds = some (.next ds')) : gSeq G1 G2 ds = G2 ds' := by unfold gSeq; rw [h]; rfl
theorem setD_eq5 {j : Nat} {F : Ds -> Option PV} {ds : Ds} {pv : PV} (h : F ds = some pv) : gSetD j F ds = some (.next (ds.set j (some (.dat pv.d)))) := by unfold gSetD; rw [h]; rfl
theorem cut_to {α : Type} (l : List α) (k : Nat) : cutD l none (some (k : Int)) = l.take k := by
 unfold cutD HT.sIx
 simp only [show ¬ (k : Int) < 0 by omega, if_false, Int.toNat_natCast]
 by_cases c : k <= l.length
 . simp [Nat.min_eq_left c]
 . simp [Nat.min_eq_right (by omega : l.length <= k), List.take_of_length_le (by omega : l.length <= k)]
theorem in_names {z : Str} {l : List Str} (h : z ∉ l) : (or2 inD inSD) (.str z) (.list (l.map .str)) = some (.dat (.bool false)) := by
 have h1 : (l.map PyData.str).all Flat = true := by
  rw [List.all_eq_true]
  intro d hd
  obtain ⟨x, _, rfl⟩ := List.mem_map.mp hd
  rfl
 have h2 : ((l.map PyData.str).any fun y => eqF y (.str z)) = false := by
  rw [List.any_eq_false]
  intro d hd
  obtain ⟨x, hx, rfl⟩ := List.mem_map.mp hd
  show ¬ ((x == z) = true)
  rw [beq_iff_eq]
  intro e
  subst e
  exact h hx
 have e : inD (.str z) (.list (l.map .str)) = some (.dat (.bool false)) := by
  show (if Flat (.str z) = true /\ (l.map PyData.str).all Flat = true then some (PV.dat (.bool ((l.map PyData.str).any fun y => eqF y (.str z)))) else none) = _
  rw [if_pos ⟨rfl, h1⟩, h2]
 unfold or2
 rw [e]
end Law
namespace Law
open PySem L2 PySem.NumText PySem.StrLaws
structure W5 (w : Str) : Prop where
 len : w.length <= 130
 no : 32 ∉ lz w
 ok : SOk w
theorem w5_int {n : Int} (h : PrM n) : W5 (txtI n) := by
 refine ⟨Nat.le_trans (len_txt (nat60 h)) (by decide), fun hc => ?_, sok_int n⟩
 rw [lz_int] at hc
 have := intL_lt n 32 hc
 omega
theorem w5_share {q : Int × Int} (h : Shr q) : W5 (txtF q) := by
 have s := h.small
 have key : ∀ c ∈ lz (txtF q), c = 45 \/ c = 47 \/ (48 <= c /\ c <= 57) := by
  intro c hc
  rw [lz_txtF s.pos] at hc
  split at hc
  . rcases intL_lt _ c hc with z | z
    . exact .inl z
    . exact .inr (.inr z)
  . rcases List.mem_append.mp hc with z | z
    . rcases intL_lt _ c z with z | z
      . exact .inl z
      . exact .inr (.inr z)
    . rcases List.mem_cons.mp z with z | z
      . exact .inr (.inl z)
      . exact .inr (.inr (numL_digits _ c z))
 refine ⟨h.len, fun hc => ?_, sok_of fun c hc => ?_⟩
 . have := key 32 hc; omega
 . have := key c hc; omega
theorem w5_name {z : Str} (h : Nm z) : W5 z := by
 have nm : ∀ c ∈ lz z, 97 <= c /\ c <= 122 := fun c hc => of_decide_eq_true (List.all_eq_true.mp h.all c hc)
 have hl := lz_len z
 have h8 := h.len
 refine ⟨by omega, fun hc => ?_, sok_of fun c hc => ?_⟩
 . have := nm 32 hc; omega
 . have := nm c hc; omega
theorem w5_lit {s : String} (h : ((lz (Str.ofString s)).all fun c => decide (c < 1114112 /\ c ≠ 32)) = true) (hl : (lz (Str.ofString s)).length <= 130) : W5 (Str.ofString s) := by
 have k : ∀ c ∈ lz (Str.ofString s), c < 1114112 /\ c ≠ 32 := fun c hc => of_decide_eq_true (List.all_eq_true.mp h c hc)
 exact ⟨by rw [lz_len]; exact hl, fun hc => (k 32 hc).2 rfl, sok_of fun c hc => (k c hc).1⟩
theorem w5_wrd {x : Wrd} (h : x.ok) : W5 x.w := by
 cases x with
 | am n => exact w5_int ⟨by have := h.1; omega, h.2⟩
 | pr n => exact w5_int h
 | sh q => exact w5_share h
 | nm z => exact w5_name h
end Law
namespace Law
open PySem L2 PySem.NumText PySem.StrLaws
noncomputable def lnS (l : List Str) : Str := Txt.join ⟨#[32]⟩ l
structure Ln5 (l : List Str) : Prop where
 ne : l ≠ []
 len : l.length <= 700
 w : ∀ w ∈ l, W5 w
theorem ln_store {h : House} (H : H5 h) : Ln5 (storeL h) := by
 have a1 := H.size; have a2 := H.start; have a3 := H.fill; have a4 := H.take; have a5 := H.kept; have a6 := H.left; have a7 := H.rest
 refine ⟨by simp [storeL], by simp [storeL, storeW], fun w hw => ?_⟩
 rcases List.mem_cons.mp hw with rfl | hw
 . exact w5_lit (by decide +kernel) (by decide +kernel)
 . obtain ⟨x, hx, rfl⟩ := List.mem_map.mp hw
   refine w5_wrd ?_
   simp only [storeW, List.mem_cons, List.not_mem_nil, or_false] at hx
   rcases hx with rfl | rfl | rfl | rfl | rfl | rfl | rfl <;> assumption
theorem pm_of {n : Int} (h : InM n) : PrM n := ⟨by have := h.1; omega, h.2⟩
theorem ln_hour {x : Hr} (H : Hr5 x) : Ln5 (hourL x) := by
 have a1 := H.sun; have a2 := H.need; have a3 := H.line
 obtain ⟨su, ne, ln⟩ := x
 have wh : W5 (Str.ofString "hour") := w5_lit (by decide +kernel) (by decide +kernel)
 cases ln with
 | none =>
  refine ⟨by simp [hourL], by simp [hourL], fun w hw => ?_⟩
  simp only [hourL, List.mem_cons, List.not_mem_nil, or_false] at hw
  rcases hw with rfl | rfl | rfl | rfl
  . exact wh
  . exact w5_int (pm_of a1)
  . exact w5_int (pm_of a2)
  . exact w5_lit (by decide +kernel) (by decide +kernel)
 | some l =>
  obtain ⟨a, b, c, d⟩ := l
  obtain ⟨b1, b2, b3, b4⟩ := a3 a b c d rfl
  refine ⟨by simp [hourL], by simp [hourL, lineW5], fun w hw => ?_⟩
  simp only [hourL, lineW5, List.map_cons, List.map_nil, List.cons_append, List.nil_append, List.mem_cons, List.not_mem_nil, or_false] at hw
  rcases hw with rfl | rfl | rfl | rfl | rfl | rfl | rfl | rfl
  . exact wh
  . exact w5_int (pm_of a1)
  . exact w5_int (pm_of a2)
  . exact w5_lit (by decide +kernel) (by decide +kernel)
  . exact w5_int b1
  . exact w5_int (pm_of b2)
  . exact w5_int b3
  . exact w5_int (pm_of b4)
theorem ln_work {n : Int} {w : Wk} (H : Wk5 n w) (hn : n <= 24) : Ln5 (workL w) := by
 have a1 := H.name; have a2 := H.amount; have a3 := H.first; have a4 := H.fl; have a5 := H.last; have a6 := H.most
 refine ⟨by simp [workL], by simp [workL, workW], fun z hz => ?_⟩
 rcases List.mem_cons.mp hz with rfl | hz
 . exact w5_lit (by decide +kernel) (by decide +kernel)
 . obtain ⟨x, hx, rfl⟩ := List.mem_map.mp hz
   refine w5_wrd ?_
   simp only [workW, List.mem_cons, List.not_mem_nil, or_false] at hx
   rcases hx with rfl | rfl | rfl | rfl | rfl
   . exact a1
   . exact a2
   . exact ⟨a3, by omega⟩
   . exact ⟨by omega, by omega⟩
   . exact a6
theorem sh_rows : ∀ L : List (List Str), (∀ l ∈ L, Ln5 l) -> PyData.canLayAll0 (L.map fun l => .list (l.map .str)) = true /\ PyData.depthAll (L.map fun l => .list (l.map .str)) <= 3
 | [], _ => ⟨by simp [PyData.canLayAll0], by simp [PyData.depthAll]⟩
 | a :: L, h => by
  obtain ⟨h1, h2⟩ := sh_rows L fun l hl => h l (List.mem_cons_of_mem _ hl)
  obtain ⟨g1, g2⟩ := sh_strs a fun w hw => ((h a List.mem_cons_self).w w hw).ok
  exact ⟨by simp [PyData.canLayAll0, PyData.canLay0, h1, g1], by simp [PyData.depthAll, PyData.depth]; omega⟩
theorem sh_hour (x : Hr) : PyData.canLay0 (hourD x) = true /\ PyData.depth (hourD x) <= 3 := by
 obtain ⟨s, n, l⟩ := x
 cases l with
 | none => exact ⟨by simp [hourD, lineD, PyData.canLay0, PyData.canLayAll0], by simp [hourD, lineD, PyData.depth, PyData.depthAll]⟩
 | some l => obtain ⟨a, b, c, d⟩ := l; exact ⟨by simp [hourD, lineD, PyData.canLay0, PyData.canLayAll0], by simp [hourD, lineD, PyData.depth, PyData.depthAll]⟩
theorem sh_hours : ∀ L : List Hr, PyData.canLayAll0 (L.map hourD) = true /\ PyData.depthAll (L.map hourD) <= 3
 | [] => ⟨by simp [PyData.canLayAll0], by simp [PyData.depthAll]⟩
 | a :: L => by
  obtain ⟨h1, h2⟩ := sh_hours L
  obtain ⟨g1, g2⟩ := sh_hour a
  exact ⟨by simp [PyData.canLayAll0, h1, g1], by simp [PyData.depthAll]; omega⟩
theorem eq_nil {d : PyData} {r : List PyData} (h1 : PyData.canLayAll0 (d :: r) = true) (h2 : PyData.depthAll (d :: r) <= 3) : eqDD (.list (d :: r)) (.list []) = some (.dat (.bool false)) := by
 unfold eqDD
 split
 . rename_i h _; cases h
 . rw [if_pos ⟨by simp [SeqAt.shaped, PyData.canLay0, PyData.depth, h1]; omega, by simp [SeqAt.shaped, PyData.canLay0, PyData.depth, PyData.canLayAll0, PyData.depthAll]⟩]
   simp [PyData.eqv, PyData.eqvAll]
end Law
namespace Law
open PySem L2 PySem.NumText PySem.StrLaws
noncomputable def wholeO (least : Int) : Option (Int × Int) -> PyData
 | none => .none
 | some q => if q.2 = 1 /\ least <= q.1 /\ q.1 <= 1000000 then .int q.1 else .none
theorem rwhole_gen {z : Str} {least : Int} (hz : z.length <= 1000) : F_read_whole [.str z, .int least] = some (.dat (wholeO least (rdFrac (lz z)))) := by
 have rf := readfrac_eq (z := z) hz
 unfold F_read_whole
 walk_at "t"
 rw [rf]
 walk_at "t"
 cases e : rdFrac (lz z) with
 | none =>
  show _ = _
  unfold frO wholeO
  walk_at "t"
 | some q =>
  obtain ⟨a, b⟩ := q
  show _ = _
  unfold frO wholeO
  walk_at "t"
  by_cases c1 : b = 1
  . subst c1
    by_cases c2 : a < least
    . have c2' : ¬ least <= a := by omega
      simp [c2, c2']
      rfl
    . have c2' : least <= a := by omega
      by_cases c3 : 1000000 < a
      . have c3' : ¬ a <= 1000000 := by omega
        simp [c2, c2', c3, c3']
        rfl
      . have c3' : a <= 1000000 := by omega
        simp [c2, c2', c3, c3']
        rfl
  . simp [c1]
    rfl
noncomputable def shareO : Option (Int × Int) -> PyData
 | none => .none
 | some q => if 0 < q.1 /\ q.1 <= q.2 /\ q.2 <= 1000 then fr q else .none
theorem rshare_gen {z : Str} (hz : z.length <= 1000) : F_read_share [.str z] = some (.dat (shareO (rdFrac (lz z)))) := by
 have rf := readfrac_eq (z := z) hz
 unfold F_read_share
 walk_at "t"
 rw [rf]
 walk_at "t"
 cases e : rdFrac (lz z) with
 | none =>
  show _ = _
  unfold frO shareO
  walk_at "t"
 | some q =>
  obtain ⟨a, b⟩ := q
  show _ = _
  unfold frO shareO
  walk_at "t"
  by_cases c1 : a <= 0
  . have c1' : ¬ 0 < a := by omega
    simp [c1, c1']
    rfl
  . have c1' : 0 < a := by omega
    by_cases c2 : b < a
    . have c2' : ¬ a <= b := by omega
      simp [c1, c1', c2, c2']
      rfl
    . have c2' : a <= b := by omega
      by_cases c3 : 1000 < b
      . have c3' : ¬ b <= 1000 := by omega
        simp [c1, c1', c2, c2', c3, c3']
        rfl
      . have c3' : b <= 1000 := by omega
        simp [c1, c1', c2, c2', c3, c3']
        rfl
noncomputable def nameO (z : Str) : PyData := if lz z ≠ [] /\ (lz z).length <= 8 /\ (lz z).all ltr = true then .str z else .none
theorem not_ltr {c : Nat} (h : ltr c = false) : c ∉ lz (Str.ofString "abcdefghijklmnopqrstuvwxyz") := by
 rw [lit_ltr]
 have := of_decide_eq_false h
 simp only [List.mem_cons, List.not_mem_nil, or_false]
 omega
theorem for_badname (z : Str) : ∀ (l : List Nat) (y : Option PV), l.all ltr = false -> forD (sName 1) B_read_name_0 (l.map fun c => .str ⟨#[c]⟩) [some (.dat (.str z)), y] = some (.ret (.dat .none))
 | [], y, h => by cases h
 | c :: r, y, h => by
  by_cases hc : ltr c = true
  . rw [List.all_cons, hc, Bool.true_and] at h
    rw [List.map_cons, forD_next rfl (B_rname z hc)]
    exact for_badname z r _ h
  . have hc' : ltr c = false := by simpa using hc
    have e : (or2 notInD notInSD) (.str ⟨#[c]⟩) (.str (Str.ofString "abcdefghijklmnopqrstuvwxyz")) = some (.dat (.bool true)) := by
     show some (PV.dat (.bool (!Txt.contains (Str.ofString "abcdefghijklmnopqrstuvwxyz") ⟨#[c]⟩))) = _
     rw [contains_one, decide_eq_false (not_ltr hc')]
     rfl
    have B : B_read_name_0 [some (.dat (.str z)), some (.dat (.str ⟨#[c]⟩))] = some (.ret (.dat .none)) := by
     unfold B_read_name_0
     walk_at "t"
     rw [show (c_LETTERS : PyData) = .str (Str.ofString "abcdefghijklmnopqrstuvwxyz") from rfl, e]
     walk_at "t"
    unfold forD
    show ((B_read_name_0 [some (.dat (.str z)), some (.dat (.str ⟨#[c]⟩))]).bind _) = _
    rw [B]
    rfl
theorem rname_gen {z : Str} (hz : z.length <= 1000) : F_read_name [.str z] = some (.dat (nameO z)) := by
 have hl := lz_len z
 unfold nameO
 by_cases h0 : lz z = []
 . rw [if_neg (fun h => h.1 h0)]
   unfold F_read_name
   walk_at "t"
   rw [if_pos ((eq_empty z).mpr h0)]
   try walk_at "t"
 . by_cases h8 : (lz z).length <= 8
   . by_cases ha : (lz z).all ltr = true
     . rw [if_pos ⟨h0, h8, ha⟩]
       exact rname_eq ⟨h0, h8, ha⟩
     . rw [if_neg (fun h => ha h.2.2)]
       unfold F_read_name
       walk_at "t"
       rw [lenD_str (by omega), show (c_MOST_LETTERS : PyData) = .int 8 from rfl]
       walk_at "t"
       rw [if_neg (fun e => h0 ((eq_empty z).mp e)), decide_eq_false (show ¬ ((8 : Int) < (z.length : Nat)) by omega)]
       walk_at "t"
       have f1 := for_badname z (lz z) none (by simpa using ha)
       show (seqK (forD (sName 1) B_read_name_0 ((lz z).map fun c => .str ⟨#[c]⟩) [some (.dat (.str z)), none]) _).bind _ = _
       rw [f1]
       walk_at "t"
   . rw [if_neg (fun h => h8 h.2.1)]
     unfold F_read_name
     walk_at "t"
     rw [lenD_str (by omega), show (c_MOST_LETTERS : PyData) = .int 8 from rfl]
     walk_at "t"
     rw [if_neg (fun e => h0 ((eq_empty z).mp e)), decide_eq_true (show ((8 : Int) < (z.length : Nat)) by omega)]
     walk_at "t"
inductive Rd | am | pr | sh | nm
noncomputable def Rd.d : Rd -> PyData
 | .am => fnD "read_amount"
 | .pr => fnD "read_price"
 | .sh => fnD "read_share"
 | .nm => fnD "read_name"
noncomputable def Rd.o : Rd -> Str -> PyData
 | .am, z => wholeO 0 (rdFrac (lz z))
 | .pr, z => wholeO (-1000000) (rdFrac (lz z))
 | .sh, z => shareO (rdFrac (lz z))
 | .nm, z => nameO z
theorem rd_plain (x : Rd) (z : Str) : plainN (x.o z) = true := by
 have h1 : ∀ (l : Int) (o : Option (Int × Int)), plainN (wholeO l o) = true := fun l o => by
  cases o with
  | none => rfl
  | some q => unfold wholeO; simp only; split <;> rfl
 cases x with
 | am => exact h1 _ _
 | pr => exact h1 _ _
 | sh =>
  show plainN (shareO _) = true
  cases rdFrac (lz z) with
  | none => rfl
  | some q => unfold shareO; simp only; split <;> rfl
 | nm => show plainN (nameO z) = true; unfold nameO; split <;> rfl
theorem E_gen (x : Rd) {z : Str} (hz : z.length <= 1000) (r : Ds) : E_read_parts_0 (some (.dat x.d) :: some (.dat (.str z)) :: r) = some (.dat (x.o z)) := by
 unfold E_read_parts_0
 have am : F_read_amount [.str z] = some (.dat (wholeO 0 (rdFrac (lz z)))) := by
  unfold F_read_amount
  walk_at "t"
  rw [rwhole_gen hz]
  walk_at "t"
 have pr : F_read_price [.str z] = some (.dat (wholeO (-1000000) (rdFrac (lz z)))) := by
  unfold F_read_price
  walk_at "t"
  rw [rwhole_gen hz]
  walk_at "t"
 cases x with
 | am => exact alt_some (fn_eq.trans am)
 | nm => exact (alt_none (fn_ne (by decide))).trans (alt_some (fn_eq.trans (rname_gen hz)))
 | pr => exact (alt_none (fn_ne (by decide))).trans ((alt_none (fn_ne (by decide))).trans (alt_some (fn_eq.trans pr)))
 | sh => exact (alt_none (fn_ne (by decide))).trans ((alt_none (fn_ne (by decide))).trans ((alt_none (fn_ne (by decide))).trans (fn_eq.trans (rshare_gen hz))))
noncomputable def partsL (rs : List Rd) (ws : List Str) : List PyData := List.zipWith (fun x z => Rd.o x z) rs ws
theorem parts_comp_gen {ds : Ds} : ∀ (rs : List Rd) (ws : List Str), (∀ w ∈ ws, w.length <= 1000) -> compD (gtTup 2) bTrue E_read_parts_0 ds (List.zipWith (fun x y => .tuple [x, y]) (rs.map Rd.d) (ws.map .str)) = some (partsL rs ws)
 | [], _, _ => rfl
 | x :: rs, [], _ => rfl
 | x :: rs, z :: ws, h => by
  have ih := parts_comp_gen (ds := ds) rs ws fun y hy => h y (List.mem_cons_of_mem _ hy)
  show (E_read_parts_0 (some (.dat x.d) :: some (.dat (.str z)) :: ds)).bind (fun y => (compD (gtTup 2) bTrue E_read_parts_0 ds (List.zipWith (fun x y => .tuple [x, y]) (rs.map Rd.d) (ws.map .str))).bind fun l => some (y.d :: l)) = _
  rw [E_gen x (h z List.mem_cons_self), ih]
  rfl
noncomputable def partsO (rs : List Rd) (ws : List Str) : PyData := if ws.length = rs.length /\ (partsL rs ws).any isNoneD = false then .tuple (partsL rs ws) else .none
theorem parts_gen {rs : List Rd} {ws : List Str} (hw : ∀ w ∈ ws, w.length <= 1000) (hl : ws.length <= 100) (hr : rs.length <= 100) : F_read_parts [.list (ws.map .str), .tuple (rs.map Rd.d)] = some (.dat (partsO rs ws)) := by
 unfold partsO
 by_cases c : ws.length = rs.length
 . have e1 : noneInD .none (.list (partsL rs ws)) = some (.dat (.bool ((partsL rs ws).any isNoneD))) := by
     show (if (partsL rs ws).all plainN = true then some (PV.dat (.bool ((partsL rs ws).any isNoneD))) else none) = _
     rw [if_pos]
     rw [List.all_eq_true]
     intro d hd
     unfold partsL at hd
     rw [List.mem_iff_getElem?] at hd
     obtain ⟨i, hi⟩ := hd
     rw [List.getElem?_zipWith] at hi
     split at hi
     . cases hi; exact rd_plain _ _
     . cases hi
   have hz : (partsL rs ws).length <= 100 := by unfold partsL; rw [List.length_zipWith]; omega
   unfold F_read_parts
   walk_at "t"
   rw [List.length_map, List.length_map, c]
   walk_at "t"
   rw [show zipD [.tuple (rs.map Rd.d), .list (ws.map .str)] = some (List.zipWith (fun x y => .tuple [x, y]) (rs.map Rd.d) (ws.map .str)) from rfl]
   walk_at "t"
   rw [if_pos (by rw [List.length_zipWith, List.length_map, List.length_map]; omega), parts_comp_gen rs ws hw]
   walk_at "t"
   rw [e1]
   walk_at "t"
   cases (partsL rs ws).any isNoneD
   . walk_at "t"
     try rw [if_pos (by omega)]
     try walk_at "t"
   . walk_at "t"
     simp
 . rw [if_neg (fun h => c h.1)]
   unfold F_read_parts
   walk_at "t"
   rw [List.length_map, List.length_map]
   have : ¬ ((ws.length : Int) = (rs.length : Int)) := by omega
   simp [this]
   rfl
end Law
namespace Law
open PySem L2 PySem.NumText PySem.StrLaws
theorem cut_ab {α : Type} (l : List α) (a b : Nat) (h : a <= b) : cutD l (some (a : Int)) (some (b : Int)) = (l.drop a).take (b - a) := by
 unfold cutD
 rw [HT.sIx_nat, HT.sIx_nat]
 by_cases c : a <= l.length
 . rw [Nat.min_eq_left c]
   by_cases c2 : b <= l.length
   . rw [Nat.min_eq_left c2]
   . rw [Nat.min_eq_right (by omega), List.take_of_length_le (by rw [List.length_drop]; omega), List.take_of_length_le (by rw [List.length_drop]; omega)]
 . rw [Nat.min_eq_right (show l.length <= a by omega), List.drop_length, List.drop_eq_nil_of_le (by omega)]
   simp
theorem sl_ab {l : List Str} (a b : Nat) (h : a <= b) : slAD (.list (l.map .str)) (some (a : Int)) (some (b : Int)) = some (.own (((l.drop a).take (b - a)).map .str)) := by
 show some (PV.own (cutD (l.map PyData.str) (some (a : Int)) (some (b : Int)))) = _
 rw [cut_ab _ _ _ h, List.map_take, List.map_drop]
theorem sl_a {l : List Str} (a : Nat) : slAD (.list (l.map .str)) (some (a : Int)) none = some (.own ((l.drop a).map .str)) := by
 show some (PV.own (cutD (l.map PyData.str) (some (a : Int)) none)) = _
 rw [cut_from, List.map_drop]
theorem parts_cases (rs : List Rd) (ws : List Str) : partsO rs ws = .none \/ ∃ l, partsO rs ws = .tuple l := by
 unfold partsO
 split
 . exact .inr ⟨_, rfl⟩
 . exact .inl rfl
noncomputable abbrev STORE : List Rd := [.am, .am, .am, .am, .sh, .sh, .am]
noncomputable abbrev HOUR : List Rd := [.am, .am]
noncomputable abbrev LINE : List Rd := [.pr, .am, .pr, .am]
noncomputable abbrev WORK : List Rd := [.nm, .am, .am, .am, .am]
structure Ws (r : List Str) : Prop where
 w : ∀ w ∈ r, W5 w
 len : r.length <= 100
theorem Ws.l {r : List Str} (h : Ws r) : ∀ w ∈ r, w.length <= 1000 := fun w hw => Nat.le_trans (h.w w hw).len (by decide)
theorem Ws.drop {r : List Str} (h : Ws r) (n : Nat) : Ws (r.drop n) := ⟨fun w hw => h.w w (List.mem_of_mem_drop hw), by rw [List.length_drop]; have := h.len; omega⟩
theorem Ws.take {r : List Str} (h : Ws r) (n : Nat) : Ws (r.take n) := ⟨fun w hw => h.w w (List.mem_of_mem_take hw), by rw [List.length_take]; have := h.len; omega⟩
theorem Ws.parts {r : List Str} (h : Ws r) {rs : List Rd} (hr : rs.length <= 100) : F_read_parts [.list (r.map .str), .tuple (rs.map Rd.d)] = some (.dat (partsO rs r)) := parts_gen h.l h.len hr
theorem store_bad {w0 : Str} {r : List Str} (W : Ws r) (h : w0 ≠ Str.ofString "store" \/ partsO STORE r = .none) : F_read_store [.list ((w0 :: r).map .str)] = some (.dat .none) := by
 have s1 : slAD (.list ((w0 :: r).map .str)) (some 1) none = some (.own (r.map .str)) := sl_a 1
 have p : F_read_parts [.list (r.map .str), c_STORE_PARTS] = some (.dat (partsO STORE r)) := W.parts (rs := STORE) (by decide)
 have i0 : ixD (.list ((w0 :: r).map .str)) (.int 0) = some (.dat (.str w0)) := by walk_at "t"
 generalize partsO STORE r = D at *
 generalize (w0 :: r).map PyData.str = L at *
 unfold F_read_store
 walk_at "t"
 rw [s1]
 walk_at "t"
 rw [p]
 walk_at "t"
 rw [show atI L 0 = some (.str w0) from by
  have := i0
  rw [ixD_list] at this
  cases e : atI L 0 with
  | none => rw [e] at this; cases this
  | some d => rw [e] at this; cases this; rfl]
 walk_at "t"
 by_cases c : w0 = Str.ofString "store"
 . rcases h with h | h
   . exact absurd c h
   . subst h
     simp [c]
     rfl
 . simp [c]
   rfl
theorem work_bad {w0 : Str} {r : List Str} {n : Int} (W : Ws r) (h : w0 ≠ Str.ofString "work" \/ partsO WORK r = .none) : F_read_work [.list ((w0 :: r).map .str), .int n] = some (.dat .none) := by
 have s1 : slAD (.list ((w0 :: r).map .str)) (some 1) none = some (.own (r.map .str)) := sl_a 1
 have p : F_read_parts [.list (r.map .str), c_WORK_PARTS] = some (.dat (partsO WORK r)) := W.parts (rs := WORK) (by decide)
 have i0 : ixD (.list ((w0 :: r).map .str)) (.int 0) = some (.dat (.str w0)) := by walk_at "t"
 generalize partsO WORK r = D at *
 generalize (w0 :: r).map PyData.str = L at *
 unfold F_read_work
 walk_at "t"
 rw [s1]
 walk_at "t"
 rw [p]
 walk_at "t"
 rw [show atI L 0 = some (.str w0) from by
  have := i0
  rw [ixD_list] at this
  cases e : atI L 0 with
  | none => rw [e] at this; cases this
  | some d => rw [e] at this; cases this; rfl]
 walk_at "t"
 by_cases c : w0 = Str.ofString "work"
 . rcases h with h | h
   . exact absurd c h
   . subst h
     simp [c]
     rfl
 . simp [c]
   rfl
theorem hour_bad {w0 : Str} {r : List Str} (W : Ws r) (h : w0 ≠ Str.ofString "hour" \/ partsO HOUR (r.take 2) = .none \/ (r.drop 2 ≠ [Str.ofString "dark"] /\ ((r.drop 2).take 1 ≠ [Str.ofString "line"] \/ partsO LINE (r.drop 3) = .none))) : F_read_hour [.list ((w0 :: r).map .str)] = some (.dat .none) := by
 have s13 : slAD (.list ((w0 :: r).map .str)) (some 1) (some 3) = some (.own ((r.take 2).map .str)) := sl_ab 1 3 (by decide)
 have s3 : slAD (.list ((w0 :: r).map .str)) (some 3) none = some (.own ((r.drop 2).map .str)) := sl_a 3
 have s4 : slAD (.list ((w0 :: r).map .str)) (some 4) none = some (.own ((r.drop 3).map .str)) := sl_a 4
 have s34 : slAD (.list ((w0 :: r).map .str)) (some 3) (some 4) = some (.own (((r.drop 2).take 1).map .str)) := sl_ab 3 4 (by decide)
 have p : F_read_parts [.list ((r.take 2).map .str), c_HOUR_PARTS] = some (.dat (partsO HOUR (r.take 2))) := (W.take 2).parts (rs := HOUR) (by decide)
 have q : F_read_parts [.list ((r.drop 3).map .str), c_LINE_PARTS] = some (.dat (partsO LINE (r.drop 3))) := (W.drop 3).parts (rs := LINE) (by decide)
 have i0 : ixD (.list ((w0 :: r).map .str)) (.int 0) = some (.dat (.str w0)) := by walk_at "t"
 have hd : SOk (Str.ofString "dark") := sok_lit (by decide +kernel)
 have hli : SOk (Str.ofString "line") := sok_lit (by decide +kernel)
 have e3 : eqDD (.list ((r.drop 2).map .str)) (.list [.str (Str.ofString "dark")]) = some (.dat (.bool (decide (r.drop 2 = [Str.ofString "dark"])))) := eqD_strs (m := [Str.ofString "dark"]) (fun w hw => ((W.drop 2).w w hw).ok) (by simpa using hd)
 have e34 : neDD (.list (((r.drop 2).take 1).map .str)) (.list [.str (Str.ofString "line")]) = some (.dat (.bool (!decide ((r.drop 2).take 1 = [Str.ofString "line"])))) := neD_strs (m := [Str.ofString "line"]) (fun w hw => (((W.drop 2).take 1).w w hw).ok) (by simpa using hli)
 have hp := parts_cases HOUR (r.take 2)
 have hq := parts_cases LINE (r.drop 3)
 have go : w0 = Str.ofString "hour" -> partsO HOUR (r.take 2) ≠ .none -> r.drop 2 ≠ [Str.ofString "dark"] /\ ((r.drop 2).take 1 ≠ [Str.ofString "line"] \/ partsO LINE (r.drop 3) = .none) := fun h1 h2 => by
  rcases h with h | h | h
  . exact absurd h1 h
  . exact absurd h h2
  . exact h
 clear h
 generalize partsO HOUR (r.take 2) = D at *
 generalize partsO LINE (r.drop 3) = E at *
 generalize (w0 :: r).map PyData.str = L at *
 generalize (r.take 2).map PyData.str = R1 at *
 generalize (r.drop 3).map PyData.str = R3 at *
 unfold F_read_hour
 walk_at "t"
 rw [s13]
 walk_at "t"
 rw [p]
 walk_at "t"
 rw [show atI L 0 = some (.str w0) from by
  have := i0
  rw [ixD_list] at this
  cases e : atI L 0 with
  | none => rw [e] at this; cases this
  | some d => rw [e] at this; cases this; rfl]
 walk_at "t"
 by_cases c : w0 = Str.ofString "hour"
 . rcases hp with hp | ⟨l, hp⟩
   . subst hp
     simp only [c, decide_true, Bool.not_true]
     walk_at "t"
   . subst hp
     obtain ⟨g1, g2⟩ := go c (by simp)
     simp only [c, decide_true, Bool.not_true]
     walk_at "t"
     rw [s3]
     walk_at "t"
     rw [e3, decide_eq_false g1]
     walk_at "t"
     rw [s4]
     walk_at "t"
     rw [q]
     walk_at "t"
     rw [s34]
     walk_at "t"
     rw [e34]
     walk_at "t"
     rcases g2 with g2 | g2
     . simp [g2]
       rfl
     . subst g2
       by_cases c4 : (r.drop 2).take 1 = [Str.ofString "line"]
       . simp [c4]
         rfl
       . simp [c4]
         rfl
 . simp only [c, decide_false, Bool.not_false]
   walk_at "t"
end Law
namespace Law
open PySem L2 PySem.NumText PySem.StrLaws
noncomputable def StopH (rest : List PyData) : Prop := rest = [] \/ ∃ d r, rest = d :: r /\ F_read_hour [d] = some (.dat .none)
theorem hours_gen {hs : List Hr} {rest : List PyData} (h : ∀ x ∈ hs, Hr5 x) (hl : hs.length <= 24) (hr : hs.length = 24 \/ StopH rest) : F_read_hours [.list (hs.map rowH ++ rest)] = some (.own (hs.map hourD)) := by
 have ht : (hs.map rowH ++ rest).take 24 = hs.map rowH ++ rest.take (24 - hs.length) := by
  rw [List.take_append, List.length_map, List.take_of_length_le (by rw [List.length_map]; omega)]
 have hs' : StopH (rest.take (24 - hs.length)) := by
  rcases hr with hr | hr | ⟨d, r, rfl, hd⟩
  . left; rw [hr]; rfl
  . left; rw [hr]; exact List.take_nil
  . by_cases c : 24 - hs.length = 0
    . left; rw [c]; rfl
    . right
      obtain ⟨k, hk⟩ : ∃ k, 24 - hs.length = k + 1 := ⟨24 - hs.length - 1, by omega⟩
      exact ⟨d, r.take k, by rw [hk]; rfl, hd⟩
 generalize eL : hs.map rowH ++ rest = L at *
 have hc : slAD (.list L) none (some 24) = some (.own (hs.map rowH ++ rest.take (24 - hs.length))) := by
  rw [<- ht, <- cut_to]; rfl
 generalize rest.take (24 - hs.length) = R at *
 obtain ⟨z2, z3, e⟩ := hours_run (r := some (.dat (.list L))) (rest := R) hs [] none none h (by simp; omega)
 rw [List.nil_append] at e
 unfold F_read_hours
 walk_at "t"
 rw [hc]
 walk_at "t"
 rw [e]
 rcases hs' with rfl | ⟨d, r, rfl, hd⟩
 . rw [forD_nil]
   walk_at "t"
 . have B : B_read_hours_0 [some (.dat (.list L)), some (.own (hs.map hourD)), some (.dat d), z3] = some (.ret (.own (hs.map hourD))) := by
     unfold B_read_hours_0
     walk_at "t"
     rw [hd]
     walk_at "t"
   unfold forD
   show (seqK ((B_read_hours_0 [some (.dat (.list L)), some (.own (hs.map hourD)), some (.dat d), z3]).bind _) _).bind _ = _
   rw [B]
   walk_at "t"
theorem works_run2 {n : Int} {r : Option PV} (hn : n <= 24) {rest : List PyData} : ∀ (ws done : List Wk) (y4 y5 : Option PV), (∀ w ∈ ws, Wk5 n w) -> ((done ++ ws).map Wk.name).Nodup -> done.length + ws.length <= 1000 ->
  ∃ z4 z5, forD (sName 4) B_read_works_0 (ws.map rowW ++ rest) [r, iD n, some (.own (done.map workD)), some (.own ((done.map Wk.name).map .str)), y4, y5] = forD (sName 4) B_read_works_0 rest [r, iD n, some (.own ((done ++ ws).map workD)), some (.own (((done ++ ws).map Wk.name).map .str)), z4, z5]
 | [], done, y4, y5, _, _, _ => ⟨y4, y5, by rw [List.append_nil]; rfl⟩
 | w :: ws, done, y4, y5, h, nd, hl => by
  rw [List.length_cons] at hl
  have nd' : (((done ++ [w]) ++ ws).map Wk.name).Nodup := by rw [List.append_assoc]; exact nd
  obtain ⟨z4, z5, e⟩ := works_run2 (r := r) hn (rest := rest) ws (done ++ [w]) (some (.dat (rowW w))) (some (.dat (workD w))) (fun y hy => h y (List.mem_cons_of_mem _ hy)) nd' (by rw [List.length_append, List.length_singleton]; omega)
  refine ⟨z4, z5, ?_⟩
  have hni : w.name ∉ done.map Wk.name := by
   rw [List.map_append, List.map_cons] at nd
   have := (List.nodup_append.mp nd).2.2
   intro hm
   exact this _ hm _ List.mem_cons_self rfl
  have B : B_read_works_0 [r, iD n, some (.own (done.map workD)), some (.own ((done.map Wk.name).map .str)), some (.dat (rowW w)), y5] = some (.next [r, iD n, some (.own ((done ++ [w]).map workD)), some (.own (((done ++ [w]).map Wk.name).map .str)), some (.dat (rowW w)), some (.dat (workD w))]) := by
   have rw1 := rwork_eq (h w List.mem_cons_self) hn
   have nn : isNoneD (workD w) = false := rfl
   have i0 : ixD (workD w) (.int 0) = some (.dat (.str w.name)) := rfl
   have ni := in_names hni
   rw [List.map_append, List.map_append, List.map_append]
   simp only [List.map_cons, List.map_nil]
   have ln1 : (done.map workD).length < 1000000 := by rw [List.length_map]; omega
   have ln2 : ((done.map Wk.name).map PyData.str).length < 1000000 := by rw [List.length_map, List.length_map]; omega
   generalize done.map workD = D1 at *
   generalize (done.map Wk.name).map PyData.str = D2 at *
   unfold B_read_works_0
   rw [sq_next5 (setD_eq5 (pv := .dat (workD w)) (by walk_at "t"; exact rw1))]
   simp only [List.set_cons_zero, List.set_cons_succ, PV.d_dat]
   rw [sq_next5 (ds' := [r, iD n, some (.own D1), some (.own D2), some (.dat (rowW w)), some (.dat (workD w))]) (by
    simp only [gIf, bOr, bVal, fOp, fVar, fC, fFrz, frz, List.map_cons, List.map_nil, List.getElem?_cons_zero, List.getElem?_cons_succ, Option.bind_some, PV.d_dat, PV.d_own, isD_none]
    rw [nn]
    walk_at "t"
    rw [i0]
    walk_at "t"
    rw [ni]
    walk_at "t")]
   rw [sq_next5 (ds' := [r, iD n, some (.own (D1 ++ [workD w])), some (.own D2), some (.dat (rowW w)), some (.dat (workD w))]) (by
    rw [gApp_eq]
    exact appK_some (i := 2) (l := D1) (.dat (workD w)) rfl ln1)]
   rw [gApp_eq]
   exact appK_some (i := 3) (l := D2) (.dat (.str w.name)) rfl ln2
  rw [List.map_cons, List.cons_append, forD_next rfl B, e, List.append_assoc]
  rfl
theorem in_names_yes {z : Str} {l : List Str} (h : z ∈ l) : (or2 inD inSD) (.str z) (.list (l.map .str)) = some (.dat (.bool true)) := by
 have h1 : (l.map PyData.str).all Flat = true := by
  rw [List.all_eq_true]
  intro d hd
  obtain ⟨x, _, rfl⟩ := List.mem_map.mp hd
  rfl
 have h2 : ((l.map PyData.str).any fun y => eqF y (.str z)) = true := by
  rw [List.any_eq_true]
  refine ⟨.str z, List.mem_map_of_mem h, ?_⟩
  show (z == z) = true
  rw [beq_iff_eq]
 have e : inD (.str z) (.list (l.map .str)) = some (.dat (.bool true)) := by
  show (if Flat (.str z) = true /\ (l.map PyData.str).all Flat = true then some (PV.dat (.bool ((l.map PyData.str).any fun y => eqF y (.str z)))) else none) = _
  rw [if_pos ⟨rfl, h1⟩, h2]
 unfold or2
 rw [e]
noncomputable def StopW (n : Int) (ns : List Str) (rest : List PyData) : Prop := rest = [] \/ ∃ d r, rest = d :: r /\ (F_read_work [d, .int n] = some (.dat .none) \/ ∃ w, d = rowW w /\ Wk5 n w /\ w.name ∈ ns)
theorem works_gen {ws : List Wk} {n : Int} {rest : List PyData} (hw : ∀ w ∈ ws, Wk5 n w) (hn : n <= 24) (wl : ws.length <= 6) (nd : (ws.map Wk.name).Nodup) (hr : ws.length = 6 \/ StopW n (ws.map Wk.name) rest) : F_read_works [.list (ws.map rowW ++ rest), .int n] = some (.own (ws.map workD)) := by
 have ht : (ws.map rowW ++ rest).take 6 = ws.map rowW ++ rest.take (6 - ws.length) := by
  rw [List.take_append, List.length_map, List.take_of_length_le (by rw [List.length_map]; omega)]
 have hs' : StopW n (ws.map Wk.name) (rest.take (6 - ws.length)) := by
  rcases hr with hr | hr | ⟨d, r, rfl, hd⟩
  . left; rw [hr]; rfl
  . left; rw [hr]; exact List.take_nil
  . by_cases c : 6 - ws.length = 0
    . left; rw [c]; rfl
    . right
      obtain ⟨k, hk⟩ : ∃ k, 6 - ws.length = k + 1 := ⟨6 - ws.length - 1, by omega⟩
      exact ⟨d, r.take k, by rw [hk]; rfl, hd⟩
 generalize eL : ws.map rowW ++ rest = L at *
 have hc : slAD (.list L) none (some 6) = some (.own (ws.map rowW ++ rest.take (6 - ws.length))) := by
  rw [<- ht, <- cut_to]; rfl
 generalize rest.take (6 - ws.length) = R at *
 obtain ⟨z4, z5, e⟩ := works_run2 (r := some (.dat (.list L))) hn (rest := R) ws [] none none hw (by simpa using nd) (by simp; omega)
 simp only [List.map_nil, List.nil_append] at e
 unfold F_read_works
 walk_at "t"
 rw [hc]
 walk_at "t"
 rw [e]
 rcases hs' with rfl | ⟨d, r, rfl, hd⟩
 . rw [forD_nil]
   walk_at "t"
 . have B : B_read_works_0 [some (.dat (.list L)), iD n, some (.own (ws.map workD)), some (.own ((ws.map Wk.name).map .str)), some (.dat d), z5] = some (.ret (.own (ws.map workD))) := by
     generalize ws.map workD = D1 at *
     rcases hd with hd | ⟨w, rfl, hw2, hm⟩
     . generalize (ws.map Wk.name).map PyData.str = D2 at *
       unfold B_read_works_0
       rw [sq_next5 (setD_eq5 (pv := .dat .none) (by walk_at "t"; exact hd))]
       walk_at "t"
     . have rw1 := rwork_eq hw2 hn
       have nn : isNoneD (workD w) = false := rfl
       have i0 : ixD (workD w) (.int 0) = some (.dat (.str w.name)) := rfl
       have ni := in_names_yes hm
       generalize (ws.map Wk.name).map PyData.str = D2 at *
       unfold B_read_works_0
       rw [sq_next5 (setD_eq5 (pv := .dat (workD w)) (by walk_at "t"; exact rw1))]
       simp only [List.set_cons_zero, List.set_cons_succ, PV.d_dat]
       unfold gSeq
       rw [show (gIf (bOr (bVal (fOp isD (fVar 5) (fC .none))) (bVal (fOp (or2 inD inSD) (fFrz (fOp ixD (fVar 5) (fC (.int 0)))) (fFrz (fVar 3))))) (gRetV 2) gNext) [some (.dat (.list L)), iD n, some (.own D1), some (.own D2), some (.dat (rowW w)), some (.dat (workD w))] = some (.ret (.own D1)) from by
        simp only [gIf, bOr, bVal, fOp, fVar, fC, fFrz, frz, List.map_cons, List.map_nil, List.getElem?_cons_zero, List.getElem?_cons_succ, Option.bind_some, PV.d_dat, PV.d_own, isD_none]
        rw [nn]
        walk_at "t"
        rw [i0]
        walk_at "t"
        rw [ni]
        walk_at "t"]
       rfl
   unfold forD
   show (seqK ((B_read_works_0 [some (.dat (.list L)), iD n, some (.own (ws.map workD)), some (.own ((ws.map Wk.name).map .str)), some (.dat d), z5]).bind _) _).bind _ = _
   rw [B]
   walk_at "t"
end Law
local macro_rules | `(tactic| walk_at "w") => `(tactic| simp only [L2.fnF, L2.fnX, L2.seqK_up, L2.outX, L2.gUpP, L2.gTryA, L2.gTryE, L2.unOut, L2.fIsE, L2.fFld, L2.isExc_self, L2.excField_self, L2.isNone_exc, L2.fnIO2, L2.fVarB, L2.nxSet, L2.nxNo, L2.fAlt, L2.isFnD, L2.fMeth, L2.fLst, L2.iWk, L2.walkOf, L2.startsD, L2.findD, L2.gSeq_eq, L2.seqK_next, L2.seqK_ret, L2.seqK_brk, L2.seqK_cont, L2.gSet_eq, L2.letP_some, L2.gSetD_eq, L2.letK_some, L2.gIf, L2.gRet, L2.gRetV, L2.gRetN, L2.gNext, L2.gPass, L2.gBreak, L2.gCont, L2.gDrop, L2.gPar, L2.gApp_eq, L2.gFor, L2.gWhile, L2.gFrz1, L2.frz1, L2.fVar, L2.fC, L2.fOp, L2.fUn, L2.fCall, L2.fTup, L2.fLst, L2.fSl, L2.fIf, L2.fAnd, L2.fOr, L2.fNot, L2.fChain, L2.fIsin, L2.fFlat, L2.Flat, L2.fFrz, L2.frz, L2.fComp, L2.oNone, L2.oSome, L2.asI_int, L2.asB_bool, L2.aCons, L2.aNil, L2.bVal, L2.bNot, L2.bAnd, L2.bOr, L2.bTrue, L2.iFn, L2.iSq, L2.seqOf_list, L2.seqOf_tup, L2.outV_ret, L2.outV_next, L2.dats_nil, L2.dats_cons, L2.sName, L2.sTup, L2.sCons, L2.sNil, L2.gtName, L2.gtTup, L2.PV.d_dat, L2.PV.d_own, L2.muAbs,
 L2.addD_int, L2.subD_int, L2.ltD_int, L2.leD_int, L2.gtD_int, L2.geD_int, L2.eqDD_int, L2.neDD_int, L2.eqDD_str, L2.neDD_str, L2.ixD_tup, L2.ixD_list, L2.absD_int, L2.negD_int, L2.lenD_list, L2.lenD_tup, L2.tupD_list, L2.tupD_tup, L2.listD_list, L2.listD_tup, L2.slD_tup, L2.slD_list, L2.isD_none, L2.isNotD_none, L2.chain_if, L2.intD_int, L2.intD_bool, L2.sumD_list, L2.enumD_seq, L2.fIxO, L2.fListO, L2.gMut0, L2.isNone_tup, L2.isNone_lst, L2.isNone_int, L2.isNone_non, L2.isNone_str, L2.atI_0, L2.atI_1, L2.atI_2, L2.atI_3, L2.atI_4, L2.atI_5, L2.atI_6, L2.isI, L2.tyOf, String.reduceBEq,
 Option.bind_some, Option.bind_none, Option.map_some, Option.map_none, List.map_cons, List.map_nil, List.length_cons, List.length_nil, List.replicate, List.cons_append, List.nil_append, List.append_nil, List.set_cons_zero, List.set_cons_succ, List.getElem?_cons_zero, List.getElem?_cons_succ, Nat.reduceAdd, Nat.reduceSub, Nat.reduceEqDiff, Nat.reduceLeDiff, Nat.reduceLT, Int.reduceToNat, Int.cast_ofNat_Int, eq_self,
 if_true, if_false, reduceIte, decide_eq_true_eq, decide_true, decide_false, Bool.false_eq_true, Bool.not_eq_true', decide_eq_false_iff_not, Bool.not_true, Bool.not_false, not_true_eq_false, not_false_eq_true, Bool.true_or, Bool.false_or, Bool.or_true, Bool.or_false, Bool.and_true, Bool.true_and, Bool.and_false, Bool.false_and, reduceCtorEq, and_self])
namespace Law
open PySem L2 PySem.NumText PySem.StrLaws
noncomputable abbrev rowS (l : List Str) : PyData := .list (l.map .str)
noncomputable def dl (R : List (List Str)) : List PyData := R.map fun l => .str (lnS l)
theorem smallD_nat {f : Nat} (h : f <= 1000) : smallD (.int (f : Int)) = true := by
 show decide (((f : Int)).natAbs.log2 < 1920) = true
 rw [decide_eq_true_eq, Int.natAbs_natCast]
 by_cases c : f = 0
 . subst c; decide
 . exact (Nat.log2_lt c (k := 1920)).mpr (Nat.lt_of_le_of_lt h (Nat.lt_of_lt_of_le (show 1000 < 2 ^ 10 by decide) (Nat.pow_le_pow_right (by decide) (by decide))))
theorem split_rows {R : List (List Str)} (LA : ∀ l ∈ R, Ln5 l) (ds : Ds) : compD gtName bTrue EX_read_0 ds (dl R) = some (R.map rowS) := comp_map fun l hl' => ⟨.own (l.map .str), by
  have k := LA l hl'
  have s := splitD_eq (ws := l) k.ne k.len (fun w hw => (k.w w hw).len) (fun w hw => (k.w w hw).no)
  unfold EX_read_0
  walk_at "w"
  exact s, rfl⟩
theorem readX_eq (cE : Addr) {s : List Str} {R : List (List Str)} (LA : ∀ l ∈ s :: R, Ln5 l) (hl : R.length <= 500) {SD : PyData} {HD WD : List PyData} (ns : isNoneD SD = false) (rs : F_read_store [rowS s] = some (.dat SD)) (rh : F_read_hours [.list (R.map rowS)] = some (.own HD))
  (t1 : PyData.canLayAll0 HD = true) (t2 : PyData.depthAll HD <= 3) (hl2 : HD.length <= 24) (wl : WD.length <= 6) (rwk : F_read_works [.list ((R.map rowS).drop HD.length), .int HD.length] = some (.own WD)) (hH : HD ≠ []) :
  FX_read cE [.list (dl (s :: R))] = if HD.length + WD.length < R.length then some (.inr (excD cE "place" (.int ((1 + HD.length + WD.length : Nat) : Int)))) else some (.inl (.dat (.tuple [.tuple HD, SD, .tuple WD]))) := by
 have ec := split_rows LA [some (.dat (.list (dl (s :: R)))), none, none, none, none, none]
 have er : (s :: R).map rowS = rowS s :: R.map rowS := rfl
 obtain ⟨s1, s2⟩ := sh_rows (s :: R) LA
 have en : eqDD (.list (rowS s :: R.map rowS)) (.list []) = some (.dat (.bool false)) := eq_nil s1 s2
 have ln : (dl (s :: R)).length <= 501 := by unfold dl; rw [List.length_map, List.length_cons]; omega
 have d1 : slAD (.list (rowS s :: R.map rowS)) (some 1) none = some (.own (R.map rowS)) := by
  show some (PV.own (cutD _ (some ((1 : Nat) : Int)) none)) = _
  rw [cut_from]; rfl
 have d2 : slAD (.list (rowS s :: R.map rowS)) (some (1 + (HD.length : Int))) none = some (.own ((R.map rowS).drop HD.length)) := by
  have : cutD (rowS s :: R.map rowS) (some ((HD.length + 1 : Nat) : Int)) none = (R.map rowS).drop HD.length := by
   rw [cut_from, List.drop_succ_cons]
  show some (PV.own (cutD _ (some (1 + (HD.length : Int))) none)) = _
  rw [show (1 + (HD.length : Int)) = ((HD.length + 1 : Nat) : Int) by omega, this]
 have eh : eqDD (.list HD) (.list []) = some (.dat (.bool false)) := by
  cases HD with
  | nil => exact absurd rfl hH
  | cons a r => exact eq_nil t1 t2
 have rl : (rowS s :: R.map rowS).length = 1 + R.length := by
  rw [List.length_cons, List.length_map]; omega
 have sm := smallD_nat (f := 1 + HD.length + WD.length) (by omega)
 rw [er] at ec
 generalize rowS s = RS at *
 generalize (R.map rowS).drop HD.length = RD at *
 generalize dl (s :: R) = LD at *
 unfold FX_read
 walk_at "w"
 rw [if_pos (by omega), ec]
 walk_at "w"
 rw [en]
 walk_at "w"
 rw [rs]
 walk_at "w"
 rw [ns]
 walk_at "w"
 rw [d1]
 walk_at "w"
 rw [rh]
 walk_at "w"
 rw [eh]
 walk_at "w"
 rw [d2]
 walk_at "w"
 rw [rwk]
 walk_at "w"
 rw [List.length_map]
 by_cases c : HD.length + WD.length < R.length
 . rw [if_pos c, if_pos (by omega)]
   rw [show (1 + (HD.length : Int) + (WD.length : Int)) = ((1 + HD.length + WD.length : Nat) : Int) by omega]
   try walk_at "w"
   rw [sm]
   walk_at "w"
 . rw [if_neg c, if_neg (by omega)]
   walk_at "w"
theorem readX_store (cE : Addr) {s : List Str} {R : List (List Str)} (LA : ∀ l ∈ s :: R, Ln5 l) (hl : R.length <= 500) (rs : F_read_store [rowS s] = some (.dat .none)) : FX_read cE [.list (dl (s :: R))] = some (.inr (excD cE "place" (.int 0))) := by
 have ec := split_rows LA [some (.dat (.list (dl (s :: R)))), none, none, none, none, none]
 have er : (s :: R).map rowS = rowS s :: R.map rowS := rfl
 obtain ⟨s1, s2⟩ := sh_rows (s :: R) LA
 have en : eqDD (.list (rowS s :: R.map rowS)) (.list []) = some (.dat (.bool false)) := eq_nil s1 s2
 have ln : (dl (s :: R)).length <= 501 := by unfold dl; rw [List.length_map, List.length_cons]; omega
 have sm : smallD (.int 0) = true := smallD_nat (f := 0) (by omega)
 rw [er] at ec
 generalize rowS s = RS at *
 generalize dl (s :: R) = LD at *
 unfold FX_read
 walk_at "w"
 rw [if_pos (by omega), ec]
 walk_at "w"
 rw [en]
 walk_at "w"
 rw [rs]
 walk_at "w"
 rw [sm]
 walk_at "w"
theorem readX_nohour (cE : Addr) {s : List Str} {R : List (List Str)} (LA : ∀ l ∈ s :: R, Ln5 l) (hl : R.length <= 500) {SD : PyData} (ns : isNoneD SD = false) (rs : F_read_store [rowS s] = some (.dat SD)) (rh : F_read_hours [.list (R.map rowS)] = some (.own [])) : FX_read cE [.list (dl (s :: R))] = some (.inr (excD cE "place" (.int 1))) := by
 have ec := split_rows LA [some (.dat (.list (dl (s :: R)))), none, none, none, none, none]
 have er : (s :: R).map rowS = rowS s :: R.map rowS := rfl
 obtain ⟨s1, s2⟩ := sh_rows (s :: R) LA
 have en : eqDD (.list (rowS s :: R.map rowS)) (.list []) = some (.dat (.bool false)) := eq_nil s1 s2
 have ln : (dl (s :: R)).length <= 501 := by unfold dl; rw [List.length_map, List.length_cons]; omega
 have sm : smallD (.int 1) = true := smallD_nat (f := 1) (by omega)
 have d1 : slAD (.list (rowS s :: R.map rowS)) (some 1) none = some (.own (R.map rowS)) := by
  show some (PV.own (cutD _ (some ((1 : Nat) : Int)) none)) = _
  rw [cut_from]; rfl
 have en0 : eqDD (.list []) (.list []) = some (.dat (.bool true)) := rfl
 rw [er] at ec
 generalize rowS s = RS at *
 generalize dl (s :: R) = LD at *
 unfold FX_read
 walk_at "w"
 rw [if_pos (by omega), ec]
 walk_at "w"
 rw [en]
 walk_at "w"
 rw [rs]
 walk_at "w"
 rw [ns]
 walk_at "w"
 rw [d1]
 walk_at "w"
 rw [rh]
 walk_at "w"
 rw [en0]
 walk_at "w"
 rw [sm]
 walk_at "w"
end Law
namespace Law
open PySem L2 PySem.NumText PySem.StrLaws
noncomputable def hrA : Hr := ⟨3, 4, none⟩
noncomputable def hrB : Hr := ⟨5, 6, some (7, 8, -9, 1)⟩
noncomputable def hrC : Hr := ⟨1, 1, some (1, 1, 1, 1)⟩
noncomputable def h0 : House := ⟨[hrA], 9, 3, 3, 3, (1, 2), (1, 1), 2, []⟩
noncomputable abbrev stL : List Str := storeL h0
theorem hrA5 : Hr5 hrA := ⟨⟨by decide, by decide⟩, ⟨by decide, by decide⟩, fun a b c d h => by cases h⟩
theorem hrB5 : Hr5 hrB := ⟨⟨by decide, by decide⟩, ⟨by decide, by decide⟩, fun a b c d h => by cases h; exact ⟨⟨by decide, by decide⟩, ⟨by decide, by decide⟩, ⟨by decide, by decide⟩, ⟨by decide, by decide⟩⟩⟩
theorem hrC5 : Hr5 hrC := ⟨⟨by decide, by decide⟩, ⟨by decide, by decide⟩, fun a b c d h => by cases h; exact ⟨⟨by decide, by decide⟩, ⟨by decide, by decide⟩, ⟨by decide, by decide⟩, ⟨by decide, by decide⟩⟩⟩
theorem h05 : H5 h0 := ⟨fun x hx => by rw [List.mem_singleton.mp hx]; exact hrA5, by decide, by decide, ⟨by decide, by decide⟩, ⟨by decide, by decide⟩, by decide, ⟨by decide, by decide⟩, ⟨by decide, by decide⟩, ⟨by decide, by decide, by decide, by decide⟩, ⟨by decide, by decide, by decide, by decide⟩, ⟨by decide, by decide⟩, (fun w hw => by cases hw), by decide, by simp [h0]⟩
theorem lit_hA : Str.ofString "hour 3 4 dark" = lnS (hourL hrA) := str_ext (by decide +kernel)
theorem lit_hB : Str.ofString "hour 5 6 line 7 8 -9 1" = lnS (hourL hrB) := str_ext (by decide +kernel)
theorem lit_hC : Str.ofString "hour 1 1 line 1 1 1 1" = lnS (hourL hrC) := str_ext (by decide +kernel)
theorem lit_st : Str.ofString "store 9 3 3 3 1/2 1 2" = lnS stL := str_ext (by decide +kernel)
noncomputable def wnm (j : Nat) : Str := ⟨#[119, 97 + j]⟩
noncomputable def wkA (j : Nat) (a b : Int) : Wk := ⟨wnm j, 5, a, b, 3⟩
noncomputable def wkB (j : Nat) : Wk := ⟨wnm j, 1, 0, 0, 2⟩
theorem lit_wa : Str.ofString "work wa 5 0 0 3" = lnS (workL (wkA 0 0 0)) := str_ext (by decide +kernel)
theorem nm_w {j : Nat} (h : j < 7) : Nm (wnm j) := by
 have e : lz (wnm j) = [119, 97 + j] := rfl
 refine ⟨by rw [e]; simp, by rw [e]; simp, ?_⟩
 rw [e, List.all_cons, List.all_cons, Bool.and_eq_true, Bool.and_eq_true]
 exact ⟨by decide, decide_eq_true ⟨by omega, by omega⟩, rfl⟩
theorem wkA5 {j : Nat} {a b n : Int} (h : j < 7) (h0 : 0 <= a) (h1 : a <= b) (h2 : b < n) : Wk5 n (wkA j a b) := ⟨nm_w h, ⟨by show (0 : Int) <= 5; decide, by show (5 : Int) <= 1000000; decide⟩, h0, h1, h2, ⟨by show (0 : Int) <= 3; decide, by show (3 : Int) <= 1000000; decide⟩⟩
theorem wkB5 {j : Nat} {n : Int} (h : j < 7) (h2 : 0 < n) : Wk5 n (wkB j) := ⟨nm_w h, ⟨by show (0 : Int) <= 1; decide, by show (1 : Int) <= 1000000; decide⟩, by show (0 : Int) <= 0; decide, by show (0 : Int) <= 0; decide, h2, ⟨by show (0 : Int) <= 2; decide, by show (2 : Int) <= 1000000; decide⟩⟩
theorem ln_ws {w0 : Str} {r : List Str} (h : Ln5 (w0 :: r)) (hl : r.length <= 100) : Ws r := ⟨fun w hw => h.w w (List.mem_cons_of_mem _ hw), hl⟩
theorem ln_st : Ln5 stL := ln_store h05
theorem lit_ne {a b : String} (h : a ≠ b) : Str.ofString a ≠ Str.ofString b := by rw [ne_eq, os_inj]; exact h
theorem sh_st : F_read_hour [rowS stL] = some (.dat .none) := hour_bad (w0 := Str.ofString "store") (ln_ws ln_st (by decide)) (.inl (lit_ne (by decide)))
theorem sw_st {n : Int} : F_read_work [rowS stL, .int n] = some (.dat .none) := work_bad (w0 := Str.ofString "store") (ln_ws ln_st (by decide)) (.inl (lit_ne (by decide)))
theorem hour_form (x : Hr) : ∃ r, hourL x = Str.ofString "hour" :: r /\ r.length <= 100 := by
 obtain ⟨s, n, l⟩ := x
 cases l with
 | none => exact ⟨_, rfl, by simp⟩
 | some l => exact ⟨_, rfl, by simp [lineW5]⟩
theorem ss_hour {x : Hr} (h : Hr5 x) : F_read_store [rowS (hourL x)] = some (.dat .none) := by
 have l := ln_hour h
 obtain ⟨r, e, hr⟩ := hour_form x
 rw [e] at l ⊢
 exact store_bad (ln_ws l hr) (.inl (lit_ne (by decide)))
theorem sw_hour {x : Hr} {n : Int} (h : Hr5 x) : F_read_work [rowS (hourL x), .int n] = some (.dat .none) := by
 have l := ln_hour h
 obtain ⟨r, e, hr⟩ := hour_form x
 rw [e] at l ⊢
 exact work_bad (ln_ws l hr) (.inl (lit_ne (by decide)))
theorem ss_work {n : Int} {w : Wk} (h : Wk5 n w) (hn : n <= 24) : F_read_store [rowS (workL w)] = some (.dat .none) := store_bad (ln_ws (ln_work h hn) (by simp [workW])) (.inl (lit_ne (by decide)))
theorem sh_work {n : Int} {w : Wk} (h : Wk5 n w) (hn : n <= 24) : F_read_hour [rowS (workL w)] = some (.dat .none) := hour_bad (ln_ws (ln_work h hn) (by simp [workW])) (.inl (lit_ne (by decide)))
theorem ln_late {j : Nat} {n : Int} (h : j < 7) (n0 : 0 <= n) (n1 : n <= 24) : Ln5 (workL (wkA j 0 n)) := by
 refine ⟨by simp [workL], by simp [workL, workW], fun z hz => ?_⟩
 rcases List.mem_cons.mp hz with rfl | hz
 . exact w5_lit (by decide +kernel) (by decide +kernel)
 . obtain ⟨x, hx, rfl⟩ := List.mem_map.mp hz
   refine w5_wrd ?_
   simp only [workW, wkA, List.mem_cons, List.not_mem_nil, or_false] at hx
   rcases hx with rfl | rfl | rfl | rfl | rfl
   . exact nm_w h
   . exact ⟨by decide, by decide⟩
   . exact ⟨by decide, by decide⟩
   . exact ⟨by omega, by omega⟩
   . exact ⟨by decide, by decide⟩
theorem sh_late {j : Nat} {n : Int} (h : j < 7) (n0 : 0 <= n) (n1 : n <= 24) : F_read_hour [rowS (workL (wkA j 0 n))] = some (.dat .none) := hour_bad (ln_ws (ln_late h n0 n1) (by simp [workW])) (.inl (lit_ne (by decide)))
theorem sw_late {j : Nat} {n : Int} (h : j < 7) (n0 : 0 <= n) (n1 : n <= 24) : F_read_work [rowS (workL (wkA j 0 n)), .int n] = some (.dat .none) := by
 have p := parts_eq (l := workW (wkA j 0 n)) (by
  intro x hx
  simp only [workW, wkA, List.mem_cons, List.not_mem_nil, or_false] at hx
  rcases hx with rfl | rfl | rfl | rfl | rfl
  . exact nm_w h
  . exact ⟨by decide, by decide⟩
  . exact ⟨by decide, by decide⟩
  . exact ⟨by omega, by omega⟩
  . exact ⟨by decide, by decide⟩) (by simp [workW])
 have e1 : (rowS (workL (wkA j 0 n)) : PyData) = .list (.str (Str.ofString "work") :: (workW (wkA j 0 n)).map fun x => .str x.w) := by
  simp [workL, List.map_map]
 have e2 : PyData.tuple ((workW (wkA j 0 n)).map Wrd.v) = workD (wkA j 0 n) := rfl
 have e3 : (c_WORK_PARTS : PyData) = .tuple ((workW (wkA j 0 n)).map Wrd.rd) := rfl
 rw [e2] at p
 rw [e1]
 unfold F_read_work
 walk_at "w"
 rw [show slAD (.list (.str (Str.ofString "work") :: (workW (wkA j 0 n)).map fun x => .str x.w)) (some 1) none = some (.own ((workW (wkA j 0 n)).map fun x => .str x.w)) from rfl, e3]
 walk_at "w"
 rw [p]
 walk_at "w"
 unfold workD wkA
 walk_at "w"
 rw [if_neg (show ¬ n < 0 by omega), decide_eq_true (show n <= n by omega)]
 walk_at "w"
noncomputable def endL : List (List Str) := [[Str.ofString "end"], [Str.ofString "work", Str.ofString "A", Str.ofString "1", Str.ofString "0", Str.ofString "0", Str.ofString "1"], [Str.ofString "hour", Str.ofString "1", Str.ofString "1"]]
theorem lit_e0 : Str.ofString "end" = lnS [Str.ofString "end"] := str_ext (by decide +kernel)
theorem lit_e1 : Str.ofString "work A 1 0 0 1" = lnS [Str.ofString "work", Str.ofString "A", Str.ofString "1", Str.ofString "0", Str.ofString "0", Str.ofString "1"] := str_ext (by decide +kernel)
theorem lit_e2 : Str.ofString "hour 1 1" = lnS [Str.ofString "hour", Str.ofString "1", Str.ofString "1"] := str_ext (by decide +kernel)
theorem w5l {s : String} (h : ((lz (Str.ofString s)).all fun c => decide (c < 1114112 /\ c ≠ 32)) = true /\ (lz (Str.ofString s)).length <= 130) : W5 (Str.ofString s) := w5_lit h.1 h.2
theorem ln_end : ∀ l ∈ endL, Ln5 l := by
 intro l hl
 simp only [endL, List.mem_cons, List.not_mem_nil, or_false] at hl
 rcases hl with rfl | rfl | rfl
 . refine ⟨by simp, by simp, fun w hw => ?_⟩
   simp only [List.mem_cons, List.not_mem_nil, or_false] at hw
   subst hw
   exact w5l (by decide +kernel)
 . refine ⟨by simp, by simp, fun w hw => ?_⟩
   simp only [List.mem_cons, List.not_mem_nil, or_false] at hw
   rcases hw with rfl | rfl | rfl | rfl | rfl | rfl <;> exact w5l (by decide +kernel)
 . refine ⟨by simp, by simp, fun w hw => ?_⟩
   simp only [List.mem_cons, List.not_mem_nil, or_false] at hw
   rcases hw with rfl | rfl | rfl <;> exact w5l (by decide +kernel)
theorem sh_end : ∀ l ∈ endL, F_read_hour [rowS l] = some (.dat .none) := by
 intro l hl
 have L := ln_end l hl
 simp only [endL, List.mem_cons, List.not_mem_nil, or_false] at hl
 rcases hl with rfl | rfl | rfl
 . exact hour_bad (ln_ws L (by simp)) (.inl (lit_ne (by decide)))
 . exact hour_bad (ln_ws L (by simp)) (.inl (lit_ne (by decide)))
 . exact hour_bad (ln_ws L (by simp)) (.inr (.inr ⟨by simp, .inl (by simp)⟩))
end Law
namespace Law
open PySem L2
noncomputable abbrev scr (ns : List Int) : PyData := .list (ns.map .int)
theorem scr_len (ns : List Int) : (ns.map PyData.int).length = ns.length := by simp
theorem scr_at {ns : List Int} {i : Int} (h0 : 0 <= i) (h : i < ns.length) : atI (ns.map PyData.int) i = some (.int (ns.getD i.toNat 0)) := by
 rw [atI_lit (n := i.toNat) (by omega) (by simp; omega), List.getElem?_map, List.getElem?_eq_getElem (by omega)]
 simp [List.getD_eq_getElem?_getD, List.getElem?_eq_getElem (show i.toNat < ns.length by omega)]
noncomputable def drawTail : Ds -> Option Out := (gSeq (gSetD 4 (fOp modD (fOp addD (fOp mulD (fOp modD (fVar 3) (fC (.int 2147483647))) (fC (.int 48271))) (fOp mulD (fOp mulD (fOp addD (fVar 1) (fC (.int 1))) (fOp addD (fVar 1) (fC (.int 5)))) (fC (.int 69621)))) (fC (.int 2147483629)))) (gRet (fOp modD (fOp modD (fOp mulD (fVar 4) (fOp addD (fVar 4) (fC (.int 40692)))) (fC (.int 2147483587))) (fVar 2))))
theorem draw_tail {d : PyData} {k m c : Int} (hk0 : 0 <= k) (hk1 : k <= 1000000) (hm : 0 < m) : ∃ r : Int, drawTail [some (.dat d), iD k, iD m, iD c, none] = some (.ret (.dat (.int r))) /\ 0 <= r /\ r < m := by
 have fin : ∀ z : Int, 0 <= z.fmod m /\ z.fmod m < m := fun z => ⟨Int.fmod_nonneg_of_pos z hm, Int.fmod_lt_of_pos z hm⟩
 have h1 := Int.fmod_nonneg_of_pos c (b := 2147483647) (by decide)
 have h2 := Int.fmod_lt_of_pos c (b := 2147483647) (by decide)
 have b1 : Bt 62 (k + 1) := Bt.small (by omega) (by omega)
 have b2 : Bt 62 (k + 5) := Bt.small (by omega) (by omega)
 have h3 := Int.fmod_nonneg_of_pos (c.fmod 2147483647 * 48271 + (k + 1) * (k + 5) * 69621) (b := 2147483629) (by decide)
 have h4 := Int.fmod_lt_of_pos (c.fmod 2147483647 * 48271 + (k + 1) * (k + 5) * 69621) (b := 2147483629) (by decide)
 unfold drawTail
 walk_at "r"
 rw [modD_int (by decide)]
 walk_at "r"
 rw [mulD_int (Bt.s62 (by omega) (by omega)) Bt.lit, mulD_int (b1.mono (by decide)) (b2.mono (by decide))]
 walk_at "r"
 rw [mulD_int ((b1.mul b2).mono (by decide)) Bt.lit]
 walk_at "r"
 rw [modD_int (by decide)]
 walk_at "r"
 rw [mulD_int (Bt.s62 (by omega) (by omega)) (Bt.s62 (by omega) (by omega))]
 walk_at "r"
 rw [modD_int (by decide)]
 walk_at "r"
 rw [modD_int (by omega)]
 exact ⟨_, rfl, fin _⟩
theorem draw_eq {ns : List Int} {k m : Int} (hl : ns.length <= 63) (hk0 : 0 <= k) (hk1 : k <= 1000000) (hm : 0 < m) : ∃ r : Int, F_l_draw [scr ns, .int k, .int m] = some (.dat (.int r)) /\ 0 <= r /\ r < m := by
 have fin : ∀ z : Int, 0 <= z.fmod m /\ z.fmod m < m := fun z => ⟨Int.fmod_nonneg_of_pos z hm, Int.fmod_lt_of_pos z hm⟩
 have tail : ∀ (c : Int), ∃ r : Int, (drawTail [some (.dat (scr ns)), iD k, iD m, iD c, none]).bind outV = some (.dat (.int r)) /\ 0 <= r /\ r < m := fun c => by
  obtain ⟨r, h, h'⟩ := draw_tail (d := scr ns) (c := c) hk0 hk1 hm
  rw [h]
  exact ⟨r, rfl, h'⟩
 unfold F_l_draw
 walk_at "r"
 rw [scr_len]
 by_cases hp : (0 : Int) < (ns.length : Int)
 . rw [if_pos hp, modD_int (by omega)]
   have g1 := Int.fmod_nonneg_of_pos k hp
   have g2 := Int.fmod_lt_of_pos k hp
   walk_at "r"
   rw [scr_at g1 g2]
   walk_at "r"
   rw [scr_at (Int.le_refl 0) hp]
   walk_at "r"
   rw [modD_int (by decide)]
   walk_at "r"
   by_cases h2 : Int.fmod (ns.getD 0 0) 2 = 1
   . rw [if_pos h2, scr_len]
     have q0 : 0 <= k.fdiv (ns.length : Int) := Int.fdiv_nonneg hk0 (by omega)
     have q1 : k.fdiv (ns.length : Int) <= k := by
      have := PySem.natAbs_fdiv_le k (ns.length : Int)
      omega
     rw [fdivD_int (by decide) Bt.lit, fdivD_int (by omega) (Bt.s62 (by omega) (by omega))]
     walk_at "r"
     rw [mulD_int Bt.lit (Bt.s62 (by omega) (by omega))]
     walk_at "r"
     rw [shrD_int (by omega)]
     walk_at "r"
     rw [modD_int (by decide)]
     walk_at "r"
     rw [modD_int (by omega)]
     walk_at "r"
     exact ⟨_, rfl, fin _⟩
   . rw [if_neg h2]
     simp only [seqK_next]
     exact tail _
 . rw [if_neg hp]
   simp only [seqK_next]
   exact tail 0
end Law
namespace Law
open PySem L2 PySem.NumText PySem.StrLaws
theorem many_eq {ns : List Int} {k most : Int} (hl : ns.length <= 63) (k0 : 0 <= k) (k1 : k <= 1000) (m0 : 0 <= most) : ∃ r : Int, F_l_many [scr ns, .int k, .int most] = some (.dat (.int r)) /\ 0 <= r /\ r <= most := by
 obtain ⟨w, ew, w0, w1⟩ := draw_eq (ns := ns) (k := k) (m := 2) hl k0 (by omega) (by decide)
 obtain ⟨a, ea, a0, a1⟩ := draw_eq (ns := ns) (k := k + 1) (m := most + 1) hl (by omega) (by omega) (by omega)
 unfold F_l_many
 walk_at "w"
 rw [ew]
 walk_at "w"
 by_cases c : w = 0
 . rw [if_pos c]
   try walk_at "w"
   exact ⟨most, rfl, m0, by omega⟩
 . rw [if_neg c]
   try walk_at "w"
   rw [ea]
   exact ⟨a, rfl, a0, by omega⟩
noncomputable abbrev oS (l : List PyData) : Option PV := some (.own l)
noncomputable abbrev tS (l : List Str) : PyData := .str (lnS l)
noncomputable def Bg (f : Int) (R : List (List Str)) (b : List PyData) : Prop :=
 (f = 6 /\ b = [.int 0] /\ ∃ x, R = [x, stL] /\ Ln5 x /\ F_read_store [rowS x] = some (.dat .none)) \/
 (f = 7 /\ b = [.int 1] /\ ∃ x, R = [stL, x] /\ Ln5 x /\ F_read_hour [rowS x] = some (.dat .none)) \/
 (f ≠ 6 /\ f ≠ 7 /\ b = [] /\ R = [stL])
theorem io2_next {G1 : Ds -> Option Out} {G2 : IOF2} {ds ds' : Ds} (h : G1 ds = some (.next ds')) : io2Seq G1 G2 ds = G2 ds' := by unfold io2Seq; rw [h]; rfl
theorem io2_last {i : Nat × Nat} {G1 : Ds -> Option Out} {ds ds' : Ds} {l m : List PyData} (h : G1 ds = some (.next ds')) (h1 : ds'[i.1]? = some (oS l)) (h2 : ds'[i.2]? = some (oS m)) : io2Last i G1 ds = some (.none, l, m) := by
 unfold io2Last io2End
 rw [h]
 simp only [h1, h2]
theorem io2_ret {i : Nat × Nat} {F : Ds -> Option PV} {ds : Ds} {l m : List PyData} {pv : PV} (h : F ds = some pv) (h1 : ds[i.1]? = some (oS l)) (h2 : ds[i.2]? = some (oS m)) : io2Ret i F ds = some (pv.d, l, m) := by
 unfold io2Ret
 simp only [h1, h2, h, Option.bind_some]
theorem gIf_b {Ft : Ds -> Option Bool} {G1 G2 : Ds -> Option Out} {ds : Ds} {b : Bool} (h : Ft ds = some b) : gIf Ft G1 G2 ds = if b = true then G1 ds else G2 ds := by
 unfold gIf
 rw [h]
 cases b <;> rfl
theorem bAnd_d {Ft Fu : Ds -> Option Bool} {ds : Ds} {p q : Prop} [Decidable p] [Decidable q] (h1 : Ft ds = some (decide p)) (h2 : Fu ds = some (decide q)) : bAnd Ft Fu ds = some (decide (p /\ q)) := by
 unfold bAnd
 rw [h1, h2]
 by_cases c : p
 . simp [c]
 . simp [c]
theorem bOr_d {Ft Fu : Ds -> Option Bool} {ds : Ds} {p q : Prop} [Decidable p] [Decidable q] (h1 : Ft ds = some (decide p)) (h2 : Fu ds = some (decide q)) : bOr Ft Fu ds = some (decide (p \/ q)) := by
 unfold bOr
 rw [h1, h2]
 by_cases c : p
 . simp [c]
 . simp [c]
theorem eq_d {i j : Nat} {a b : Int} {ds : Ds} (h1 : ds[i]? = some (iD a)) (h2 : ds[j]? = some (iD b)) : (bVal (fOp eqDD (fVar i) (fVar j))) ds = some (decide (a = b)) := by
 simp only [bVal, fOp, fVar, h1, h2, Option.bind_some, PV.d_dat, eqDD_int, asB_bool]
theorem eqc_d {i : Nat} {a b : Int} {ds : Ds} (h1 : ds[i]? = some (iD a)) : (bVal (fOp eqDD (fVar i) (fC (.int b)))) ds = some (decide (a = b)) := by
 simp only [bVal, fOp, fVar, fC, h1, Option.bind_some, PV.d_dat, eqDD_int, asB_bool]
theorem gtc_d {i : Nat} {a b : Int} {ds : Ds} (h1 : ds[i]? = some (iD a)) : (bVal (fOp gtD (fVar i) (fC (.int b)))) ds = some (decide (b < a)) := by
 simp only [bVal, fOp, fVar, fC, h1, Option.bind_some, PV.d_dat, gtD_int, asB_bool]
theorem eqm_d {i j : Nat} {a b c : Int} {ds : Ds} (h1 : ds[i]? = some (iD a)) (h2 : ds[j]? = some (iD b)) : (bVal (fOp eqDD (fVar i) (fOp subD (fVar j) (fC (.int c))))) ds = some (decide (a = b - c)) := by
 simp only [bVal, fOp, fVar, fC, h1, h2, Option.bind_some, PV.d_dat, subD_int, eqDD_int, asB_bool]
theorem app_d {i : Nat} {F : Ds -> Option PV} {ds : Ds} {l : List PyData} {pv : PV} (h : F ds = some pv) (h1 : ds[i]? = some (oS l)) (hl : l.length < 1000000) : gApp i F ds = some (.next (ds.set i (oS (l ++ [pv.d])))) := by
 rw [gApp_eq, h]
 exact appK_some pv h1 hl
theorem len_d {i : Nat} {ds : Ds} {l : List PyData} (h1 : ds[i]? = some (oS l)) : (fFlat (fFrz (fCall lenD (aCons (fVar i) aNil)))) ds = some (.dat (.int (l.length : Nat))) := by
 have e : (ds.map (Option.map fun pv => PV.dat pv.d))[i]? = some (some (.dat (.list l))) := by
  rw [List.getElem?_map, h1]
  rfl
 simp only [fFlat, fFrz, frz, fCall, aCons, aNil, fVar, e, Option.bind_some, PV.d_dat, lenD_list, Flat, if_true]
theorem begun_eq {ns : List Int} {f : Int} (hl : ns.length <= 63) : ∃ R b, F_l_begun [scr ns, .int f, .list [], .list []] = some (.none, dl R, b) /\ Bg f R b := by
 obtain ⟨d, ed, d0, d1⟩ := draw_eq (ns := ns) (k := 11) (m := 2) hl (by decide) (by decide) (by decide)
 obtain ⟨e, ee, e0, e1⟩ := draw_eq (ns := ns) (k := 12) (m := 2) hl (by decide) (by decide) (by decide)
 have w5 : Wk5 1 (wkA 0 0 0) := wkA5 (by decide) (by decide) (by decide) (by decide)
 obtain ⟨x, ex, lx, sx⟩ : ∃ x, ixD (.list [.str (Str.ofString "hour 3 4 dark"), .str (Str.ofString "work wa 5 0 0 3")]) (.int d) = some (.dat (tS x)) /\ Ln5 x /\ F_read_store [rowS x] = some (.dat .none) := by
  rcases (by omega : d = 0 \/ d = 1) with rfl | rfl
  . exact ⟨hourL hrA, by rw [lit_hA]; rfl, ln_hour hrA5, ss_hour hrA5⟩
  . exact ⟨workL (wkA 0 0 0), by rw [lit_wa]; rfl, ln_work w5 (by decide), ss_work w5 (by decide)⟩
 obtain ⟨y, ey, ly, sy⟩ : ∃ x, ixD (.list [.str (Str.ofString "store 9 3 3 3 1/2 1 2"), .str (Str.ofString "work wa 5 0 0 3")]) (.int e) = some (.dat (tS x)) /\ Ln5 x /\ F_read_hour [rowS x] = some (.dat .none) := by
  rcases (by omega : e = 0 \/ e = 1) with rfl | rfl
  . exact ⟨stL, by rw [lit_st]; rfl, ln_st, sh_st⟩
  . exact ⟨workL (wkA 0 0 0), by rw [lit_wa]; rfl, ln_work w5 (by decide), sh_work w5 (by decide)⟩
 have F6 : ∀ L Bd, (fOp ixD (fLst (aCons (fC (.str "hour 3 4 dark")) (aCons (fC (.str "work wa 5 0 0 3")) aNil))) (fCall F_l_draw (aCons (fVar 0) (aCons (fC (.int 11)) (aCons (fC (.int 2)) aNil))))) [some (.dat (scr ns)), iD f, oS L, oS Bd] = some (.dat (tS x)) := fun L Bd => by
  simp only [fOp, fLst, fCall, aCons, aNil, fC, fVar, List.getElem?_cons_zero, Option.bind_some, PV.d_dat, PV.d_own, ed]
  exact ex
 have F7 : ∀ L Bd, (fOp ixD (fLst (aCons (fC (.str "store 9 3 3 3 1/2 1 2")) (aCons (fC (.str "work wa 5 0 0 3")) aNil))) (fCall F_l_draw (aCons (fVar 0) (aCons (fC (.int 12)) (aCons (fC (.int 2)) aNil))))) [some (.dat (scr ns)), iD f, oS L, oS Bd] = some (.dat (tS y)) := fun L Bd => by
  simp only [fOp, fLst, fCall, aCons, aNil, fC, fVar, List.getElem?_cons_zero, Option.bind_some, PV.d_dat, PV.d_own, ee]
  exact ey
 unfold F_l_begun
 have s1 : ∀ b : Int, (gApp 2 (fC (.str "store 9 3 3 3 1/2 1 2"))) = (gApp 2 (fC (tS stL))) := fun _ => by rw [show (PyData.str "store 9 3 3 3 1/2 1 2") = tS stL from congrArg PyData.str lit_st]
 rw [s1 0]
 by_cases c6 : f = 6
 . refine ⟨[x, stL], [.int 0], ?_, .inl ⟨c6, rfl, x, rfl, lx, sx⟩⟩
   change io2Seq _ _ [some (.dat (scr ns)), iD f, oS [], oS []] = _
   rw [io2_next (ds' := [some (.dat (scr ns)), iD f, oS [tS x], oS [.int 0]]) (by
    rw [gIf_b (eqc_d (a := f) rfl), decide_eq_true c6, if_pos rfl, sq_next5 (app_d (pv := .dat (.int 0)) (l := []) rfl rfl (by simp))]
    exact app_d (l := []) (F6 _ _) rfl (by simp))]
   rw [io2_next (app_d (pv := .dat (tS stL)) (l := [tS x]) rfl rfl (by simp))]
   refine io2_last (ds' := [some (.dat (scr ns)), iD f, oS [tS x, tS stL], oS [.int 0]]) ?_ rfl rfl
   exact (gIf_b (eqc_d (a := f) rfl)).trans (by rw [decide_eq_false (by omega)]; rfl)
 . by_cases c7 : f = 7
   . refine ⟨[stL, y], [.int 1], ?_, .inr (.inl ⟨c7, rfl, y, rfl, ly, sy⟩)⟩
     change io2Seq _ _ [some (.dat (scr ns)), iD f, oS [], oS []] = _
     rw [io2_next (ds' := [some (.dat (scr ns)), iD f, oS [], oS []]) ((gIf_b (eqc_d (a := f) rfl)).trans (by rw [decide_eq_false c6]; rfl))]
     rw [io2_next (app_d (pv := .dat (tS stL)) (l := []) rfl rfl (by simp))]
     refine io2_last (ds' := [some (.dat (scr ns)), iD f, oS [tS stL, tS y], oS [.int 1]]) ?_ rfl rfl
     refine (gIf_b (eqc_d (a := f) rfl)).trans ?_
     rw [decide_eq_true c7, if_pos rfl, sq_next5 (app_d (len_d (l := [tS stL]) rfl) (l := []) rfl (by simp))]
     exact app_d (l := [tS stL]) (F7 _ _) rfl (by simp)
   . refine ⟨[stL], [], ?_, .inr (.inr ⟨c6, c7, rfl, rfl⟩)⟩
     change io2Seq _ _ [some (.dat (scr ns)), iD f, oS [], oS []] = _
     rw [io2_next (ds' := [some (.dat (scr ns)), iD f, oS [], oS []]) ((gIf_b (eqc_d (a := f) rfl)).trans (by rw [decide_eq_false c6]; rfl))]
     rw [io2_next (app_d (pv := .dat (tS stL)) (l := []) rfl rfl (by simp))]
     refine io2_last (ds' := [some (.dat (scr ns)), iD f, oS [tS stL], oS []]) ?_ rfl rfl
     exact (gIf_b (eqc_d (a := f) rfl)).trans (by rw [decide_eq_false c7]; rfl)
noncomputable def hxF (alt : Int) (s : Nat) : Hr := if ((s : Int) + alt).fmod 2 = 0 then hrA else hrB
theorem hx5 (alt : Int) (s : Nat) : Hr5 (hxF alt s) := by
 unfold hxF
 split
 . exact hrA5
 . exact hrB5
theorem B_hours {ns : List Int} {f H alt d : Int} {s : Nat} (L Bd : List PyData) (e4 : F_l_draw [scr ns, .int 4, .int 2] = some (.dat (.int alt))) (e5 : F_l_draw [scr ns, .int 5, .int H] = some (.dat (.int d))) (hL : L.length <= 1000) (hB : Bd.length <= 1000) :
  B_l_hours_0 [some (.dat (scr ns)), iD f, oS L, oS Bd, iD H, iD s] = some (.next [some (.dat (scr ns)), iD f, oS (L ++ tS (hourL (hxF alt s)) :: (if f = 1 /\ (s : Int) = d then [tS stL] else [])), oS (Bd ++ ((if s = 24 then [.int (L.length : Nat)] else []) ++ (if f = 1 /\ (s : Int) = d then [.int ((L.length + 1 : Nat) : Int)] else []))), iD H, iD s]) := by
 have st1 : (gIf (bVal (fOp eqDD (fVar 5) (fC (.int 24)))) (gApp 3 (fFlat (fFrz (fCall lenD (aCons (fVar 2) aNil))))) gNext) [some (.dat (scr ns)), iD f, oS L, oS Bd, iD H, iD s] = some (.next [some (.dat (scr ns)), iD f, oS L, oS (Bd ++ (if s = 24 then [.int (L.length : Nat)] else [])), iD H, iD s]) := by
  walk_at "w"
  by_cases c : s = 24
  . subst c
    rw [if_pos (by decide), appK_some (i := 3) (l := Bd) _ rfl (by omega)]
    rfl
  . rw [if_neg (by omega), if_neg c, List.append_nil]
 have ex : ixD (.list [.str (Str.ofString "hour 3 4 dark"), .str (Str.ofString "hour 5 6 line 7 8 -9 1")]) (.int (((s : Int) + alt).fmod 2)) = some (.dat (tS (hourL (hxF alt s)))) := by
  have h0 := Int.fmod_nonneg_of_pos ((s : Int) + alt) (show (0 : Int) < 2 by decide)
  have h1 := Int.fmod_lt_of_pos ((s : Int) + alt) (show (0 : Int) < 2 by decide)
  rcases (by omega : ((s : Int) + alt).fmod 2 = 0 \/ ((s : Int) + alt).fmod 2 = 1) with c | c
  . unfold hxF
    rw [if_pos c, c, lit_hA]
    rfl
  . unfold hxF
    rw [if_neg (by omega), c, lit_hB]
    rfl
 rw [ixD_list] at ex
 have st2 : ∀ Bd, (gApp 2 (fOp ixD (fLst (aCons (fC (.str "hour 3 4 dark")) (aCons (fC (.str "hour 5 6 line 7 8 -9 1")) aNil))) (fOp modD (fOp addD (fVar 5) (fCall F_l_draw (aCons (fVar 0) (aCons (fC (.int 4)) (aCons (fC (.int 2)) aNil))))) (fC (.int 2))))) [some (.dat (scr ns)), iD f, oS L, oS Bd, iD H, iD s] = some (.next [some (.dat (scr ns)), iD f, oS (L ++ [tS (hourL (hxF alt s))]), oS Bd, iD H, iD s]) := fun Bd => by
  walk_at "w"
  rw [e4]
  walk_at "w"
  rw [modD_int (by decide)]
  walk_at "w"
  rw [ex, appK_some (i := 2) (l := L) _ rfl (by omega)]
  rfl
 unfold B_l_hours_0
 rw [sq_next5 st1, sq_next5 (st2 _)]
 generalize eB : Bd ++ (if s = 24 then [PyData.int (L.length : Nat)] else []) = B2
 have hB2 : B2.length <= 1001 := by
  rw [<- eB, List.length_append]
  split <;> simp <;> omega
 by_cases c : f = 1 /\ (s : Int) = d
 . rw [if_pos c, if_pos c, <- List.append_assoc, eB]
   obtain ⟨rfl, c2⟩ := c
   walk_at "w"
   rw [e5]
   walk_at "w"
   rw [if_pos c2]
   try walk_at "w"
   rw [appK_some (i := 3) (l := B2) _ rfl (by omega)]
   walk_at "w"
   rw [appK_some (i := 2) (l := L ++ [tS (hourL (hxF alt s))]) _ rfl (by rw [List.length_append, List.length_singleton]; omega), lit_st, List.append_assoc, List.length_append, List.length_singleton]
   rfl
 . rw [if_neg c, if_neg c, List.append_nil, eB]
   by_cases c1 : f = 1
   . subst c1
     have c2 : ¬ (s : Int) = d := fun z => c ⟨rfl, z⟩
     walk_at "w"
     rw [e5]
     walk_at "w"
     rw [if_neg c2]
     try walk_at "w"
   . walk_at "w"
     rw [if_neg c1]
     try walk_at "w"
noncomputable def gG (row : Nat -> List Str) (ex : Nat -> Bool) (X : List Str) (t : Nat) : List (List Str) := (List.range t).flatMap fun s => row s :: (if ex s = true then [X] else [])
noncomputable def bG (n0 : Nat) (row : Nat -> List Str) (ex : Nat -> Bool) (X : List Str) (bad : Nat -> Bool) (t : Nat) : List PyData := (List.range t).flatMap fun s => (if bad s = true then [.int ((n0 + (gG row ex X s).length : Nat) : Int)] else []) ++ (if ex s = true then [.int ((n0 + (gG row ex X s).length + 1 : Nat) : Int)] else [])
theorem dl_app (A B : List (List Str)) : dl (A ++ B) = dl A ++ dl B := List.map_append
theorem dl_len (A : List (List Str)) : (dl A).length = A.length := List.length_map ..
theorem flat_len {α : Type} {f : Nat -> List α} (k : Nat) (h : ∀ s, (f s).length <= k) (t : Nat) : ((List.range t).flatMap f).length <= k * t := by
 induction t with
 | zero => simp
 | succ t ih =>
  have := h t
  rw [List.range_succ, List.flatMap_append, List.length_append, Nat.mul_succ]
  simp only [List.flatMap_cons, List.flatMap_nil, List.append_nil]
  omega
section
variable {row : Nat -> List Str} {ex : Nat -> Bool} {X : List Str} {bad : Nat -> Bool} {n0 : Nat}
theorem gG_len (t : Nat) : (gG row ex X t).length <= 2 * t := flat_len 2 (fun s => by
 rw [List.length_cons]
 split <;> simp) t
theorem bG_len (t : Nat) : (bG n0 row ex X bad t).length <= 2 * t := flat_len 2 (fun s => by
 rw [List.length_append]
 split <;> split <;> simp) t
theorem gG_succ (t : Nat) : gG row ex X (t + 1) = gG row ex X t ++ row t :: (if ex t = true then [X] else []) := by
 unfold gG
 rw [List.range_succ, List.flatMap_append]
 simp only [List.flatMap_cons, List.flatMap_nil, List.append_nil]
theorem bG_succ (t : Nat) : bG n0 row ex X bad (t + 1) = bG n0 row ex X bad t ++ ((if bad t = true then [.int ((n0 + (gG row ex X t).length : Nat) : Int)] else []) ++ (if ex t = true then [.int ((n0 + (gG row ex X t).length + 1 : Nat) : Int)] else [])) := by
 conv => lhs; unfold bG
 rw [List.range_succ, List.flatMap_append]
 simp only [List.flatMap_cons, List.flatMap_nil, List.append_nil]
 rfl
theorem gG_none {t : Nat} (h : ∀ s, s < t -> ex s = false) : gG row ex X t = (List.range t).map row := by
 induction t with
 | zero => rfl
 | succ t ih =>
  rw [gG_succ, ih fun s hs => h s (by omega), h t (by omega), List.range_succ, List.map_append]
  rfl
theorem gG_one {t d : Nat} (hd : d < t) (h : ∀ s, s < t -> ex s = decide (s = d)) : ∃ tl : List (List Str), gG row ex X t = (List.range (d + 1)).map row ++ X :: tl /\ ∀ l ∈ tl, ∃ s, s < t /\ l = row s := by
 induction t with
 | zero => omega
 | succ t ih =>
  by_cases c : d = t
  . subst c
    refine ⟨[], ?_, fun l hl => by cases hl⟩
    rw [gG_succ, gG_none fun s hs => by rw [h s (by omega)]; exact decide_eq_false (by omega), h d (by omega), List.range_succ, List.map_append]
    simp
  . obtain ⟨tl, e, ht⟩ := ih (by omega) fun s hs => h s (by omega)
    refine ⟨tl ++ [row t], ?_, fun l hl => ?_⟩
    . rw [gG_succ, e, h t (by omega), decide_eq_false (by omega)]
      simp
    . rcases List.mem_append.mp hl with hl | hl
      . obtain ⟨s, h1, h2⟩ := ht l hl
        exact ⟨s, by omega, h2⟩
      . exact ⟨t, by omega, List.mem_singleton.mp hl⟩
theorem bG_zero {t : Nat} (h : ∀ s, s < t -> ex s = false) (hb : ∀ s, s < t -> bad s = false) : bG n0 row ex X bad t = [] := by
 induction t with
 | zero => rfl
 | succ t ih =>
  rw [bG_succ, ih (fun s hs => h s (by omega)) (fun s hs => hb s (by omega)), h t (by omega), hb t (by omega)]
  rfl
theorem bG_bad {t k : Nat} (hk : k < t) (h : ∀ s, s < t -> ex s = false) (hb : ∀ s, s < t -> bad s = decide (s = k)) : bG n0 row ex X bad t = [.int ((n0 + k : Nat) : Int)] := by
 induction t with
 | zero => omega
 | succ t ih =>
  by_cases c : k = t
  . subst c
    rw [bG_succ, bG_zero (fun s hs => h s (by omega)) (fun s hs => by rw [hb s (by omega)]; exact decide_eq_false (by omega)), h k (by omega), hb k (by omega), gG_none fun s hs => h s (by omega)]
    simp
  . rw [bG_succ, ih (by omega) (fun s hs => h s (by omega)) (fun s hs => hb s (by omega)), h t (by omega), hb t (by omega), decide_eq_false (by omega)]
    simp
theorem bG_ex {t k : Nat} (hk : k < t) (h : ∀ s, s < t -> ex s = decide (s = k)) (hb : ∀ s, s < t -> bad s = false) : bG n0 row ex X bad t = [.int ((n0 + (k + 1) : Nat) : Int)] := by
 induction t with
 | zero => omega
 | succ t ih =>
  by_cases c : k = t
  . subst c
    rw [bG_succ, bG_zero (fun s hs => by rw [h s (by omega)]; exact decide_eq_false (by omega)) (fun s hs => hb s (by omega)), h k (by omega), hb k (by omega), gG_none fun s hs => by rw [h s (by omega)]; exact decide_eq_false (by omega)]
    simp
    omega
  . rw [bG_succ, ih (by omega) (fun s hs => h s (by omega)) (fun s hs => hb s (by omega)), h t (by omega), hb t (by omega), decide_eq_false (by omega)]
    simp
end
noncomputable abbrev gH (f alt d : Int) : Nat -> List (List Str) := gG (fun s => hourL (hxF alt s)) (fun s => decide (f = 1 /\ (s : Int) = d)) stL
noncomputable abbrev bH (n0 : Nat) (f alt d : Int) : Nat -> List PyData := bG n0 (fun s => hourL (hxF alt s)) (fun s => decide (f = 1 /\ (s : Int) = d)) stL (fun s => decide (s = 24))
theorem hours_eq {ns : List Int} {f : Int} (hl : ns.length <= 63) {R : List (List Str)} {B : List PyData} (hR : R.length <= 100) (hB : B.length <= 100) :
  ∃ (H : Nat) (alt d : Int), F_l_hours [scr ns, .int f, .list (dl R), .list B] = some (.int (H : Nat), dl (R ++ gH f alt d H), B ++ bH R.length f alt d H) /\ 1 <= H /\ (f = 0 -> H = 25) /\ (f ≠ 0 -> H <= 24) /\ 0 <= d /\ d < H := by
 obtain ⟨m, em, m0, m1⟩ := many_eq (ns := ns) (k := 2) (most := 24) hl (by decide) (by decide) (by decide)
 obtain ⟨H, eH, H1, Ha, Hb⟩ : ∃ H : Nat, (if f = 0 then 25 else (if m > 1 then m else 1)) = (H : Int) /\ 1 <= H /\ (f = 0 -> H = 25) /\ (f ≠ 0 -> H <= 24) := by
  by_cases c : f = 0
  . exact ⟨25, by rw [if_pos c]; rfl, by decide, fun _ => rfl, fun z => absurd c z⟩
  . rw [if_neg c]
    by_cases c2 : m > 1
    . exact ⟨m.toNat, by rw [if_pos c2]; omega, by omega, fun z => absurd z c, fun _ => by omega⟩
    . exact ⟨1, by rw [if_neg c2]; rfl, by decide, fun z => absurd z c, fun _ => by decide⟩
 obtain ⟨alt, e4, _, _⟩ := draw_eq (ns := ns) (k := 4) (m := 2) hl (by decide) (by decide) (by decide)
 obtain ⟨d, e5, d0, d1⟩ := draw_eq (ns := ns) (k := 5) (m := (H : Int)) hl (by decide) (by decide) (by omega)
 refine ⟨H, alt, d, ?_, H1, Ha, Hb, d0, d1⟩
 have hH : H <= 25 := by
  by_cases c : f = 0
  . have := Ha c; omega
  . have := Hb c; omega
 obtain ⟨ds', fe, y, rfl⟩ := forD_rng (gt := sName 5) (G := B_l_hours_0) (lo := 0) (n := H) (fun t ds => ∃ y, ds = [some (.dat (scr ns)), iD f, oS (dl (R ++ gH f alt d t)), oS (B ++ bH R.length f alt d t), iD H, y]) (ds := [some (.dat (scr ns)), iD f, oS (dl R), oS B, iD H, none]) ⟨none, by simp [gH, bH, gG, bG]⟩ (by
  rintro t ds ht ⟨y, rfl⟩
  have g1 : (gH f alt d t).length <= 2 * t := gG_len t
  have b1 : (bH R.length f alt d t).length <= 2 * t := bG_len t
  have b := B_hours (ns := ns) (f := f) (H := H) (alt := alt) (d := d) (s := t) (dl (R ++ gH f alt d t)) (B ++ bH R.length f alt d t) e4 e5 (by rw [dl_len, List.length_append]; omega) (by rw [List.length_append]; omega)
  refine ⟨[some (.dat (scr ns)), iD f, oS (dl (R ++ gH f alt d t)), oS (B ++ bH R.length f alt d t), iD H, iD t], _, by simp [sName], .inl b, iD t, ?_⟩
  have e1 : dl (R ++ gH f alt d t) ++ tS (hourL (hxF alt t)) :: (if f = 1 /\ (t : Int) = d then [tS stL] else []) = dl (R ++ gH f alt d (t + 1)) := by
   rw [show gH f alt d (t + 1) = _ from gG_succ t, <- List.append_assoc, dl_app (R ++ _)]
   congr 1
   by_cases c : f = 1 /\ (t : Int) = d
   . rw [if_pos c, decide_eq_true c]; rfl
   . rw [if_neg c, decide_eq_false c]; rfl
  have e2 : (B ++ bH R.length f alt d t) ++ ((if t = 24 then [PyData.int ((dl (R ++ gH f alt d t)).length : Nat)] else []) ++ (if f = 1 /\ (t : Int) = d then [.int (((dl (R ++ gH f alt d t)).length + 1 : Nat) : Int)] else [])) = B ++ bH R.length f alt d (t + 1) := by
   rw [show bH R.length f alt d (t + 1) = _ from bG_succ t, List.append_assoc, dl_len, List.length_append]
   simp only [decide_eq_true_eq]
  rw [e1, e2])
 have fe' : forD (sName 5) B_l_hours_0 (rngI 0 H) [some (.dat (scr ns)), iD f, oS (dl R), oS B, iD H, none] = some (.next [some (.dat (scr ns)), iD f, oS (dl (R ++ gH f alt d H)), oS (B ++ bH R.length f alt d H), iD H, y]) := fe
 unfold F_l_hours
 change io2Seq _ _ [some (.dat (scr ns)), iD f, oS (dl R), oS B, none, none] = _
 rw [io2_next (ds' := [some (.dat (scr ns)), iD f, oS (dl R), oS B, iD (if m > 1 then m else 1), none]) (by
  refine setD_eq5 (pv := .dat (.int (if m > 1 then m else 1))) ?_
  simp only [fCall, aCons, aNil, fC, fVar, List.getElem?_cons_zero, Option.bind_some, PV.d_dat, em]
  rfl)]
 rw [io2_next (ds' := [some (.dat (scr ns)), iD f, oS (dl R), oS B, iD H, none]) (by
  refine (gIf_b (eqc_d (a := f) rfl)).trans ?_
  by_cases c : f = 0
  . rw [if_pos c] at eH; rw [decide_eq_true c, if_pos rfl, <- eH]; rfl
  . rw [if_neg c] at eH; rw [decide_eq_false c, eH]; rfl)]
 rw [io2_next (by
  simp only [gFor, iFn, aCons, aNil, fVar, List.getElem?_cons_zero, List.getElem?_cons_succ, Option.bind_some, PV.d_dat]
  rw [rng1_int (by omega), Int.toNat_natCast]
  exact fe')]
 exact io2_ret (pv := .dat (.int H)) rfl rfl rfl
end Law
namespace Law
open PySem L2 PySem.NumText PySem.StrLaws
theorem ln_lz (w : Str) (r : List Str) : lz (lnS (w :: r)) = lz w ++ (r.map fun x => 32 :: lz x).flatten := by
 unfold lnS
 rw [show Txt.join ⟨#[32]⟩ (w :: r) = Str.join ⟨#[32]⟩ (w :: r) from glued_eq_join _ _, lz_join]
 rfl
theorem lz_work (w : Wk) : lz (lnS (workL w)) = [119, 111, 114, 107] ++ (32 :: lz w.name ++ (32 :: intL w.amount ++ (32 :: intL w.first ++ (32 :: intL w.last ++ (32 :: intL w.most))))) := by
 unfold workL workW
 rw [ln_lz]
 simp only [List.map_cons, List.map_nil, Wrd.w, List.flatten_cons, List.flatten_nil, List.append_nil, lz_int]
 rw [show lz (Str.ofString "work") = [119, 111, 114, 107] by decide +kernel]
 try simp
noncomputable abbrev abc7 : Str := Str.ofString "abcdefg"
theorem abc7_at {j : Nat} (h : j < 7) : ixD (.str abc7) (.int (j : Int)) = some (.dat (.str ⟨#[97 + j]⟩)) := by
 show (if abc7.length <= 1000000 then (atI abc7.cps.toList (j : Int)).bind fun c => some (PV.dat (.str ⟨#[c]⟩)) else none) = _
 have hl : abc7.length = 7 := by decide +kernel
 have e : abc7.cps.toList = [97, 98, 99, 100, 101, 102, 103] := by decide +kernel
 rw [if_pos (by omega), e, atI_lit (n := j) rfl (by simp; omega)]
 have : ∀ m : Fin 7, ([97, 98, 99, 100, 101, 102, 103] : List Nat)[m.val]? = some (97 + m.val) := by decide
 rw [this ⟨j, h⟩]
 rfl
theorem add_len {x y : Str} {n m : Nat} (hx : x.length <= n) (hy : y.length <= m) : (x ++ y).length <= n + m := by
 rw [lz_len, lz_app, List.length_append, <- lz_len, <- lz_len]; omega
theorem add_s {x y : Str} (hx : x.length <= 400) (hy : y.length <= 100) : addD (.str x) (.str y) = some (.dat (.str (x ++ y))) := addD_str (by omega)
theorem lit_len {s : String} {n : Nat} (h : (lz (Str.ofString s)).length <= n) : (Str.ofString s).length <= n := by rw [lz_len]; exact h
theorem txt_len {a : Int} (h0 : 0 <= a) (h1 : a <= 100) : (txtI a).length <= 62 := Nat.le_trans (len_txt (nat60 ⟨by omega, by omega⟩)) (by decide)
theorem one_len (c : Nat) : (⟨#[c]⟩ : Str).length <= 1 := Nat.le_refl 1
theorem strD_n {a : Int} (h0 : 0 <= a) (h1 : a <= 100) : strD [.int a] = some (.dat (.str (txtI a))) := strD_int (nat60 ⟨by omega, by omega⟩)
theorem work_eq {ns : List Int} {j : Nat} {n : Int} (hl : ns.length <= 63) (hj : j < 7) (n0 : 1 <= n) (n1 : n <= 24) :
  ∃ a b z, F_l_work [scr ns, .int (j : Int), .int n] = some (.dat (.str z)) /\ z.length <= 300 /\ Str.ofString "work " ++ z = lnS (workL (wkA j a b)) /\ 0 <= a /\ a <= b /\ b < n := by
 obtain ⟨a, ea, a0, a1⟩ := draw_eq (ns := ns) (k := 20 + 2 * (j : Int)) (m := n) hl (by omega) (by omega) (by omega)
 obtain ⟨c, ec, c0, c1⟩ := draw_eq (ns := ns) (k := 21 + 2 * (j : Int)) (m := n - a) hl (by omega) (by omega) (by omega)
 have t1 := txt_len (a := a) a0 (by omega)
 have t2 := txt_len (a := a + c) (by omega) (by omega)
 have l1 : (Str.ofString "w").length <= 1 := lit_len (by decide +kernel)
 have l2 := one_len (97 + j)
 have l3 : (Str.ofString " 5 ").length <= 3 := lit_len (by decide +kernel)
 have l4 : (Str.ofString " ").length <= 1 := lit_len (by decide +kernel)
 have l5 : (Str.ofString " 3").length <= 2 := lit_len (by decide +kernel)
 have k2 := add_len l1 l2
 have k3 := add_len k2 l3
 have k4 := add_len k3 t1
 have k5 := add_len k4 l4
 have k6 := add_len k5 t2
 have k7 := add_len k6 l5
 refine ⟨a, a + c, _, ?_, Nat.le_trans k7 (by decide), ?_, a0, by omega, by omega⟩
 . unfold F_l_work
   walk_at "w"
   rw [mulD_int (Bt.s62 (by omega) (by omega)) (Bt.s62 (by omega) (by omega))]
   walk_at "w"
   rw [ea]
   walk_at "w"
   rw [mulD_int (Bt.s62 (by omega) (by omega)) (Bt.s62 (by omega) (by omega))]
   walk_at "w"
   rw [ec]
   walk_at "w"
   rw [abc7_at hj]
   walk_at "w"
   rw [add_s (by omega) (by omega)]
   walk_at "w"
   rw [add_s (by omega) (by omega)]
   walk_at "w"
   rw [strD_n a0 (by omega)]
   walk_at "w"
   rw [add_s (by omega) (by omega)]
   walk_at "w"
   rw [add_s (by omega) (by omega)]
   walk_at "w"
   rw [strD_n (by omega) (by omega)]
   walk_at "w"
   rw [add_s (by omega) (by omega)]
   walk_at "w"
   rw [add_s (by omega) (by omega)]
   walk_at "w"
 . refine str_ext ?_
   rw [lz_work]
   simp only [lz_app, lz_int, wkA, wnm]
   rw [show lz (Str.ofString "work ") = [119, 111, 114, 107, 32] by decide +kernel, show lz (Str.ofString "w") = [119] by decide +kernel, show lz (Str.ofString " 5 ") = [32, 53, 32] by decide +kernel, show lz (Str.ofString " ") = [32] by decide +kernel, show lz (Str.ofString " 3") = [32, 51] by decide +kernel, show lz (⟨#[97 + j]⟩ : Str) = [97 + j] from rfl, show lz (⟨#[119, 97 + j]⟩ : Str) = [119, 97 + j] from rfl, show intL 5 = [53] by decide +kernel, show intL 3 = [51] by decide +kernel]
   simp
theorem late_eq {j : Nat} {n : Int} (n0 : 0 <= n) (n1 : n <= 24) : Str.ofString "work w" ++ ⟨#[97 + j]⟩ ++ Str.ofString " 5 0 " ++ txtI n ++ Str.ofString " 3" = lnS (workL (wkA j 0 n)) := by
 refine str_ext ?_
 rw [lz_work]
 simp only [lz_app, lz_int, wkA, wnm]
 rw [show lz (Str.ofString "work w") = [119, 111, 114, 107, 32, 119] by decide +kernel, show lz (Str.ofString " 5 0 ") = [32, 53, 32, 48, 32] by decide +kernel, show lz (Str.ofString " 3") = [32, 51] by decide +kernel, show lz (⟨#[97 + j]⟩ : Str) = [97 + j] from rfl, show lz (⟨#[119, 97 + j]⟩ : Str) = [119, 97 + j] from rfl, show intL 5 = [53] by decide +kernel, show intL 3 = [51] by decide +kernel, show intL 0 = [48] by decide +kernel]
 simp
theorem twice_eq {e : Nat} : Str.ofString "work w" ++ ⟨#[97 + e]⟩ ++ Str.ofString " 1 0 0 2" = lnS (workL (wkB e)) := by
 refine str_ext ?_
 rw [lz_work]
 simp only [lz_app, wkB, wnm]
 rw [show lz (Str.ofString "work w") = [119, 111, 114, 107, 32, 119] by decide +kernel, show lz (Str.ofString " 1 0 0 2") = [32, 49, 32, 48, 32, 48, 32, 50] by decide +kernel, show lz (⟨#[97 + e]⟩ : Str) = [97 + e] from rfl, show lz (⟨#[119, 97 + e]⟩ : Str) = [119, 97 + e] from rfl, show intL 1 = [49] by decide +kernel, show intL 2 = [50] by decide +kernel, show intL 0 = [48] by decide +kernel]
 simp
end Law
namespace Law
open PySem L2 PySem.NumText PySem.StrLaws
noncomputable abbrev isLate (f at_ : Int) (j : Nat) : Prop := f = 3 /\ (j : Int) = at_
noncomputable abbrev isTwice (f : Int) (W : Int) (j : Nat) : Prop := f = 4 /\ (j : Int) = W - 1 /\ (0 : Int) < (j : Int)
noncomputable abbrev isBad (f W at_ : Int) (j : Nat) : Prop := (j : Int) = 6 \/ isLate f at_ j \/ isTwice f W j
noncomputable abbrev isEx (f at_ : Int) (j : Nat) : Prop := f = 5 /\ (j : Int) = at_
noncomputable def wrow (f n at_ W : Int) (e : Nat) (av bv : Nat -> Int) (j : Nat) : List Str := if isTwice f W j then workL (wkB e) else if isLate f at_ j then workL (wkA j 0 n) else workL (wkA j (av j) (bv j))
theorem B_works {ns : List Int} {f n W at_ x : Int} {j e : Nat} {av bv : Nat -> Int} {X : List Str} {z : Str} (L Bd : List PyData) (y : Option PV) (n0 : 1 <= n) (n1 : n <= 24) (hj : j < 7) (he : isTwice f W j -> F_l_draw [scr ns, .int 9, .int (j : Int)] = some (.dat (.int (e : Int))) /\ e < 7)
  (ew : F_l_work [scr ns, .int (j : Int), .int n] = some (.dat (.str z))) (hz : z.length <= 300) (ez : Str.ofString "work " ++ z = lnS (workL (wkA j (av j) (bv j)))) (e10 : F_l_draw [scr ns, .int 10, .int 3] = some (.dat (.int x))) (ex : ixD (.list [.str (Str.ofString "hour 3 4 dark"), .str (Str.ofString "store 9 3 3 3 1/2 1 2"), .str (Str.ofString "hour 1 1 line 1 1 1 1")]) (.int x) = some (.dat (tS X))) (hL : L.length <= 1000) (hB : Bd.length <= 1000) :
  B_l_works_0 [some (.dat (scr ns)), iD f, iD n, oS L, oS Bd, iD W, iD at_, iD j, y] = some (.next [some (.dat (scr ns)), iD f, iD n, oS (L ++ tS (wrow f n at_ W e av bv j) :: (if isEx f at_ j then [tS X] else [])), oS (Bd ++ ((if isBad f W at_ j then [.int (L.length : Nat)] else []) ++ (if isEx f at_ j then [.int ((L.length + 1 : Nat) : Int)] else []))), iD W, iD at_, iD j, some (.dat (tS (wrow f n at_ W e av bv j)))]) := by
 have l0 : (Str.ofString "work ").length <= 5 := lit_len (by decide +kernel)
 have l1 : (Str.ofString "work w").length <= 6 := lit_len (by decide +kernel)
 have l3 : (Str.ofString " 5 0 ").length <= 5 := lit_len (by decide +kernel)
 have l5 : (Str.ofString " 3").length <= 2 := lit_len (by decide +kernel)
 have l6 : (Str.ofString " 1 0 0 2").length <= 8 := lit_len (by decide +kernel)
 have t1 := txt_len (a := n) (by omega) (by omega)
 have tl : ∀ y8 : Option PV, (bAnd (bVal (fOp eqDD (fVar 1) (fC (.int 3)))) (bVal (fOp eqDD (fVar 7) (fVar 6)))) [some (.dat (scr ns)), iD f, iD n, oS L, oS Bd, iD W, iD at_, iD j, y8] = some (decide (isLate f at_ j)) := fun y8 => bAnd_d (eqc_d rfl) (eq_d rfl rfl)
 have tt : ∀ y8 : Option PV, (bAnd (bVal (fOp eqDD (fVar 1) (fC (.int 4)))) (bAnd (bVal (fOp eqDD (fVar 7) (fOp subD (fVar 5) (fC (.int 1))))) (bVal (fOp gtD (fVar 7) (fC (.int 0)))))) [some (.dat (scr ns)), iD f, iD n, oS L, oS Bd, iD W, iD at_, iD j, y8] = some (decide (isTwice f W j)) := fun y8 => bAnd_d (eqc_d rfl) (bAnd_d (eqm_d rfl rfl) (gtc_d rfl))
 have tb := fun y8 : Option PV => bOr_d (p := (j : Int) = 6) (eqc_d (ds := [some (.dat (scr ns)), iD f, iD n, oS L, oS Bd, iD W, iD at_, iD j, y8]) (i := 7) (b := 6) rfl) (bOr_d (tl y8) (tt y8))
 have te : ∀ (L Bd : List PyData) (y8 : Option PV), (bAnd (bVal (fOp eqDD (fVar 1) (fC (.int 5)))) (bVal (fOp eqDD (fVar 7) (fVar 6)))) [some (.dat (scr ns)), iD f, iD n, oS L, oS Bd, iD W, iD at_, iD j, y8] = some (decide (isEx f at_ j)) := fun L Bd y8 => bAnd_d (eqc_d rfl) (eq_d rfl rfl)
 unfold B_l_works_0
 rw [sq_next5 (ds' := [some (.dat (scr ns)), iD f, iD n, oS L, oS Bd, iD W, iD at_, iD j, some (.dat (tS (workL (wkA j (av j) (bv j)))))]) (by
  walk_at "w"
  rw [ew]
  walk_at "w"
  rw [addD_str (by omega), ez]
  rfl)]
 rw [sq_next5 (ds' := [some (.dat (scr ns)), iD f, iD n, oS L, oS Bd, iD W, iD at_, iD j, some (.dat (tS (if isLate f at_ j then workL (wkA j 0 n) else workL (wkA j (av j) (bv j)))))]) (by
  rw [gIf_b (tl _)]
  by_cases c : isLate f at_ j
  . rw [decide_eq_true c, if_pos rfl, if_pos c]
    walk_at "w"
    rw [abc7_at hj]
    walk_at "w"
    rw [add_s (by omega) (Nat.le_trans (one_len _) (by decide))]
    walk_at "w"
    have k1 := add_len l1 (one_len (97 + j))
    rw [add_s (by omega) (by omega)]
    walk_at "w"
    rw [strD_n (by omega) (by omega)]
    walk_at "w"
    have k2 := add_len k1 l3
    rw [add_s (by omega) (by omega)]
    walk_at "w"
    have k3 := add_len k2 t1
    rw [add_s (by omega) (by omega), late_eq (by omega) n1]
    rfl
  . rw [decide_eq_false c, if_neg (by decide), if_neg c]
    rfl)]
 rw [sq_next5 (ds' := [some (.dat (scr ns)), iD f, iD n, oS L, oS Bd, iD W, iD at_, iD j, some (.dat (tS (wrow f n at_ W e av bv j)))]) (by
  unfold wrow
  rw [gIf_b (tt _)]
  by_cases c : isTwice f W j
  . obtain ⟨e9, he7⟩ := he c
    rw [decide_eq_true c, if_pos rfl, if_pos c]
    walk_at "w"
    rw [e9]
    walk_at "w"
    rw [abc7_at he7]
    walk_at "w"
    rw [add_s (by omega) (Nat.le_trans (one_len _) (by decide))]
    walk_at "w"
    have k1 := add_len l1 (one_len (97 + e))
    rw [add_s (by omega) (by omega), twice_eq]
    rfl
  . rw [decide_eq_false c, if_neg (by decide), if_neg c]
    rfl)]
 generalize wrow f n at_ W e av bv j = RW
 rw [sq_next5 (ds' := [some (.dat (scr ns)), iD f, iD n, oS L, oS (Bd ++ if isBad f W at_ j then [.int (L.length : Nat)] else []), iD W, iD at_, iD j, some (.dat (tS RW))]) (by
  rw [gIf_b (tb _)]
  by_cases c : isBad f W at_ j
  . rw [decide_eq_true c, if_pos rfl, if_pos c]
    walk_at "w"
    rw [appK_some (i := 4) (l := Bd) _ rfl (by omega)]
    rfl
  . rw [decide_eq_false c, if_neg (by decide), if_neg c, List.append_nil]
    rfl)]
 generalize eB : Bd ++ (if isBad f W at_ j then [PyData.int (L.length : Nat)] else []) = B2
 have hB2 : B2.length <= 1001 := by
  rw [<- eB, List.length_append]
  split <;> simp <;> omega
 rw [sq_next5 (ds' := [some (.dat (scr ns)), iD f, iD n, oS (L ++ [tS RW]), oS B2, iD W, iD at_, iD j, some (.dat (tS RW))]) (by
  walk_at "w"
  rw [appK_some (i := 3) (l := L) _ rfl (by omega)]
  rfl)]
 rw [gIf_b (te _ _ _), <- List.append_assoc, eB]
 by_cases c : isEx f at_ j
 . rw [ixD_list] at ex
   rw [decide_eq_true c, if_pos rfl, if_pos c, if_pos c]
   walk_at "w"
   rw [appK_some (i := 4) (l := B2) _ rfl (by omega)]
   walk_at "w"
   rw [e10]
   walk_at "w"
   rw [ex, appK_some (i := 3) (l := L ++ [tS RW]) _ rfl (by rw [List.length_append, List.length_singleton]; omega), List.append_assoc, List.length_append, List.length_singleton]
   rfl
 . rw [decide_eq_false c, if_neg (by decide), if_neg c, if_neg c, List.append_nil]
   rfl
end Law
namespace Law
open PySem L2 PySem.NumText PySem.StrLaws
noncomputable abbrev gW (f n at_ W : Int) (e : Nat) (av bv : Nat -> Int) (X : List Str) : Nat -> List (List Str) := gG (wrow f n at_ W e av bv) (fun s => decide (isEx f at_ s)) X
noncomputable abbrev bW (n0 : Nat) (f n at_ W : Int) (e : Nat) (av bv : Nat -> Int) (X : List Str) : Nat -> List PyData := bG n0 (wrow f n at_ W e av bv) (fun s => decide (isEx f at_ s)) X (fun s => decide (isBad f W at_ s))
structure Wd (f n at_ : Int) (W e : Nat) (av bv : Nat -> Int) (X : List Str) : Prop where
 w2 : f = 2 -> W = 7
 w6 : f ≠ 2 -> W <= 6
 a0 : 0 <= at_
 a1 : 1 <= W -> at_ < W
 a6 : at_ < 6
 ab : ∀ s, s < 7 -> 0 <= av s /\ av s <= bv s /\ bv s < n
 e7 : e < 7
 ew : 2 <= W -> e + 1 < W
 lx : Ln5 X
 sx : F_read_work [rowS X, .int n] = some (.dat .none)
theorem works_eq {ns : List Int} {f n : Int} (hl : ns.length <= 63) (n0 : 1 <= n) (n1 : n <= 24) {R : List (List Str)} {B : List PyData} (hR : R.length <= 200) (hB : B.length <= 200) :
  ∃ (W e : Nat) (at_ : Int) (av bv : Nat -> Int) (X : List Str), F_l_works [scr ns, .int f, .int n, .list (dl R), .list B] = some (.int (W : Nat), dl (R ++ gW f n at_ W e av bv X W), B ++ bW R.length f n at_ W e av bv X W) /\ Wd f n at_ W e av bv X := by
 obtain ⟨m, em, m0, m1⟩ := many_eq (ns := ns) (k := 6) (most := 6) hl (by decide) (by decide) (by decide)
 obtain ⟨W, eW, Wa, Wb⟩ : ∃ W : Nat, (if f = 2 then 7 else m) = (W : Int) /\ (f = 2 -> W = 7) /\ (f ≠ 2 -> W <= 6) := by
  by_cases c : f = 2
  . exact ⟨7, by rw [if_pos c]; rfl, fun _ => rfl, fun z => absurd c z⟩
  . exact ⟨m.toNat, by rw [if_neg c]; omega, fun z => absurd z c, fun _ => by omega⟩
 have W7 : W <= 7 := by
  by_cases c : f = 2
  . have := Wa c; omega
  . have := Wb c; omega
 obtain ⟨q, eq, q0, q6, qw⟩ : ∃ q : Int, (let i := (if (6 : Int) < (W : Int) then 6 else (W : Int)); if i > 1 then i else 1) = q /\ 1 <= q /\ q <= 6 /\ (1 <= W -> q <= W) := by
  refine ⟨_, rfl, ?_, ?_, fun h => ?_⟩ <;> · simp only []; split <;> split <;> omega
 obtain ⟨at_, ea, a0, a1⟩ := draw_eq (ns := ns) (k := 8) (m := q) hl (by decide) (by decide) (by omega)
 have wk : ∀ j : Nat, ∃ p : Int × Int × Str, j < 7 -> F_l_work [scr ns, .int (j : Int), .int n] = some (.dat (.str p.2.2)) /\ p.2.2.length <= 300 /\ Str.ofString "work " ++ p.2.2 = lnS (workL (wkA j p.1 p.2.1)) /\ 0 <= p.1 /\ p.1 <= p.2.1 /\ p.2.1 < n := fun j => by
  by_cases hj : j < 7
  . obtain ⟨a, b, z, h⟩ := work_eq (ns := ns) (j := j) (n := n) hl hj n0 n1
    exact ⟨(a, b, z), fun _ => h⟩
  . exact ⟨(0, 0, Str.ofString ""), fun z => absurd z hj⟩
 obtain ⟨g, hg⟩ : ∃ g : Nat -> Int × Int × Str, ∀ j : Nat, j < 7 -> F_l_work [scr ns, .int (j : Int), .int n] = some (.dat (.str (g j).2.2)) /\ (g j).2.2.length <= 300 /\ Str.ofString "work " ++ (g j).2.2 = lnS (workL (wkA j (g j).1 (g j).2.1)) /\ 0 <= (g j).1 /\ (g j).1 <= (g j).2.1 /\ (g j).2.1 < n := ⟨fun j => (wk j).choose, fun j => (wk j).choose_spec⟩
 obtain ⟨e, e7, ew, he⟩ : ∃ e : Nat, e < 7 /\ (2 <= W -> e + 1 < W) /\ ∀ j, isTwice f W j -> F_l_draw [scr ns, .int 9, .int (j : Int)] = some (.dat (.int (e : Int))) /\ e < 7 := by
  by_cases c : 2 <= W
  . obtain ⟨r, er, r0, r1⟩ := draw_eq (ns := ns) (k := 9) (m := (W : Int) - 1) hl (by decide) (by decide) (by omega)
    refine ⟨r.toNat, by omega, fun _ => by omega, fun j ⟨_, h2, h3⟩ => ⟨?_, by omega⟩⟩
    rw [h2, er]
    congr 3
    omega
  . exact ⟨0, by decide, fun z => absurd z c, fun j ⟨_, h2, h3⟩ => absurd (show 2 <= W by omega) c⟩
 obtain ⟨x, ex, x0, x1⟩ := draw_eq (ns := ns) (k := 10) (m := 3) hl (by decide) (by decide) (by decide)
 obtain ⟨X, eX, lX, sX⟩ : ∃ X, ixD (.list [.str (Str.ofString "hour 3 4 dark"), .str (Str.ofString "store 9 3 3 3 1/2 1 2"), .str (Str.ofString "hour 1 1 line 1 1 1 1")]) (.int x) = some (.dat (tS X)) /\ Ln5 X /\ F_read_work [rowS X, .int n] = some (.dat .none) := by
  rcases (by omega : x = 0 \/ x = 1 \/ x = 2) with rfl | rfl | rfl
  . exact ⟨hourL hrA, by rw [lit_hA]; rfl, ln_hour hrA5, sw_hour hrA5⟩
  . exact ⟨stL, by rw [lit_st]; rfl, ln_st, sw_st⟩
  . exact ⟨hourL hrC, by rw [lit_hC]; rfl, ln_hour hrC5, sw_hour hrC5⟩
 refine ⟨W, e, at_, fun j => (g j).1, fun j => (g j).2.1, X, ?_, Wa, Wb, a0, fun h => by have := qw h; omega, by omega, fun s hs => (hg s hs).2.2.2, e7, ew, lX, sX⟩
 obtain ⟨ds', fe, y7, y8, rfl⟩ := forD_rng (gt := sName 7) (G := B_l_works_0) (lo := 0) (n := W) (fun t ds => ∃ y7 y8, ds = [some (.dat (scr ns)), iD f, iD n, oS (dl (R ++ gW f n at_ W e (fun j => (g j).1) (fun j => (g j).2.1) X t)), oS (B ++ bW R.length f n at_ W e (fun j => (g j).1) (fun j => (g j).2.1) X t), iD W, iD at_, y7, y8]) (ds := [some (.dat (scr ns)), iD f, iD n, oS (dl R), oS B, iD W, iD at_, none, none]) ⟨none, none, by simp [gG, bG]⟩ (by
  rintro t ds ht ⟨y7, y8, rfl⟩
  have g1 : (gW f n at_ W e (fun j => (g j).1) (fun j => (g j).2.1) X t).length <= 2 * t := gG_len t
  have b1 : (bW R.length f n at_ W e (fun j => (g j).1) (fun j => (g j).2.1) X t).length <= 2 * t := bG_len t
  obtain ⟨p1, p2, p3, _⟩ := hg t (by omega)
  have b := B_works (ns := ns) (f := f) (n := n) (W := W) (at_ := at_) (x := x) (j := t) (e := e) (av := fun j => (g j).1) (bv := fun j => (g j).2.1) (X := X) (z := (g t).2.2) (dl (R ++ gW f n at_ W e (fun j => (g j).1) (fun j => (g j).2.1) X t)) (B ++ bW R.length f n at_ W e (fun j => (g j).1) (fun j => (g j).2.1) X t) y8 n0 n1 (by omega) (he t) p1 p2 p3 ex eX (by rw [dl_len, List.length_append]; omega) (by rw [List.length_append]; omega)
  refine ⟨[some (.dat (scr ns)), iD f, iD n, oS (dl (R ++ gW f n at_ W e (fun j => (g j).1) (fun j => (g j).2.1) X t)), oS (B ++ bW R.length f n at_ W e (fun j => (g j).1) (fun j => (g j).2.1) X t), iD W, iD at_, iD t, y8], _, by simp [sName], .inl b, iD t, some (.dat (tS (wrow f n at_ W e (fun j => (g j).1) (fun j => (g j).2.1) t))), ?_⟩
  have e1 : dl (R ++ gW f n at_ W e (fun j => (g j).1) (fun j => (g j).2.1) X t) ++ tS (wrow f n at_ W e (fun j => (g j).1) (fun j => (g j).2.1) t) :: (if isEx f at_ t then [tS X] else []) = dl (R ++ gW f n at_ W e (fun j => (g j).1) (fun j => (g j).2.1) X (t + 1)) := by
   rw [show gW f n at_ W e (fun j => (g j).1) (fun j => (g j).2.1) X (t + 1) = _ from gG_succ t, <- List.append_assoc, dl_app (R ++ _)]
   refine congrArg (fun z => dl (R ++ gW f n at_ W e (fun j => (g j).1) (fun j => (g j).2.1) X t) ++ z) ?_
   by_cases c : isEx f at_ t
   . rw [if_pos c, decide_eq_true c]; rfl
   . rw [if_neg c, decide_eq_false c]; rfl
  have e2 : (B ++ bW R.length f n at_ W e (fun j => (g j).1) (fun j => (g j).2.1) X t) ++ ((if isBad f W at_ t then [PyData.int ((dl (R ++ gW f n at_ W e (fun j => (g j).1) (fun j => (g j).2.1) X t)).length : Nat)] else []) ++ (if isEx f at_ t then [.int (((dl (R ++ gW f n at_ W e (fun j => (g j).1) (fun j => (g j).2.1) X t)).length + 1 : Nat) : Int)] else [])) = B ++ bW R.length f n at_ W e (fun j => (g j).1) (fun j => (g j).2.1) X (t + 1) := by
   rw [show bW R.length f n at_ W e (fun j => (g j).1) (fun j => (g j).2.1) X (t + 1) = _ from bG_succ t, List.append_assoc, dl_len, List.length_append]
   simp only [decide_eq_true_eq]
  rw [e1, e2])
 unfold F_l_works
 change io2Seq _ _ [some (.dat (scr ns)), iD f, iD n, oS (dl R), oS B, none, none, none, none] = _
 rw [io2_next (ds' := [some (.dat (scr ns)), iD f, iD n, oS (dl R), oS B, iD m, none, none, none]) (by
  refine setD_eq5 (pv := .dat (.int m)) ?_
  simp only [fCall, aCons, aNil, fC, fVar, List.getElem?_cons_zero, Option.bind_some, PV.d_dat, em])]
 rw [io2_next (ds' := [some (.dat (scr ns)), iD f, iD n, oS (dl R), oS B, iD W, none, none, none]) (by
  refine (gIf_b (eqc_d (a := f) rfl)).trans ?_
  by_cases c : f = 2
  . rw [if_pos c] at eW; rw [decide_eq_true c, if_pos rfl, <- eW]; rfl
  . rw [if_neg c] at eW; rw [decide_eq_false c, eW]; rfl)]
 rw [io2_next (ds' := [some (.dat (scr ns)), iD f, iD n, oS (dl R), oS B, iD W, iD at_, none, none]) (by
  refine setD_eq5 (pv := .dat (.int at_)) ?_
  simp only [fCall, aCons, aNil, fC, fVar, List.getElem?_cons_zero, List.getElem?_cons_succ, Option.bind_some, PV.d_dat]
  have mm : ((minD [.int (W : Int), .int 6]).bind fun y => maxD [.int 1, y.d]) = some (.dat (.int q)) := by rw [<- eq]; rfl
  have m2 : minD [.int (W : Int), .int 6] = some (.dat (.int (if (6 : Int) < (W : Int) then 6 else (W : Int)))) := rfl
  rw [m2] at mm ⊢
  simp only [Option.bind_some, PV.d_dat] at mm ⊢
  rw [mm]
  simp only [Option.bind_some, PV.d_dat]
  exact ea)]
 rw [io2_next (by
  simp only [gFor, iFn, aCons, aNil, fVar, List.getElem?_cons_zero, List.getElem?_cons_succ, Option.bind_some, PV.d_dat]
  rw [rng1_int (by omega), Int.toNat_natCast]
  exact fe)]
 exact io2_ret (pv := .dat (.int W)) rfl rfl rfl
end Law
namespace Law
open PySem L2 PySem.NumText PySem.StrLaws
theorem read_rows (cE : Addr) {A : List Hr} {C : List Wk} {rest : List (List Str)} (hA : ∀ x ∈ A, Hr5 x) (a1 : 1 <= A.length) (a2 : A.length <= 24) (hC : ∀ w ∈ C, Wk5 A.length w) (c6 : C.length <= 6) (nd : (C.map Wk.name).Nodup) (hr : ∀ l ∈ rest, Ln5 l) (rl : rest.length <= 100)
  (sh : C ≠ [] \/ A.length = 24 \/ StopH (rest.map rowS)) (sw : C.length = 6 \/ StopW A.length (C.map Wk.name) (rest.map rowS)) :
  FX_read cE [.list (dl (stL :: (A.map hourL ++ (C.map workL ++ rest))))] = if rest = [] then some (.inl (.dat (.tuple [.tuple (A.map hourD), storeD h0, .tuple (C.map workD)]))) else some (.inr (excD cE "place" (.int ((1 + A.length + C.length : Nat) : Int)))) := by
 have LA : ∀ l ∈ stL :: (A.map hourL ++ (C.map workL ++ rest)), Ln5 l := by
  intro l h
  rcases List.mem_cons.mp h with rfl | h
  . exact ln_st
  . rcases List.mem_append.mp h with h | h
    . obtain ⟨x, hx, rfl⟩ := List.mem_map.mp h
      exact ln_hour (hA x hx)
    . rcases List.mem_append.mp h with h | h
      . obtain ⟨w, hw, rfl⟩ := List.mem_map.mp h
        exact ln_work (hC w hw) (by omega)
      . exact hr l h
 have eR : (A.map hourL ++ (C.map workL ++ rest)).map rowS = A.map rowH ++ (C.map rowW ++ rest.map rowS) := by
  simp [List.map_map, Function.comp_def]
 obtain ⟨t1, t2⟩ := sh_hours A
 have lA : (A.map hourD).length = A.length := List.length_map ..
 have lC : (C.map workD).length = C.length := List.length_map ..
 have k := readX_eq cE (s := stL) (R := A.map hourL ++ (C.map workL ++ rest)) (SD := storeD h0) (HD := A.map hourD) (WD := C.map workD) LA (by simp; omega) rfl (rstore_eq h05) (by
   rw [eR]
   refine hours_gen hA a2 ?_
   by_cases c : A.length = 24
   . exact .inl c
   . right
     cases eC : C with
     | nil =>
      rw [eC] at sh
      rcases sh with h | h | h
      . exact absurd rfl h
      . exact absurd h c
      . exact h
     | cons w r =>
      refine .inr ⟨rowW w, _, rfl, ?_⟩
      exact rhour_work (hC w (by rw [eC]; exact List.mem_cons_self)) (by omega)) t1 t2 (by omega) (by omega) (by
   rw [eR, lA, List.drop_append_of_le_length (by rw [List.length_map]; exact Nat.le_refl _), List.drop_of_length_le (by rw [List.length_map]; exact Nat.le_refl _), List.nil_append]
   exact works_gen hC (by omega) c6 nd sw) (by
   intro z
   rw [<- List.length_eq_zero_iff, lA] at z
   omega)
 rw [k, lA, lC, List.length_append, List.length_append, List.length_map, List.length_map]
 by_cases c : rest = []
 . rw [if_pos c, c, if_neg (by simp)]
 . have : 0 < rest.length := List.length_pos_iff.mpr c
   rw [if_neg c, if_pos (by omega)]
noncomputable def Fin7 (cE : Addr) (R : List (List Str)) (B : List PyData) (H W : Int) : Prop :=
 (∃ p : Nat, B = [.int (p : Int)] /\ ∀ E, (E = [] \/ ∃ l ∈ endL, E = [l]) -> FX_read cE [.list (dl (R ++ E))] = some (.inr (excD cE "place" (.int (p : Int))))) \/
 (B = [] /\ ∃ HD SD WD, FX_read cE [.list (dl R)] = some (.inl (.dat (.tuple [.tuple HD, SD, .tuple WD]))) /\ (HD.length : Int) = H /\ (WD.length : Int) = W)
theorem ln_E {E : List (List Str)} (h : E = [] \/ ∃ l ∈ endL, E = [l]) : (∀ l ∈ E, Ln5 l) /\ E.length <= 1 := by
 rcases h with rfl | ⟨l, hl, rfl⟩
 . exact ⟨(fun l h => by cases h), by simp⟩
 . exact ⟨fun m hm => by rw [List.mem_singleton.mp hm]; exact ln_end l hl, by simp⟩
theorem ln_gG {row : Nat -> List Str} {ex : Nat -> Bool} {X : List Str} {t : Nat} (hr : ∀ s, s < t -> Ln5 (row s)) (hX : Ln5 X) : ∀ l ∈ gG row ex X t, Ln5 l := by
 intro l hl
 obtain ⟨s, hs, h⟩ := List.mem_flatMap.mp hl
 rcases List.mem_cons.mp h with rfl | h
 . exact hr s (List.mem_range.mp hs)
 . split at h
   . rw [List.mem_singleton.mp h]; exact hX
   . cases h
theorem ln_gH (f alt d : Int) (t : Nat) : ∀ l ∈ gH f alt d t, Ln5 l := ln_gG (fun s _ => ln_hour (hx5 alt s)) ln_st
theorem ln_gW {f n at_ : Int} {W e : Nat} {av bv : Nat -> Int} {X : List Str} (D : Wd f n at_ W e av bv X) (n0 : 1 <= n) (n1 : n <= 24) (w7 : W <= 7) : ∀ l ∈ gW f n at_ W e av bv X W, Ln5 l := ln_gG (fun s hs => by
 obtain ⟨h1, h2, h3⟩ := D.ab s (by omega)
 unfold wrow
 split
 . exact ln_work (wkB5 D.e7 (by omega)) n1
 . split
   . exact ln_late (by omega) (by omega) n1
   . exact ln_work (wkA5 (by omega) h1 h2 h3) n1) D.lx
theorem nodup_w (av bv : Nat -> Int) (k : Nat) : (((List.range k).map fun s => wkA s (av s) (bv s)).map Wk.name).Nodup := by
 rw [List.map_map]
 unfold List.Nodup
 rw [List.pairwise_map]
 refine List.Pairwise.imp (R := (· ≠ ·)) ?_ (List.nodup_range)
 intro a b hab h
 have h' : wnm a = wnm b := h
 have := congrArg lz h'
 have e : ∀ j, lz (wnm j) = [119, 97 + j] := fun j => rfl
 rw [e, e] at this
 simp at this
 exact hab this
end Law
namespace Law
open PySem L2 PySem.NumText PySem.StrLaws
section
variable {f alt d n at_ : Int} {H W e : Nat} {av bv : Nat -> Int} {X : List Str}
noncomputable abbrev hsL (alt : Int) (k : Nat) : List Hr := (List.range k).map (hxF alt)
noncomputable abbrev wsL (av bv : Nat -> Int) (k : Nat) : List Wk := (List.range k).map fun s => wkA s (av s) (bv s)
theorem hs_ok (alt : Int) (k : Nat) : ∀ x ∈ hsL alt k, Hr5 x := fun x hx => by
 obtain ⟨s, _, rfl⟩ := List.mem_map.mp hx
 exact hx5 alt s
theorem ws_ok (D : Wd f n at_ W e av bv X) {k : Nat} (hk : k <= 7) : ∀ w ∈ wsL av bv k, Wk5 n w := fun w hw => by
 obtain ⟨s, hs, rfl⟩ := List.mem_map.mp hw
 have := List.mem_range.mp hs
 obtain ⟨h1, h2, h3⟩ := D.ab s (by omega)
 exact wkA5 (by omega) h1 h2 h3
theorem hs_len (alt : Int) (k : Nat) : (hsL alt k).length = k := by simp
theorem ws_len (av bv : Nat -> Int) (k : Nat) : (wsL av bv k).length = k := by simp
theorem gH_eq (hf : f ≠ 1) (k : Nat) : gH f alt d k = (hsL alt k).map hourL := by
 rw [show gH f alt d k = _ from gG_none fun s _ => decide_eq_false fun z => hf z.1, List.map_map]
 rfl
theorem bH_eq {n0 : Nat} (hf : f ≠ 1) (hk : H <= 24) : bH n0 f alt d H = [] := bG_zero (fun s _ => decide_eq_false fun z => hf z.1) (fun s hs => decide_eq_false (by omega))
theorem row_eq {k : Nat} (h : ∀ s, s < k -> ¬ isTwice f W s /\ ¬ isLate f at_ s) : (List.range k).map (wrow f n at_ W e av bv) = (wsL av bv k).map workL := by
 rw [List.map_map]
 refine List.map_congr_left fun s hs => ?_
 obtain ⟨h1, h2⟩ := h s (List.mem_range.mp hs)
 unfold wrow
 rw [if_neg h1, if_neg h2]
 rfl
theorem fin_bad (cE : Addr) {A : List Hr} {C : List Wk} {x : List Str} {tl : List (List Str)} {R : List (List Str)} {B : List PyData} {Hh Ww : Int} (hR : R = stL :: (A.map hourL ++ (C.map workL ++ x :: tl))) (hB : B = [.int ((1 + A.length + C.length : Nat) : Int)]) (hA : ∀ x ∈ A, Hr5 x) (a1 : 1 <= A.length) (a2 : A.length <= 24) (hC : ∀ w ∈ C, Wk5 A.length w) (c6 : C.length <= 6) (nd : (C.map Wk.name).Nodup) (hx : Ln5 x) (ht : ∀ l ∈ tl, Ln5 l) (tl9 : tl.length <= 90)
  (sh : C ≠ [] \/ A.length = 24 \/ F_read_hour [rowS x] = some (.dat .none)) (sw : C.length = 6 \/ F_read_work [rowS x, .int A.length] = some (.dat .none) \/ ∃ w, x = workL w /\ Wk5 A.length w /\ w.name ∈ C.map Wk.name) : Fin7 cE R B Hh Ww := by
 refine .inl ⟨_, hB, fun E hE => ?_⟩
 obtain ⟨lE, kE⟩ := ln_E hE
 have := read_rows cE (A := A) (C := C) (rest := x :: (tl ++ E)) hA a1 a2 hC c6 nd (fun l hl => by
  rcases List.mem_cons.mp hl with rfl | hl
  . exact hx
  . rcases List.mem_append.mp hl with hl | hl
    . exact ht l hl
    . exact lE l hl) (by simp; omega) (by
  rcases sh with h | h | h
  . exact .inl h
  . exact .inr (.inl h)
  . exact .inr (.inr (.inr ⟨_, _, rfl, h⟩))) (by
  rcases sw with h | h | ⟨w, rfl, h1, h2⟩
  . exact .inl h
  . exact .inr (.inr ⟨_, _, rfl, .inl h⟩)
  . exact .inr (.inr ⟨_, _, rfl, .inr ⟨w, rfl, h1, h2⟩⟩))
 rw [if_neg (by simp)] at this
 rw [hR]
 have eR : stL :: (A.map hourL ++ (C.map workL ++ x :: tl)) ++ E = stL :: (A.map hourL ++ (C.map workL ++ x :: (tl ++ E))) := by simp
 rw [eR]
 exact this
end
end Law
namespace Law
open PySem L2 PySem.NumText PySem.StrLaws
theorem fin_all (cE : Addr) {f alt d n at_ : Int} {H W e : Nat} {av bv : Nat -> Int} {X : List Str} {Rb : List (List Str)} {b : List PyData} (bg : Bg f Rb b) (H1 : 1 <= H) (Ha : f = 0 -> H = 25) (Hb : f ≠ 0 -> H <= 24) (d0 : 0 <= d) (d1 : d < H) (n0 : 1 <= n) (n1 : n <= 24) (hn : f ≠ 0 -> n = H) (D : Wd f n at_ W e av bv X) :
  Fin7 cE ((Rb ++ gH f alt d H) ++ gW f n at_ W e av bv X W) ((b ++ bH Rb.length f alt d H) ++ bW (Rb ++ gH f alt d H).length f n at_ W e av bv X W) H W := by
 have W7 : W <= 7 := by
  by_cases c : f = 2
  . have := D.w2 c; omega
  . have := D.w6 c; omega
 have H25 : H <= 25 := by
  by_cases c : f = 0
  . have := Ha c; omega
  . have := Hb c; omega
 have lH := ln_gH f alt d H
 have lW := ln_gW D n0 n1 W7
 have kH : (gH f alt d H).length <= 2 * H := gG_len H
 have kW : (gW f n at_ W e av bv X W).length <= 2 * W := gG_len W
 have bz : ∀ n0 : Nat, f ≠ 2 -> f ≠ 3 -> f ≠ 4 -> f ≠ 5 -> bW n0 f n at_ W e av bv X W = [] := fun n0 c2 c3 c4 c5 => by
  have := D.w6 c2
  exact bG_zero (fun s _ => decide_eq_false fun z => c5 z.1) (fun s hs => decide_eq_false fun z => by
   rcases z with z | z | z
   . omega
   . exact c3 z.1
   . exact c4 z.1)
 have gz : f ≠ 3 -> f ≠ 4 -> f ≠ 5 -> gW f n at_ W e av bv X W = (wsL av bv W).map workL := fun c3 c4 c5 => by
  rw [show gW f n at_ W e av bv X W = _ from gG_none fun s _ => decide_eq_false fun z => c5 z.1]
  exact row_eq fun s _ => ⟨fun z => c4 z.1, fun z => c3 z.1⟩
 rcases bg with ⟨c6, rfl, x, rfl, lx, sx⟩ | ⟨c7, rfl, x, rfl, lx, sx⟩ | ⟨c6, c7, rfl, rfl⟩
 . -- ahead of the store
   have eB := bH_eq (alt := alt) (d := d) (n0 := [x, stL].length) (show f ≠ 1 by omega) (Hb (by omega))
   rw [eB, bz _ (by omega) (by omega) (by omega) (by omega)]
   refine .inl ⟨0, rfl, fun E hE => ?_⟩
   obtain ⟨lE, kE⟩ := ln_E hE
   have k := readX_store cE (s := x) (R := stL :: (gH f alt d H ++ gW f n at_ W e av bv X W ++ E)) (fun l hl => by
    rcases List.mem_cons.mp hl with rfl | hl
    . exact lx
    . rcases List.mem_cons.mp hl with rfl | hl
      . exact ln_st
      . rcases List.mem_append.mp hl with hl | hl
        . rcases List.mem_append.mp hl with hl | hl
          . exact lH l hl
          . exact lW l hl
        . exact lE l hl) (by rw [List.length_cons, List.length_append, List.length_append]; omega) sx
   have eR : [x, stL] ++ gH f alt d H ++ gW f n at_ W e av bv X W ++ E = x :: stL :: (gH f alt d H ++ gW f n at_ W e av bv X W ++ E) := by simp
   rw [eR]
   exact k
 . -- behind the store
   have eB := bH_eq (alt := alt) (d := d) (n0 := [stL, x].length) (show f ≠ 1 by omega) (Hb (by omega))
   rw [eB, bz _ (by omega) (by omega) (by omega) (by omega)]
   refine .inl ⟨1, rfl, fun E hE => ?_⟩
   obtain ⟨lE, kE⟩ := ln_E hE
   have k := readX_nohour cE (s := stL) (R := x :: (gH f alt d H ++ gW f n at_ W e av bv X W ++ E)) (SD := storeD h0) (fun l hl => by
    rcases List.mem_cons.mp hl with rfl | hl
    . exact ln_st
    . rcases List.mem_cons.mp hl with rfl | hl
      . exact lx
      . rcases List.mem_append.mp hl with hl | hl
        . rcases List.mem_append.mp hl with hl | hl
          . exact lH l hl
          . exact lW l hl
        . exact lE l hl) (by rw [List.length_cons, List.length_append, List.length_append]; omega) rfl (rstore_eq h05) (hours_gen (hs := []) (fun x hx => by cases hx) (by simp) (.inr (.inr ⟨_, _, rfl, sx⟩)))
   have eR : [stL, x] ++ gH f alt d H ++ gW f n at_ W e av bv X W ++ E = stL :: x :: (gH f alt d H ++ gW f n at_ W e av bv X W ++ E) := by simp
   rw [eR]
   exact k
 . by_cases f0 : f = 0
   . -- a twenty-fifth hour
     have eH := Ha f0
     subst eH
     have eB : bH [stL].length f alt d 25 = [.int ((1 + 24 : Nat) : Int)] := bG_bad (by decide) (fun s _ => decide_eq_false fun z => by have := z.1; omega) (fun s _ => rfl)
     have eG : gH f alt d 25 = (hsL alt 24).map hourL ++ [hourL (hxF alt 24)] := by
      rw [gH_eq (by omega)]
      rw [show hsL alt 25 = hsL alt 24 ++ [hxF alt 24] by unfold hsL; rw [List.range_succ, List.map_append]; rfl, List.map_append]
      rfl
     rw [eB, bz _ (by omega) (by omega) (by omega) (by omega)]
     refine fin_bad cE (A := hsL alt 24) (C := []) (x := hourL (hxF alt 24)) (tl := gW f n at_ W e av bv X W) (by rw [eG]; simp) (by rw [hs_len]; rfl) (hs_ok alt 24) (by rw [hs_len]; decide) (by rw [hs_len]; decide) (fun w hw => by cases hw) (by decide) (by simp) (ln_hour (hx5 alt 24)) lW (by omega) (.inr (.inl (hs_len alt 24))) (.inr (.inl (sw_hour (hx5 alt 24))))
   . have H24 := Hb f0
     have en := hn f0
     by_cases f1 : f = 1
     . -- a store behind an hour
       obtain ⟨d', rfl⟩ : ∃ d' : Nat, d = (d' : Int) := ⟨d.toNat, by omega⟩
       have hex : ∀ s, s < H -> decide (f = 1 /\ (s : Int) = (d' : Int)) = decide (s = d') := fun s _ => by
        by_cases c : s = d'
        . rw [decide_eq_true c, decide_eq_true ⟨f1, by omega⟩]
        . rw [decide_eq_false c, decide_eq_false fun z => c (by omega)]
       obtain ⟨tl, eG, ht⟩ := gG_one (row := fun s => hourL (hxF alt s)) (X := stL) (show d' < H by omega) hex
       have eG' : gH f alt (d' : Int) H = (hsL alt (d' + 1)).map hourL ++ stL :: tl := by
        rw [show gH f alt (d' : Int) H = _ from eG, List.map_map]
        rfl
       have eB : bH [stL].length f alt (d' : Int) H = [.int ((1 + (d' + 1) : Nat) : Int)] := bG_ex (show d' < H by omega) hex (fun s hs => decide_eq_false (by omega))
       have kt : tl.length <= 50 := by
        have := congrArg List.length eG'
        rw [List.length_append, List.length_cons] at this
        omega
       rw [eB, bz _ (by omega) (by omega) (by omega) (by omega)]
       refine fin_bad cE (A := hsL alt (d' + 1)) (C := []) (x := stL) (tl := tl ++ gW f n at_ W e av bv X W) (by rw [eG']; simp) (by rw [hs_len]; rfl) (hs_ok alt _) (by rw [hs_len]; omega) (by rw [hs_len]; omega) (fun w hw => by cases hw) (by decide) (by simp) ln_st (fun l hl => by
        rcases List.mem_append.mp hl with hl | hl
        . obtain ⟨s, _, rfl⟩ := ht l hl
          exact ln_hour (hx5 alt s)
        . exact lW l hl) (by rw [List.length_append]; omega) (.inr (.inr sh_st)) (.inr (.inl sw_st))
     . have eG := gH_eq (alt := alt) (d := d) f1 H
       have eB := bH_eq (alt := alt) (d := d) (n0 := [stL].length) f1 H24
       have hl := hs_len alt H
       have eL : ([stL] ++ gH f alt d H).length = 1 + H := by rw [eG, List.length_append, List.length_map, hl]; rfl
       rw [eB, eL, List.append_nil, List.nil_append]
       have hn' : n = ((hsL alt H).length : Int) := by rw [hl]; exact en
       have good : gW f n at_ W e av bv X W = (wsL av bv W).map workL -> bW (1 + H) f n at_ W e av bv X W = [] -> W <= 6 -> Fin7 cE ([stL] ++ gH f alt d H ++ gW f n at_ W e av bv X W) (bW (1 + H) f n at_ W e av bv X W) H W := fun e1 e2 w6 => by
        refine .inr ⟨e2, (hsL alt H).map hourD, storeD h0, (wsL av bv W).map workD, ?_, by rw [List.length_map, hl], by rw [List.length_map, ws_len]⟩
        have k := read_rows cE (A := hsL alt H) (C := wsL av bv W) (rest := []) (hs_ok alt H) (by rw [hl]; exact H1) (by rw [hl]; exact H24) (by rw [<- hn']; exact ws_ok D (by omega)) (by rw [ws_len]; exact w6) (nodup_w av bv W) (fun l hl => by cases hl) (by simp) (.inr (.inr (.inl rfl))) (.inr (.inl rfl))
        rw [if_pos rfl, List.append_nil] at k
        rw [e1, eG]
        exact k
       by_cases f2 : f = 2
       . -- a seventh work
         have eW := D.w2 f2
         subst eW
         have e1 := gz (by omega) (by omega) (by omega)
         have e2 : bW (1 + H) f n at_ (7 : Nat) e av bv X 7 = [.int ((1 + H + 6 : Nat) : Int)] := bG_bad (by decide) (fun s _ => decide_eq_false fun z => by have := z.1; omega) (fun s _ => by
          by_cases c : s = 6
          . rw [decide_eq_true c, decide_eq_true (.inl (by omega))]
          . rw [decide_eq_false c, decide_eq_false]
            rintro (z | z | z)
            . omega
            . have := z.1; omega
            . have := z.1; omega)
         refine fin_bad cE (A := hsL alt H) (C := wsL av bv 6) (x := workL (wkA 6 (av 6) (bv 6))) (tl := []) (by
          rw [e1, eG, show wsL av bv 7 = wsL av bv 6 ++ [wkA 6 (av 6) (bv 6)] by unfold wsL; rw [List.range_succ, List.map_append]; rfl, List.map_append]
          simp) (by rw [e2, hl, ws_len]) (hs_ok alt H) (by rw [hl]; exact H1) (by rw [hl]; exact H24) (by rw [<- hn']; exact ws_ok D (by omega)) (by rw [ws_len]; decide) (nodup_w av bv 6) (by
          obtain ⟨h1, h2, h3⟩ := D.ab 6 (by decide)
          exact ln_work (wkA5 (by decide) h1 h2 h3) n1) (fun l hl => by cases hl) (by simp) (.inl (by simp)) (.inl (ws_len av bv 6))
       . have W6 := D.w6 f2
         by_cases f3 : f = 3 /\ 1 <= W
         . -- a last hour that the house hasn't
           obtain ⟨f3, w1⟩ := f3
           have a1 := D.a1 w1
           obtain ⟨k, hk⟩ : ∃ k : Nat, at_ = (k : Int) := ⟨at_.toNat, by have := D.a0; omega⟩
           have e1 : gW f n at_ W e av bv X W = (List.range W).map (wrow f n at_ W e av bv) := gG_none fun s _ => decide_eq_false fun z => by have := z.1; omega
           have e2 : bW (1 + H) f n at_ W e av bv X W = [.int ((1 + H + k : Nat) : Int)] := bG_bad (by omega) (fun s _ => decide_eq_false fun z => by have := z.1; omega) (fun s _ => by
            by_cases c : s = k
            . rw [decide_eq_true c, decide_eq_true (.inr (.inl ⟨f3, by omega⟩))]
            . rw [decide_eq_false c, decide_eq_false]
              rintro (z | z | z)
              . omega
              . have := z.2; omega
              . have := z.1; omega)
           obtain ⟨tl, et⟩ : ∃ tl, (List.range W).map (wrow f n at_ W e av bv) = (wsL av bv k).map workL ++ workL (wkA k 0 n) :: tl := by
            have sp : List.range W = List.range k ++ k :: ((List.range W).drop (k + 1)) := by
             have h1 : (List.range W).take k = List.range k := by rw [List.take_range, Nat.min_eq_left (by omega)]
             rw [<- h1]
             have h2 : (List.range W).drop k = k :: (List.range W).drop (k + 1) := by
              rw [List.drop_eq_getElem_cons (by simp; omega)]
              simp
             rw [<- h2, List.take_append_drop]
            refine ⟨((List.range W).drop (k + 1)).map (wrow f n at_ W e av bv), ?_⟩
            conv => lhs; rw [sp, List.map_append, List.map_cons]
            rw [row_eq fun s hs => ⟨fun z => by have := z.1; omega, fun z => by have := z.2; omega⟩]
            congr 2
            unfold wrow
            rw [if_neg (fun z => by have := z.1; omega), if_pos ⟨f3, by omega⟩]
           have kt : tl.length <= 10 := by
            have := congrArg List.length et
            rw [List.length_append, List.length_cons, List.length_map, List.length_range] at this
            omega
           refine fin_bad cE (A := hsL alt H) (C := wsL av bv k) (x := workL (wkA k 0 n)) (tl := tl) (by rw [e1, et, eG]; simp) (by rw [e2, hl, ws_len]) (hs_ok alt H) (by rw [hl]; exact H1) (by rw [hl]; exact H24) (by rw [<- hn']; exact ws_ok D (by omega)) (by rw [ws_len]; omega) (nodup_w av bv k) (ln_late (by omega) (by omega) n1) (fun l h => lW l (by rw [e1, et]; exact List.mem_append_right _ (List.mem_cons_of_mem _ h))) (by omega) (.inr (.inr (sh_late (by omega) (by omega) n1))) (.inr (.inl (by rw [<- hn']; exact sw_late (by omega) (by omega) n1)))
         . by_cases f4 : f = 4 /\ 2 <= W
           . -- a work named twice
             obtain ⟨f4, w2⟩ := f4
             have e1 : gW f n at_ W e av bv X W = (List.range W).map (wrow f n at_ W e av bv) := gG_none fun s _ => decide_eq_false fun z => by have := z.1; omega
             obtain ⟨k, rfl⟩ : ∃ k, W = k + 1 := ⟨W - 1, by omega⟩
             have e2 : bW (1 + H) f n at_ (k + 1 : Nat) e av bv X (k + 1) = [.int ((1 + H + k : Nat) : Int)] := bG_bad (by omega) (fun s _ => decide_eq_false fun z => by have := z.1; omega) (fun s _ => by
              by_cases c : s = k
              . rw [decide_eq_true c, decide_eq_true (.inr (.inr ⟨f4, by omega, by omega⟩))]
              . rw [decide_eq_false c, decide_eq_false]
                rintro (z | z | z)
                . omega
                . have := z.1; omega
                . have := z.2.1; omega)
             have ew := D.ew w2
             have et : (List.range (k + 1)).map (wrow f n at_ (k + 1 : Nat) e av bv) = (wsL av bv k).map workL ++ [workL (wkB e)] := by
              rw [List.range_succ, List.map_append, row_eq fun s hs => ⟨fun z => by have := z.2.1; omega, fun z => by have := z.1; omega⟩]
              congr 1
              show [wrow f n at_ (k + 1 : Nat) e av bv k] = _
              unfold wrow
              rw [if_pos ⟨f4, by omega, by omega⟩]
             refine fin_bad cE (A := hsL alt H) (C := wsL av bv k) (x := workL (wkB e)) (tl := []) (by rw [e1, et, eG]; simp) (by rw [e2, hl, ws_len]) (hs_ok alt H) (by rw [hl]; exact H1) (by rw [hl]; exact H24) (by rw [<- hn']; exact ws_ok D (by omega)) (by rw [ws_len]; omega) (nodup_w av bv k) (ln_work (wkB5 D.e7 (by omega)) n1) (fun l h => by cases h) (by simp) (.inl (fun z => by
              have := congrArg List.length z
              rw [ws_len] at this
              simp at this
              omega)) (.inr (.inr ⟨wkB e, rfl, by rw [<- hn']; exact wkB5 D.e7 (by omega), ?_⟩))
             rw [List.map_map]
             exact List.mem_map.mpr ⟨e, List.mem_range.mpr (by omega), rfl⟩
           . by_cases f5 : f = 5 /\ 1 <= W
             . -- an hour or a store behind a work
               obtain ⟨f5, w1⟩ := f5
               have a1 := D.a1 w1
               obtain ⟨k, hk⟩ : ∃ k : Nat, at_ = (k : Int) := ⟨at_.toNat, by have := D.a0; omega⟩
               have hex : ∀ s, s < W -> decide (isEx f at_ s) = decide (s = k) := fun s _ => by
                by_cases c : s = k
                . rw [decide_eq_true c, decide_eq_true ⟨f5, by omega⟩]
                . rw [decide_eq_false c, decide_eq_false fun z => c (by have := z.2; omega)]
               obtain ⟨tl, eT, ht⟩ := gG_one (row := wrow f n at_ W e av bv) (X := X) (show k < W by omega) hex
               have e1 : gW f n at_ W e av bv X W = (wsL av bv (k + 1)).map workL ++ X :: tl := by
                rw [show gW f n at_ W e av bv X W = _ from eT, row_eq fun s hs => ⟨fun z => by have := z.1; omega, fun z => by have := z.1; omega⟩]
               have e2 : bW (1 + H) f n at_ W e av bv X W = [.int ((1 + H + (k + 1) : Nat) : Int)] := bG_ex (show k < W by omega) hex (fun s hs => decide_eq_false (by
                rintro (z | z | z)
                . omega
                . have := z.1; omega
                . have := z.1; omega))
               have kt : tl.length <= 20 := by
                have := congrArg List.length e1
                rw [List.length_append, List.length_cons] at this
                omega
               refine fin_bad cE (A := hsL alt H) (C := wsL av bv (k + 1)) (x := X) (tl := tl) (by rw [e1, eG]; simp) (by rw [e2, hl, ws_len]) (hs_ok alt H) (by rw [hl]; exact H1) (by rw [hl]; exact H24) (by rw [<- hn']; exact ws_ok D (by omega)) (by rw [ws_len]; omega) (nodup_w av bv (k + 1)) D.lx (fun l h => lW l (by rw [e1]; exact List.mem_append_right _ (List.mem_cons_of_mem _ h))) (by omega) (.inl (fun z => by
                have := congrArg List.length z
                rw [ws_len] at this
                simp at this)) (.inr (.inl (by rw [<- hn']; exact D.sx)))
             . -- all is right
               refine good ?_ ?_ W6
               . rw [show gW f n at_ W e av bv X W = _ from gG_none fun s hs => decide_eq_false fun z => f5 ⟨z.1, by omega⟩]
                 exact row_eq fun s hs => ⟨fun z => f4 ⟨z.1, by have := z.2; omega⟩, fun z => f3 ⟨z.1, by omega⟩⟩
               . exact bG_zero (fun s hs => decide_eq_false fun z => f5 ⟨z.1, by omega⟩) (fun s hs => decide_eq_false (by
                   rintro (z | z | z)
                   . omega
                   . exact f3 ⟨z.1, by omega⟩
                   . exact f4 ⟨z.1, by have := z.2; omega⟩))
end Law
namespace Law
open PySem L2 PySem.NumText PySem.StrLaws
theorem call2_d {f : List PyData -> Option (PyData × List PyData × List PyData)} {nx : PyData -> Ds -> Ds} {p : Nat × Nat} {Fl : Ds -> Option (List PyData)} {ds : Ds} {l l1 l2 l' m' : List PyData} {d : PyData} (h1 : ds[p.1]? = some (oS l1)) (h2 : ds[p.2]? = some (oS l2)) (hF : Fl ds = some l) (hf : f l = some (d, l', m')) : gCallIO2 f nx p Fl ds = some (.next (nx d ((ds.set p.1 (oS l')).set p.2 (oS m')))) := by
 unfold gCallIO2
 simp only [h1, h2, hF, hf, Option.bind_some]
theorem pos_d {i : Nat} {ds : Ds} {l : List PyData} (h1 : ds[i]? = some (oS l)) : (bVal (fOp gtD (fFrz (fCall lenD (aCons (fVar i) aNil))) (fFrz (fC (.int 0))))) ds = some (decide (l ≠ [])) := by
 have e : (ds.map (Option.map fun pv => PV.dat pv.d))[i]? = some (some (.dat (.list l))) := by
  rw [List.getElem?_map, h1]
  rfl
 simp only [bVal, fOp, fFrz, frz, fCall, aCons, aNil, fVar, fC, e, Option.bind_some, PV.d_dat, lenD_list, gtD_int, asB_bool]
 congr 1
 cases l <;> simp
theorem same7 (p : Int) : F_l_same [.int p, .int p] = some (.dat (.bool true)) := by
 unfold F_l_same N_l_same S_l_same
 walk_at "w"
theorem laid (cE : Addr) {ns : List Int} {f : Int} (hl : ns.length <= 63) {Rb : List (List Str)} {b : List PyData} (bg : Bg f Rb b) : ∃ (R : List (List Str)) (B : List PyData) (H W : Int), Fin7 cE R B H W /\ R.length <= 300 /\
  (gIf (bVal (fOp eqDD (fVar 1) (fC (.int 8)))) (gApp 3 (fFlat (fFrz (fCall lenD (aCons (fVar 2) aNil))))) (gSeq (gCallIO2 F_l_hours (nxSet 4) (2, 3) (aCons (fVar 0) (aCons (fVar 1) (aCons (fVarB 2) (aCons (fVarB 3) aNil))))) (gCallIO2 F_l_works (nxSet 5) (2, 3) (aCons (fVar 0) (aCons (fVar 1) (aCons (fCall minD (aCons (fC (.int 24)) (aCons (fVar 4) aNil))) (aCons (fVarB 2) (aCons (fVarB 3) aNil)))))))) [some (.dat (scr ns)), iD f, oS (dl Rb), oS b, iD 0, iD 0, none, none, none] = some (.next [some (.dat (scr ns)), iD f, oS (dl R), oS B, iD H, iD W, none, none, none]) := by
 have kb : Rb.length <= 2 /\ b.length <= 1 := by
  rcases bg with ⟨_, rfl, x, rfl, _⟩ | ⟨_, rfl, x, rfl, _⟩ | ⟨_, _, rfl, rfl⟩ <;> simp
 by_cases c8 : f = 8
 . obtain ⟨rfl, rfl⟩ : b = [] /\ Rb = [stL] := by
     rcases bg with ⟨h, _⟩ | ⟨h, _⟩ | ⟨_, _, h1, h2⟩
     . omega
     . omega
     . exact ⟨h1, h2⟩
   refine ⟨[stL], [.int 1], 0, 0, .inl ⟨1, rfl, fun E hE => ?_⟩, by simp, ?_⟩
   . obtain ⟨lE, kE⟩ := ln_E hE
     refine readX_nohour cE (s := stL) (R := E) (SD := storeD h0) (fun l hl => ?_) (by omega) rfl (rstore_eq h05) ?_
     . rcases List.mem_cons.mp hl with rfl | hl
       . exact ln_st
       . exact lE l hl
     . rcases hE with rfl | ⟨l, hl, rfl⟩
       . exact hours_gen (hs := []) (rest := []) (fun x hx => by cases hx) (by simp) (.inr (.inl rfl))
       . exact hours_gen (hs := []) (rest := [rowS l]) (fun x hx => by cases hx) (by simp) (.inr (.inr ⟨_, _, rfl, sh_end l hl⟩))
   . refine (gIf_b (eqc_d (a := f) rfl)).trans ?_
     rw [decide_eq_true c8, if_pos rfl]
     exact app_d (len_d (l := dl [stL]) rfl) (l := []) rfl (by simp)
 . obtain ⟨H, alt, d, eh, H1, Ha, Hb, d0, d1⟩ := hours_eq (ns := ns) (f := f) hl (R := Rb) (B := b) (by omega) (by omega)
   have H25 : H <= 25 := by
    by_cases c : f = 0
    . have := Ha c; omega
    . have := Hb c; omega
   obtain ⟨n, en, n0, n1, hn⟩ : ∃ n : Int, minD [.int 24, .int (H : Int)] = some (.dat (.int n)) /\ 1 <= n /\ n <= 24 /\ (f ≠ 0 -> n = H) := by
    by_cases c : (H : Int) < 24
    . exact ⟨H, by show some (PV.dat (.int (if (H : Int) < 24 then (H : Int) else 24))) = _; rw [if_pos c], by omega, by omega, fun _ => rfl⟩
    . exact ⟨24, by show some (PV.dat (.int (if (H : Int) < 24 then (H : Int) else 24))) = _; rw [if_neg c], by omega, by omega, fun z => by have := Hb z; omega⟩
   have kH : (gH f alt d H).length <= 2 * H := gG_len H
   have kB : (bH Rb.length f alt d H).length <= 2 * H := bG_len H
   obtain ⟨W, e, at_, av, bv, X, ew, D⟩ := works_eq (ns := ns) (f := f) (n := n) hl n0 n1 (R := Rb ++ gH f alt d H) (B := b ++ bH Rb.length f alt d H) (by rw [List.length_append]; omega) (by rw [List.length_append]; omega)
   have W7 : W <= 7 := by
    by_cases c : f = 2
    . have := D.w2 c; omega
    . have := D.w6 c; omega
   have kW : (gW f n at_ W e av bv X W).length <= 2 * W := gG_len W
   refine ⟨_, _, H, W, fin_all cE (alt := alt) bg H1 Ha Hb d0 d1 n0 n1 hn D, by rw [List.length_append, List.length_append]; omega, ?_⟩
   refine (gIf_b (eqc_d (a := f) rfl)).trans ?_
   rw [decide_eq_false c8, if_neg (by decide)]
   rw [sq_next5 (call2_d (l1 := dl Rb) (l2 := b) rfl rfl rfl eh)]
   refine call2_d (l1 := dl (Rb ++ gH f alt d H)) (l2 := b ++ bH Rb.length f alt d H) rfl rfl ?_ ew
   simp only [aCons, aNil, fVar, fVarB, fC, fCall, nxSet, List.set_cons_zero, List.set_cons_succ, List.getElem?_cons_zero, List.getElem?_cons_succ, Option.bind_some, PV.d_dat, PV.d_own, en]
theorem law_true : ∀ (cE : Addr) (ns : List Int), ns.length <= 63 -> F_law cE [.list (ns.map .int)] = some (.dat (.bool true)) := by
 intro cE ns hl
 obtain ⟨f, ef, f0, f1⟩ := draw_eq (ns := ns) (k := 0) (m := 20) hl (by decide) (by decide) (by decide)
 obtain ⟨Rb, b, eb, bg⟩ := begun_eq (ns := ns) (f := f) hl
 obtain ⟨R, B, H, W, fin, kR, eG⟩ := laid cE hl bg
 obtain ⟨u, eu, _, _⟩ := draw_eq (ns := ns) (k := 15) (m := 2) hl (by decide) (by decide) (by decide)
 obtain ⟨v, ev, v0, v1⟩ := draw_eq (ns := ns) (k := 16) (m := 3) hl (by decide) (by decide) (by decide)
 obtain ⟨l, hm, el⟩ : ∃ l ∈ endL, ixD (.list [.str (Str.ofString "end"), .str (Str.ofString "work A 1 0 0 1"), .str (Str.ofString "hour 1 1")]) (.int v) = some (.dat (tS l)) := by
  rcases (by omega : v = 0 \/ v = 1 \/ v = 2) with rfl | rfl | rfl
  . exact ⟨_, List.mem_cons_self, by rw [lit_e0]; rfl⟩
  . exact ⟨_, List.mem_cons_of_mem _ List.mem_cons_self, by rw [lit_e1]; rfl⟩
  . exact ⟨_, List.mem_cons_of_mem _ (List.mem_cons_of_mem _ List.mem_cons_self), by rw [lit_e2]; rfl⟩
 show F_law cE [scr ns] = _
 unfold F_law
 change (gSeq _ _ [some (.dat (scr ns)), none, none, none, none, none, none, none, none]).bind outV = _
 rw [sq_next5 (ds' := [some (.dat (scr ns)), iD f, none, none, none, none, none, none, none]) (by
  refine setD_eq5 (pv := .dat (.int f)) ?_
  simp only [fCall, aCons, aNil, fC, fVar, List.getElem?_cons_zero, Option.bind_some, PV.d_dat, ef])]
 rw [sq_next5 (ds' := [some (.dat (scr ns)), iD f, oS [], none, none, none, none, none, none]) rfl]
 rw [sq_next5 (ds' := [some (.dat (scr ns)), iD f, oS [], oS [], none, none, none, none, none]) rfl]
 rw [sq_next5 (call2_d (l1 := []) (l2 := []) rfl rfl rfl eb)]
 rw [sq_next5 (ds' := [some (.dat (scr ns)), iD f, oS (dl Rb), oS b, iD 0, none, none, none, none]) rfl]
 rw [sq_next5 (ds' := [some (.dat (scr ns)), iD f, oS (dl Rb), oS b, iD 0, iD 0, none, none, none]) rfl]
 rw [sq_next5 eG]
 obtain ⟨E, hE, hE2, e1⟩ : ∃ E, (E = [] \/ ∃ l ∈ endL, E = [l]) /\ (B = [] -> E = []) /\ (gIf (bAnd (bVal (fOp gtD (fFrz (fCall lenD (aCons (fVar 3) aNil))) (fFrz (fC (.int 0))))) (bVal (fOp eqDD (fCall F_l_draw (aCons (fVar 0) (aCons (fC (.int 15)) (aCons (fC (.int 2)) aNil)))) (fC (.int 0))))) (gApp 2 (fOp ixD (fLst (aCons (fC (.str "end")) (aCons (fC (.str "work A 1 0 0 1")) (aCons (fC (.str "hour 1 1")) aNil)))) (fCall F_l_draw (aCons (fVar 0) (aCons (fC (.int 16)) (aCons (fC (.int 3)) aNil)))))) gNext) [some (.dat (scr ns)), iD f, oS (dl R), oS B, iD H, iD W, none, none, none] = some (.next [some (.dat (scr ns)), iD f, oS (dl (R ++ E)), oS B, iD H, iD W, none, none, none]) := by
  have t2 : (bVal (fOp eqDD (fCall F_l_draw (aCons (fVar 0) (aCons (fC (.int 15)) (aCons (fC (.int 2)) aNil)))) (fC (.int 0)))) [some (.dat (scr ns)), iD f, oS (dl R), oS B, iD H, iD W, none, none, none] = some (decide (u = 0)) := by
   simp only [bVal, fOp, fCall, aCons, aNil, fC, fVar, List.getElem?_cons_zero, Option.bind_some, PV.d_dat, eu, eqDD_int, asB_bool]
  have tt := bAnd_d (pos_d (i := 3) (ds := [some (.dat (scr ns)), iD f, oS (dl R), oS B, iD H, iD W, none, none, none]) (l := B) rfl) t2
  by_cases c : B ≠ [] /\ u = 0
  . refine ⟨[l], .inr ⟨l, hm, rfl⟩, fun z => absurd z c.1, (gIf_b tt).trans ?_⟩
    rw [decide_eq_true c, if_pos rfl, dl_app]
    refine app_d (pv := .dat (tS l)) (l := dl R) ?_ rfl (by rw [dl_len]; omega)
    simp only [fOp, fLst, fCall, aCons, aNil, fC, fVar, List.getElem?_cons_zero, Option.bind_some, PV.d_dat, PV.d_own, ev]
    exact el
  . refine ⟨[], .inl rfl, fun _ => rfl, (gIf_b tt).trans ?_⟩
    rw [decide_eq_false c, if_neg (by decide), List.append_nil]
    rfl
 rw [sq_next5 e1]
 rw [sq_next5 (ds' := [some (.dat (scr ns)), iD f, oS (dl (R ++ E)), oS B, iD H, iD W, some (.dat .none), none, none]) rfl]
 rw [sq_next5 (ds' := [some (.dat (scr ns)), iD f, oS (dl (R ++ E)), oS B, iD H, iD W, some (.dat .none), some (.dat .none), none]) rfl]
 rcases fin with ⟨p, rfl, k⟩ | ⟨rfl, HD, SD, WD, k, kh, kw⟩
 . rw [sq_next5 (ds' := [some (.dat (scr ns)), iD f, oS (dl (R ++ E)), oS [.int (p : Int)], iD H, iD W, iD p, some (.dat .none), none]) (by
     have kk := k E hE
     generalize dl (R ++ E) = LL at *
     walk_at "w"
     rw [kk]
     walk_at "w")]
   have fin : (gIf (bVal (fOp gtD (fFrz (fCall lenD (aCons (fVar 3) aNil))) (fFrz (fC (.int 0))))) (gRet (fCall F_l_same (aCons (fVar 6) (aCons (fIxO 3 (fC (.int 0))) aNil)))) gNext) [some (.dat (scr ns)), iD f, oS (dl (R ++ E)), oS [.int (p : Int)], iD H, iD W, iD p, some (.dat .none), none] = some (.ret (.dat (.bool true))) := by
    refine (gIf_b (pos_d (l := [.int (p : Int)]) rfl)).trans ?_
    rw [decide_eq_true (by simp), if_pos rfl]
    generalize dl (R ++ E) = LL
    walk_at "w"
    rw [same7]
    rfl
   unfold gSeq
   rw [fin]
   rfl
 . have eE := hE2 rfl
   subst eE
   rw [List.append_nil]
   rw [sq_next5 (ds' := [some (.dat (scr ns)), iD f, oS (dl R), oS [], iD H, iD W, some (.dat .none), some (.dat (.tuple [.tuple HD, SD, .tuple WD])), none]) (by
    generalize dl R = LL at *
    walk_at "w"
    rw [k]
    walk_at "w")]
   rw [sq_next5 (ds' := [some (.dat (scr ns)), iD f, oS (dl R), oS [], iD H, iD W, some (.dat .none), some (.dat (.tuple [.tuple HD, SD, .tuple WD])), none]) ((gIf_b (pos_d (l := []) rfl)).trans (by rw [decide_eq_false (by simp)]; rfl))]
   generalize dl R = LL
   walk_at "w"
   rw [kh, kw]
   walk_at "w"
end Law
set_option maxHeartbeats 4000000
local macro_rules | `(tactic| walk_at "s") => `(tactic| simp only [L2.tSeq, L2.tAsg, L2.tIfS, L2.tRet, L2.tNext, L2.tOp, L2.tTest, L2.tB, L2.tNot, L2.tAnd, L2.tOr, L2.tAndV, L2.tOrV, L2.tNotV, L2.tUn, L2.tCB, L2.tCons, L2.tNil, L2.tVar, L2.tC, L2.tIf, L2.tCall, L2.tTup, L2.tLst, L2.tPar, L2.tSl, L2.tNoPart, L2.tPart, L2.tIfs0, L2.gName, L2.gTup, L2.gCons, L2.gNil, L2.rI, L2.rI0, L2.rU, L2.rEq, L2.rNe, L2.rIxL, L2.rIxT, L2.scal_int, L2.scal_str, L2.scal_bl, L2.start, L2.blkSt, L2.CDiv, L2.CMul, L2.CPow,
 L2.V.int.injEq, L2.V.ref.injEq, L2.V.bl.injEq, L2.V.str.injEq, L2.V.ty.injEq, List.cons.injEq, Option.some.injEq, reduceCtorEq, and_true, true_and, and_false, false_and, exists_eq_left, exists_eq_left', exists_and_left, L2.ex2, exists_false, exists_const, exists_eq', exists_eq, or_false, false_or,
 List.map_cons, List.map_nil, List.length_cons, List.length_nil, List.length_map, List.replicate, List.cons_append, List.nil_append, List.append_nil, List.set_cons_zero, List.set_cons_succ, List.getElem?_cons_zero, List.getElem?_cons_succ, List.length_append, List.length_singleton,
 decide_eq_true_eq, decide_eq_false_iff_not, Bool.not_eq_true', Bool.false_eq_true, if_true, if_false, ne_eq, not_true_eq_false, not_false_eq_true, Bool.not_true, Bool.not_false, decide_true, decide_false, Nat.reduceAdd, Nat.reduceSub, L2.isI, L2.tyOf, String.reduceBEq, Bool.true_or, Bool.false_or, Bool.or_true, Bool.or_false, Bool.and_true, Bool.true_and, Bool.and_false, Bool.false_and])
local macro_rules | `(tactic| walk_at "g") => `(tactic| repeat ((first | refine ⟨_, (by assumption), _, rfl, ?_⟩ | refine ⟨⟨(by assumption), (by assumption)⟩, ?_⟩); (try walk_at "s")))
local macro_rules | `(tactic| walk_at "i") => `(tactic| repeat ((refine ⟨_, (by assumption), (by assumption), ?_⟩); (try walk_at "s")))
namespace Law
open PySem L2
noncomputable def top (i : Nat) : Stmt := PySem.Challenge.pw_sunstore_k07_lines_by_what_stands_above.main.body.getD i (.Pass ⟨0, 0, 0, 0⟩)
noncomputable abbrev s_common_divisor : Stmt := top 7
theorem sc_common_divisor : FnScope ["one", "other", "rest"] ["one", "other"] (defScope s_common_divisor) := ⟨rfl, rfl, rfl, by decide +kernel, rfl, by decide +kernel, by decide +kernel⟩
noncomputable abbrev s_fraction : Stmt := top 8
theorem sc_fraction : FnScope ["top", "bottom", "divisor"] ["top", "bottom"] (defScope s_fraction) := ⟨rfl, rfl, rfl, by decide +kernel, rfl, by decide +kernel, by decide +kernel⟩
noncomputable abbrev s_figures_of : Stmt := top 9
theorem sc_figures_of : FnScope ["number", "piece", "pieces", "rest"] ["number"] (defScope s_figures_of) := ⟨rfl, rfl, rfl, by decide +kernel, rfl, by decide +kernel, by decide +kernel⟩
noncomputable abbrev s_written : Stmt := top 10
theorem sc_written : FnScope ["one", "text"] ["one"] (defScope s_written) := ⟨rfl, rfl, rfl, by decide +kernel, rfl, by decide +kernel, by decide +kernel⟩
noncomputable abbrev s_read_figures : Stmt := top 11
theorem sc_read_figures : FnScope ["text", "sign"] ["text"] (defScope s_read_figures) := ⟨rfl, rfl, rfl, by decide +kernel, rfl, by decide +kernel, by decide +kernel⟩
noncomputable abbrev s_read_signed : Stmt := top 12
theorem sc_read_signed : FnScope ["text", "number"] ["text"] (defScope s_read_signed) := ⟨rfl, rfl, rfl, by decide +kernel, rfl, by decide +kernel, by decide +kernel⟩
noncomputable abbrev s_read_fraction : Stmt := top 13
theorem sc_read_fraction : FnScope ["text", "parts", "top", "bottom", "one"] ["text"] (defScope s_read_fraction) := ⟨rfl, rfl, rfl, by decide +kernel, rfl, by decide +kernel, by decide +kernel⟩
noncomputable abbrev s_read_whole : Stmt := top 21
theorem sc_read_whole : FnScope ["word", "least", "one"] ["word", "least"] (defScope s_read_whole) := ⟨rfl, rfl, rfl, by decide +kernel, rfl, by decide +kernel, by decide +kernel⟩
noncomputable abbrev s_read_amount : Stmt := top 22
theorem sc_read_amount : FnScope ["word"] ["word"] (defScope s_read_amount) := ⟨rfl, rfl, rfl, by decide +kernel, rfl, by decide +kernel, by decide +kernel⟩
noncomputable abbrev s_read_price : Stmt := top 23
theorem sc_read_price : FnScope ["word"] ["word"] (defScope s_read_price) := ⟨rfl, rfl, rfl, by decide +kernel, rfl, by decide +kernel, by decide +kernel⟩
noncomputable abbrev s_read_share : Stmt := top 24
theorem sc_read_share : FnScope ["word", "one"] ["word"] (defScope s_read_share) := ⟨rfl, rfl, rfl, by decide +kernel, rfl, by decide +kernel, by decide +kernel⟩
noncomputable abbrev s_read_name : Stmt := top 25
theorem sc_read_name : FnScope ["word", "sign"] ["word"] (defScope s_read_name) := ⟨rfl, rfl, rfl, by decide +kernel, rfl, by decide +kernel, by decide +kernel⟩
noncomputable abbrev s_read_parts : Stmt := top 30
theorem sc_read_parts : FnScope ["words", "readers", "parts"] ["words", "readers"] (defScope s_read_parts) := ⟨rfl, rfl, rfl, by decide +kernel, rfl, by decide +kernel, by decide +kernel⟩
noncomputable abbrev s_read_store : Stmt := top 31
theorem sc_read_store : FnScope ["words", "store"] ["words"] (defScope s_read_store) := ⟨rfl, rfl, rfl, by decide +kernel, rfl, by decide +kernel, by decide +kernel⟩
noncomputable abbrev s_read_hour : Stmt := top 32
theorem sc_read_hour : FnScope ["words", "amounts", "line"] ["words"] (defScope s_read_hour) := ⟨rfl, rfl, rfl, by decide +kernel, rfl, by decide +kernel, by decide +kernel⟩
noncomputable abbrev s_read_work : Stmt := top 33
theorem sc_read_work : FnScope ["words", "hours", "work"] ["words", "hours"] (defScope s_read_work) := ⟨rfl, rfl, rfl, by decide +kernel, rfl, by decide +kernel, by decide +kernel⟩
noncomputable abbrev s_read_hours : Stmt := top 34
theorem sc_read_hours : FnScope ["rows", "hours", "words", "hour"] ["rows"] (defScope s_read_hours) := ⟨rfl, rfl, rfl, by decide +kernel, rfl, by decide +kernel, by decide +kernel⟩
noncomputable abbrev s_read_works : Stmt := top 35
theorem sc_read_works : FnScope ["rows", "hours", "works", "names", "words", "work"] ["rows", "hours"] (defScope s_read_works) := ⟨rfl, rfl, rfl, by decide +kernel, rfl, by decide +kernel, by decide +kernel⟩
noncomputable abbrev s_read : Stmt := top 36
theorem sc_read : FnScope ["lines", "rows", "store", "hours", "works", "place"] ["lines"] (defScope s_read) := ⟨rfl, rfl, rfl, by decide +kernel, rfl, by decide +kernel, by decide +kernel⟩
noncomputable abbrev s_l_draw : Stmt := top 38
theorem sc_l_draw : FnScope ["_law_script", "_law_k", "_law_many_here", "_law_cell", "_law_mixed"] ["_law_script", "_law_k", "_law_many_here"] (defScope s_l_draw) := ⟨rfl, rfl, rfl, by decide +kernel, rfl, by decide +kernel, by decide +kernel⟩
noncomputable abbrev s_l_same : Stmt := top 39
theorem sc_l_same : FnScope ["_law_found", "_law_due"] ["_law_found", "_law_due"] (defScope s_l_same) := ⟨rfl, rfl, rfl, by decide +kernel, rfl, by decide +kernel, by decide +kernel⟩
noncomputable abbrev s_l_many : Stmt := top 40
theorem sc_l_many : FnScope ["_law_script", "_law_k", "_law_most"] ["_law_script", "_law_k", "_law_most"] (defScope s_l_many) := ⟨rfl, rfl, rfl, by decide +kernel, rfl, by decide +kernel, by decide +kernel⟩
noncomputable abbrev s_l_work : Stmt := top 41
theorem sc_l_work : FnScope ["_law_script", "_law_j", "_law_hours_here", "_law_first", "_law_last"] ["_law_script", "_law_j", "_law_hours_here"] (defScope s_l_work) := ⟨rfl, rfl, rfl, by decide +kernel, rfl, by decide +kernel, by decide +kernel⟩
noncomputable abbrev s_l_hours : Stmt := top 42
theorem sc_l_hours : FnScope ["_law_script", "_law_fault", "_law_lines", "_law_bads", "_law_many_here", "_law_t"] ["_law_script", "_law_fault", "_law_lines", "_law_bads"] (defScope s_l_hours) := ⟨rfl, rfl, rfl, by decide +kernel, rfl, by decide +kernel, by decide +kernel⟩
noncomputable abbrev s_l_works : Stmt := top 43
theorem sc_l_works : FnScope ["_law_script", "_law_fault", "_law_hours_here", "_law_lines", "_law_bads", "_law_many_here", "_law_at", "_law_j", "_law_line"] ["_law_script", "_law_fault", "_law_hours_here", "_law_lines", "_law_bads"] (defScope s_l_works) := ⟨rfl, rfl, rfl, by decide +kernel, rfl, by decide +kernel, by decide +kernel⟩
noncomputable abbrev s_l_begun : Stmt := top 44
theorem sc_l_begun : FnScope ["_law_script", "_law_fault", "_law_lines", "_law_bads"] ["_law_script", "_law_fault", "_law_lines", "_law_bads"] (defScope s_l_begun) := ⟨rfl, rfl, rfl, by decide +kernel, rfl, by decide +kernel, by decide +kernel⟩
noncomputable abbrev s_law : Stmt := top 45
theorem sc_law : FnScope ["_law_script", "_law_fault", "_law_lines", "_law_bads", "_law_hours_here", "_law_works_here", "_law_place", "_law_found", "e"] ["_law_script"] (defScope s_law) := ⟨rfl, rfl, rfl, by decide +kernel, rfl, by decide +kernel, by decide +kernel⟩
noncomputable abbrev s_init : Stmt := inClass (top 3) 0
theorem sc_init : FnScope ["self", "place"] ["self", "place"] (defScope s_init) := ⟨rfl, rfl, rfl, by decide +kernel, rfl, by decide +kernel, by decide +kernel⟩
theorem bt_abs : bootBuiltins "abs" = some (.builtin "abs") := by decide +kernel
theorem bt_all : bootBuiltins "all" = some (.builtin "all") := by decide +kernel
theorem bt_bool : bootBuiltins "bool" = some (.type "bool") := by decide +kernel
theorem bt_int : bootBuiltins "int" = some (.type "int") := by decide +kernel
theorem bt_isinstance : bootBuiltins "isinstance" = some (.builtin "isinstance") := by decide +kernel
theorem bt_len : bootBuiltins "len" = some (.builtin "len") := by decide +kernel
theorem bt_list : bootBuiltins "list" = some (.type "list") := by decide +kernel
theorem bt_max : bootBuiltins "max" = some (.builtin "max") := by decide +kernel
theorem bt_min : bootBuiltins "min" = some (.builtin "min") := by decide +kernel
theorem bt_str : bootBuiltins "str" = some (.type "str") := by decide +kernel
theorem bt_tuple : bootBuiltins "tuple" = some (.type "tuple") := by decide +kernel
structure Ads where
 f_common_divisor : Addr
 fd_common_divisor : FuncData
 f_fraction : Addr
 fd_fraction : FuncData
 f_figures_of : Addr
 fd_figures_of : FuncData
 f_written : Addr
 fd_written : FuncData
 f_read_figures : Addr
 fd_read_figures : FuncData
 f_read_signed : Addr
 fd_read_signed : FuncData
 f_read_fraction : Addr
 fd_read_fraction : FuncData
 f_read_whole : Addr
 fd_read_whole : FuncData
 f_read_amount : Addr
 fd_read_amount : FuncData
 f_read_price : Addr
 fd_read_price : FuncData
 f_read_share : Addr
 fd_read_share : FuncData
 f_read_name : Addr
 fd_read_name : FuncData
 f_read_parts : Addr
 fd_read_parts : FuncData
 f_read_store : Addr
 fd_read_store : FuncData
 f_read_hour : Addr
 fd_read_hour : FuncData
 f_read_work : Addr
 fd_read_work : FuncData
 f_read_hours : Addr
 fd_read_hours : FuncData
 f_read_works : Addr
 fd_read_works : FuncData
 f_read : Addr
 fd_read : FuncData
 f_l_draw : Addr
 fd_l_draw : FuncData
 f_l_same : Addr
 fd_l_same : FuncData
 f_l_many : Addr
 fd_l_many : FuncData
 f_l_work : Addr
 fd_l_work : FuncData
 f_l_hours : Addr
 fd_l_hours : FuncData
 f_l_works : Addr
 fd_l_works : FuncData
 f_l_begun : Addr
 fd_l_begun : FuncData
 f_law : Addr
 fd_law : FuncData
 u_FIGURES : Value
 w_FIGURES : V
 u_HOUR_PARTS : Value
 w_HOUR_PARTS : V
 u_LETTERS : Value
 w_LETTERS : V
 u_LINE_PARTS : Value
 w_LINE_PARTS : V
 u_MOST_BOTTOM : Value
 w_MOST_BOTTOM : V
 u_MOST_FIGURES : Value
 w_MOST_FIGURES : V
 u_MOST_HOURS : Value
 w_MOST_HOURS : V
 u_MOST_LETTERS : Value
 w_MOST_LETTERS : V
 u_MOST_NUMBER : Value
 w_MOST_NUMBER : V
 u_MOST_WORKS : Value
 w_MOST_WORKS : V
 u_STORE_PARTS : Value
 w_STORE_PARTS : V
 u_WORK_PARTS : Value
 w_WORK_PARTS : V
 C_NoText : Addr
 C_StoreError : Addr
 f_init : Addr
 fd_init : FuncData
structure Txt (K : PySem.W.Frag) (mg : Str -> Option Value) (a : Ads) : Prop where
 F_common_divisor : Fun K "common_divisor" "common_divisor" s_common_divisor a.f_common_divisor a.fd_common_divisor
 m_common_divisor : mg "common_divisor" = some (.ref a.f_common_divisor)
 b_common_divisor : Binds K a.fd_common_divisor ["one", "other"] []
 F_fraction : Fun K "fraction" "fraction" s_fraction a.f_fraction a.fd_fraction
 m_fraction : mg "fraction" = some (.ref a.f_fraction)
 b_fraction : Binds K a.fd_fraction ["top", "bottom"] []
 F_figures_of : Fun K "figures_of" "figures_of" s_figures_of a.f_figures_of a.fd_figures_of
 m_figures_of : mg "figures_of" = some (.ref a.f_figures_of)
 b_figures_of : Binds K a.fd_figures_of ["number"] []
 F_written : Fun K "written" "written" s_written a.f_written a.fd_written
 m_written : mg "written" = some (.ref a.f_written)
 b_written : Binds K a.fd_written ["one"] []
 F_read_figures : Fun K "read_figures" "read_figures" s_read_figures a.f_read_figures a.fd_read_figures
 m_read_figures : mg "read_figures" = some (.ref a.f_read_figures)
 b_read_figures : Binds K a.fd_read_figures ["text"] []
 F_read_signed : Fun K "read_signed" "read_signed" s_read_signed a.f_read_signed a.fd_read_signed
 m_read_signed : mg "read_signed" = some (.ref a.f_read_signed)
 b_read_signed : Binds K a.fd_read_signed ["text"] []
 F_read_fraction : Fun K "read_fraction" "read_fraction" s_read_fraction a.f_read_fraction a.fd_read_fraction
 m_read_fraction : mg "read_fraction" = some (.ref a.f_read_fraction)
 b_read_fraction : Binds K a.fd_read_fraction ["text"] []
 F_read_whole : Fun K "read_whole" "read_whole" s_read_whole a.f_read_whole a.fd_read_whole
 m_read_whole : mg "read_whole" = some (.ref a.f_read_whole)
 b_read_whole : Binds K a.fd_read_whole ["word", "least"] []
 F_read_amount : Fun K "read_amount" "read_amount" s_read_amount a.f_read_amount a.fd_read_amount
 m_read_amount : mg "read_amount" = some (.ref a.f_read_amount)
 b_read_amount : Binds K a.fd_read_amount ["word"] []
 F_read_price : Fun K "read_price" "read_price" s_read_price a.f_read_price a.fd_read_price
 m_read_price : mg "read_price" = some (.ref a.f_read_price)
 b_read_price : Binds K a.fd_read_price ["word"] []
 F_read_share : Fun K "read_share" "read_share" s_read_share a.f_read_share a.fd_read_share
 m_read_share : mg "read_share" = some (.ref a.f_read_share)
 b_read_share : Binds K a.fd_read_share ["word"] []
 F_read_name : Fun K "read_name" "read_name" s_read_name a.f_read_name a.fd_read_name
 m_read_name : mg "read_name" = some (.ref a.f_read_name)
 b_read_name : Binds K a.fd_read_name ["word"] []
 F_read_parts : Fun K "read_parts" "read_parts" s_read_parts a.f_read_parts a.fd_read_parts
 m_read_parts : mg "read_parts" = some (.ref a.f_read_parts)
 b_read_parts : Binds K a.fd_read_parts ["words", "readers"] []
 F_read_store : Fun K "read_store" "read_store" s_read_store a.f_read_store a.fd_read_store
 m_read_store : mg "read_store" = some (.ref a.f_read_store)
 b_read_store : Binds K a.fd_read_store ["words"] []
 F_read_hour : Fun K "read_hour" "read_hour" s_read_hour a.f_read_hour a.fd_read_hour
 m_read_hour : mg "read_hour" = some (.ref a.f_read_hour)
 b_read_hour : Binds K a.fd_read_hour ["words"] []
 F_read_work : Fun K "read_work" "read_work" s_read_work a.f_read_work a.fd_read_work
 m_read_work : mg "read_work" = some (.ref a.f_read_work)
 b_read_work : Binds K a.fd_read_work ["words", "hours"] []
 F_read_hours : Fun K "read_hours" "read_hours" s_read_hours a.f_read_hours a.fd_read_hours
 m_read_hours : mg "read_hours" = some (.ref a.f_read_hours)
 b_read_hours : Binds K a.fd_read_hours ["rows"] []
 F_read_works : Fun K "read_works" "read_works" s_read_works a.f_read_works a.fd_read_works
 m_read_works : mg "read_works" = some (.ref a.f_read_works)
 b_read_works : Binds K a.fd_read_works ["rows", "hours"] []
 F_read : Fun K "read" "read" s_read a.f_read a.fd_read
 m_read : mg "read" = some (.ref a.f_read)
 b_read : Binds K a.fd_read ["lines"] []
 F_l_draw : Fun K "_law_draw" "_law_draw" s_l_draw a.f_l_draw a.fd_l_draw
 m_l_draw : mg "_law_draw" = some (.ref a.f_l_draw)
 b_l_draw : Binds K a.fd_l_draw ["_law_script", "_law_k", "_law_many_here"] []
 F_l_same : Fun K "_law_same" "_law_same" s_l_same a.f_l_same a.fd_l_same
 m_l_same : mg "_law_same" = some (.ref a.f_l_same)
 b_l_same : Binds K a.fd_l_same ["_law_found", "_law_due"] []
 F_l_many : Fun K "_law_many" "_law_many" s_l_many a.f_l_many a.fd_l_many
 m_l_many : mg "_law_many" = some (.ref a.f_l_many)
 b_l_many : Binds K a.fd_l_many ["_law_script", "_law_k", "_law_most"] []
 F_l_work : Fun K "_law_work" "_law_work" s_l_work a.f_l_work a.fd_l_work
 m_l_work : mg "_law_work" = some (.ref a.f_l_work)
 b_l_work : Binds K a.fd_l_work ["_law_script", "_law_j", "_law_hours_here"] []
 F_l_hours : Fun K "_law_hours" "_law_hours" s_l_hours a.f_l_hours a.fd_l_hours
 m_l_hours : mg "_law_hours" = some (.ref a.f_l_hours)
 b_l_hours : Binds K a.fd_l_hours ["_law_script", "_law_fault", "_law_lines", "_law_bads"] []
 F_l_works : Fun K "_law_works" "_law_works" s_l_works a.f_l_works a.fd_l_works
 m_l_works : mg "_law_works" = some (.ref a.f_l_works)
 b_l_works : Binds K a.fd_l_works ["_law_script", "_law_fault", "_law_hours_here", "_law_lines", "_law_bads"] []
 F_l_begun : Fun K "_law_begun" "_law_begun" s_l_begun a.f_l_begun a.fd_l_begun
 m_l_begun : mg "_law_begun" = some (.ref a.f_l_begun)
 b_l_begun : Binds K a.fd_l_begun ["_law_script", "_law_fault", "_law_lines", "_law_bads"] []
 F_law : Fun K "law" "law" s_law a.f_law a.fd_law
 m_law : mg "law" = some (.ref a.f_law)
 b_law : Binds K a.fd_law ["_law_script"] []
 g_read_amount : PySem.W.nsIn K mainGlobals "read_amount" = some (some (.ref a.f_read_amount))
 g_read_name : PySem.W.nsIn K mainGlobals "read_name" = some (some (.ref a.f_read_name))
 g_read_price : PySem.W.nsIn K mainGlobals "read_price" = some (some (.ref a.f_read_price))
 g_read_share : PySem.W.nsIn K mainGlobals "read_share" = some (some (.ref a.f_read_share))
 n_abs : mg "abs" = none
 n_all : mg "all" = none
 n_bool : mg "bool" = none
 n_int : mg "int" = none
 n_isinstance : mg "isinstance" = none
 n_len : mg "len" = none
 n_list : mg "list" = none
 n_max : mg "max" = none
 n_min : mg "min" = none
 n_range : mg "range" = none
 n_str : mg "str" = none
 n_tuple : mg "tuple" = none
 n_zip : mg "zip" = none
 xm_NoText : mg "NoText" = some (.ref a.C_NoText)
 xm_StoreError : mg "StoreError" = some (.ref a.C_StoreError)
 xK : ExcK K a.C_NoText a.C_StoreError a.f_init "place"
 xC : ExcC K a.C_NoText
 xk : PySem.W.keepIn K (.ref a.C_NoText) = true
 xF : Fun K "__init__" "NoText.__init__" s_init a.f_init a.fd_init
 xb : Binds K a.fd_init ["self", "place"] []
 v_FIGURES : mg "FIGURES" = some a.u_FIGURES /\ RelV a.w_FIGURES a.u_FIGURES /\ ∀ H, Dt K H a.w_FIGURES c_FIGURES
 v_HOUR_PARTS : mg "HOUR_PARTS" = some a.u_HOUR_PARTS /\ RelV a.w_HOUR_PARTS a.u_HOUR_PARTS /\ ∀ H, Dt K H a.w_HOUR_PARTS c_HOUR_PARTS
 v_LETTERS : mg "LETTERS" = some a.u_LETTERS /\ RelV a.w_LETTERS a.u_LETTERS /\ ∀ H, Dt K H a.w_LETTERS c_LETTERS
 v_LINE_PARTS : mg "LINE_PARTS" = some a.u_LINE_PARTS /\ RelV a.w_LINE_PARTS a.u_LINE_PARTS /\ ∀ H, Dt K H a.w_LINE_PARTS c_LINE_PARTS
 v_MOST_BOTTOM : mg "MOST_BOTTOM" = some a.u_MOST_BOTTOM /\ RelV a.w_MOST_BOTTOM a.u_MOST_BOTTOM /\ ∀ H, Dt K H a.w_MOST_BOTTOM c_MOST_BOTTOM
 v_MOST_FIGURES : mg "MOST_FIGURES" = some a.u_MOST_FIGURES /\ RelV a.w_MOST_FIGURES a.u_MOST_FIGURES /\ ∀ H, Dt K H a.w_MOST_FIGURES c_MOST_FIGURES
 v_MOST_HOURS : mg "MOST_HOURS" = some a.u_MOST_HOURS /\ RelV a.w_MOST_HOURS a.u_MOST_HOURS /\ ∀ H, Dt K H a.w_MOST_HOURS c_MOST_HOURS
 v_MOST_LETTERS : mg "MOST_LETTERS" = some a.u_MOST_LETTERS /\ RelV a.w_MOST_LETTERS a.u_MOST_LETTERS /\ ∀ H, Dt K H a.w_MOST_LETTERS c_MOST_LETTERS
 v_MOST_NUMBER : mg "MOST_NUMBER" = some a.u_MOST_NUMBER /\ RelV a.w_MOST_NUMBER a.u_MOST_NUMBER /\ ∀ H, Dt K H a.w_MOST_NUMBER c_MOST_NUMBER
 v_MOST_WORKS : mg "MOST_WORKS" = some a.u_MOST_WORKS /\ RelV a.w_MOST_WORKS a.u_MOST_WORKS /\ ∀ H, Dt K H a.w_MOST_WORKS c_MOST_WORKS
 v_STORE_PARTS : mg "STORE_PARTS" = some a.u_STORE_PARTS /\ RelV a.w_STORE_PARTS a.u_STORE_PARTS /\ ∀ H, Dt K H a.w_STORE_PARTS c_STORE_PARTS
 v_WORK_PARTS : mg "WORK_PARTS" = some a.u_WORK_PARTS /\ RelV a.w_WORK_PARTS a.u_WORK_PARTS /\ ∀ H, Dt K H a.w_WORK_PARTS c_WORK_PARTS
section
variable {P : Program} {w : World} {K : PySem.W.Frag} {mg : Str -> Option Value} {base : Heap} {ad : Ads}
theorem ok_common_divisor (T : Txt K mg ad) : FnOk P w K mg base CX0 1 ad.f_common_divisor ad.fd_common_divisor ["one", "other"] (spF K F_common_divisor) := by
 exact T.F_common_divisor.okF (k := 0) sc_common_divisor (by decide) fun cdv A outer s H E hr => ⟨_, (pssx_cons (psx_while (muAbs 1) PassesOwn.never (ptx_cmp (fr := true) (r := rNeX K) (op_neX hr.units) x_ne (nomark _) (px_var 1 (pv 1)) px_int) (pssx_cons (psx_setD (i := 2) sc_common_divisor.nd rfl (Or.inl rfl) (px_op op_modN x_mod (px_var 0 (pv 0)) (px_var 1 (pv 1)))) (pssx_cons (psx_setD (i := 0) sc_common_divisor.nd rfl (Or.inl rfl) (px_var 1 (pv 1))) (pssx_one (psx_setD (i := 1) sc_common_divisor.nd rfl (Or.inl rfl) (px_var 2 (pv 2))))))) (pssx_one (psx_retV 0 (pv 0))))⟩
theorem ok_fraction (T : Txt K mg ad) : FnOk P w K mg base CX0 2 ad.f_fraction ad.fd_fraction ["top", "bottom"] (spF K F_fraction) := by
 have G_common_divisor : FnOk P w K mg base CX0 1 _ _ _ (spF K F_common_divisor) := ok_common_divisor T
 exact T.F_fraction.okF (k := 1) sc_fraction (by decide) fun cdv A outer s H E hr => ⟨_, (pssx_cons (psx_if (ptx_cmp (fr := true) (r := rEqX K) (op_eqX hr.units) x_eq (nomark _) (px_var 1 (pv 1)) px_int) (pssx_one psx_never) pssx_nil) (pssx_cons (psx_setD (i := 2) sc_fraction.nd rfl (Or.inl rfl) (px_callK rfl G_common_divisor (hr.mono (by omega)) rfl T.m_common_divisor T.F_common_divisor.kp T.b_common_divisor pass0 (pax_cons (px_callB call_abs x_abs rfl T.n_abs bt_abs (pax_cons (px_var 0 (pv 0)) pax_nil)) (pax_cons (px_callB call_abs x_abs rfl T.n_abs bt_abs (pax_cons (px_var 1 (pv 1)) pax_nil)) pax_nil)))) (pssx_cons (psx_if (ptx_cmp (fr := true) op_lt x_lt (nomark _) (px_var 1 (pv 1)) px_int) (pssx_one (psx_setD (i := 2) sc_fraction.nd rfl (Or.inl rfl) (px_un un_neg x_neg (px_var 2 (pv 2))))) pssx_nil) (pssx_one (psx_ret (fr := true) (px_tup (pax_cons (px_op op_fdivB x_fdiv (px_var 0 (pv 0)) (px_var 2 (pv 2))) (pax_cons (px_op op_fdivB x_fdiv (px_var 1 (pv 1)) (px_var 2 (pv 2))) pax_nil))))))))⟩
theorem ok_figures_of (T : Txt K mg ad) : FnOk P w K mg base CX0 1 ad.f_figures_of ad.fd_figures_of ["number"] (spF K F_figures_of) := by
 exact T.F_figures_of.okF (k := 0) sc_figures_of (by decide) fun cdv A outer s H E hr => ⟨_, (pssx_cons (psx_setD (i := 1) sc_figures_of.nd rfl (Or.inl rfl) (px_op op_pow x_pow px_int px_int)) (pssx_cons (psx_set (i := 2) sc_figures_of.nd rfl (Or.inl rfl) (px_lst pax_nil)) (pssx_cons (psx_setD (i := 3) sc_figures_of.nd rfl (Or.inl rfl) (px_var 0 (pv 0))) (pssx_cons (psx_while (muAbs 3) PassesOwn.never (ptx_cmp (fr := true) op_ge x_ge (nomark _) (px_var 3 (pv 3)) (px_var 1 (pv 1))) (pssx_cons (psx_app 2 (pv 2) (px_smK (name := "zfill") (id := "str.zfill") rfl F.slot_str_zfill F.type_str_zfill mt_zfill x_zfill (fun _ _ _ h => zfillD_str h) (px_callTy call_str_int x_str rfl T.n_str bt_str (pax_cons (px_op op_modN x_mod (px_var 3 (pv 3)) (px_var 1 (pv 1))) pax_nil)) (pax_cons px_int pax_nil))) (pssx_one (psx_setD (i := 3) sc_figures_of.nd rfl (Or.inl rfl) (px_op op_fdivB x_fdiv (px_var 3 (pv 3)) (px_var 1 (pv 1))))))) (pssx_cons (psx_app 2 (pv 2) (px_callTy call_str_int x_str rfl T.n_str bt_str (pax_cons (px_var 3 (pv 3)) pax_nil))) (pssx_cons (psx_rev 2 (pv 2)) (pssx_one (psx_ret (fr := false) (px_frz (px_smK (name := "join") (id := "str.join") (r := rJoin K) rfl F.slot_str_join F.type_str_join mt_join x_join (fun _ _ _ h => joinD_str h) px_str (pax_cons (px_var 2 (pv 2)) pax_nil)))))))))))⟩
theorem ok_written (T : Txt K mg ad) : FnOk P w K mg base CX0 2 ad.f_written ad.fd_written ["one"] (spF K F_written) := by
 have G_figures_of : FnOk P w K mg base CX0 1 _ _ _ (spF K F_figures_of) := ok_figures_of T
 exact T.F_written.okF (k := 1) sc_written (by decide) fun cdv A outer s H E hr => ⟨_, (pssx_cons (psx_setD (i := 1) sc_written.nd rfl (Or.inl rfl) (px_callK rfl G_figures_of (hr.mono (by omega)) rfl T.m_figures_of T.F_figures_of.kp T.b_figures_of pass0 (pax_cons (px_callB call_abs x_abs rfl T.n_abs bt_abs (pax_cons (px_ix (r := rIx K) ix_seq x_ix (px_var 0 (pv 0)) px_int (fun _ _ => rfl)) pax_nil)) pax_nil))) (pssx_cons (psx_if (ptx_cmp (fr := true) op_lt x_lt (nomark _) (px_ix (r := rIx K) ix_seq x_ix (px_var 0 (pv 0)) px_int (fun _ _ => rfl)) px_int) (pssx_one (psx_setD (i := 1) sc_written.nd rfl (Or.inl rfl) (px_op (r := rAddX K) op_addX x_add px_str (px_var 1 (pv 1))))) pssx_nil) (pssx_cons (psx_if (ptx_cmp (fr := true) (r := rNeX K) (op_neX hr.units) x_ne (nomark _) (px_ix (r := rIx K) ix_seq x_ix (px_var 0 (pv 0)) px_int (fun _ _ => rfl)) px_int) (pssx_one (psx_setD (i := 1) sc_written.nd rfl (Or.inl rfl) (px_op (r := rAddX K) op_addX x_add (px_op (r := rAddX K) op_addX x_add (px_var 1 (pv 1)) px_str) (px_callK rfl G_figures_of (hr.mono (by omega)) rfl T.m_figures_of T.F_figures_of.kp T.b_figures_of pass0 (pax_cons (px_ix (r := rIx K) ix_seq x_ix (px_var 0 (pv 0)) px_int (fun _ _ => rfl)) pax_nil))))) pssx_nil) (pssx_one (psx_retV 1 (pv 1))))))⟩
theorem ok_read_figures (T : Txt K mg ad) : FnOk P w K mg base CX0 1 ad.f_read_figures ad.fd_read_figures ["text"] (spF K F_read_figures) := by
 exact T.F_read_figures.okF (k := 0) sc_read_figures (by decide) fun cdv A outer s H E hr => ⟨_, (pssx_cons (psx_if (PWX.pt (pwx_or (ptx_cmp (fr := true) (r := rEqX K) (op_eqX hr.units) x_eq (nomark _) (px_var 0 (pv 0)) px_str) (pwx_or1 (ptx_cmp (fr := true) op_gt x_gt (nomark _) (px_callB (r := rLen K) call_lenX x_len rfl T.n_len bt_len (pax_cons (px_var 0 (pv 0)) pax_nil)) (px_const rfl T.v_MOST_FIGURES))))) (pssx_one (psx_ret (fr := true) px_non)) pssx_nil) (pssx_cons (psx_for PassesOwn.never rfl (pix_any (px_var 0 (pv 0))) (pg_name (i := 1) sc_read_figures.nd rfl (Or.inl rfl)) tgx_name (pssx_one (psx_if (ptx_cmp (fr := true) (r := rInA K true) op_notInA x_notInA (by with_unfolding_all rfl) (px_var 1 (pv 1)) (px_const rfl T.v_FIGURES)) (pssx_one (psx_ret (fr := true) px_non)) pssx_nil))) (pssx_one (psx_ret (fr := true) (px_callTy (call_int1.or call_intS) (x_int.or x_intS) rfl T.n_int bt_int (pax_cons (px_var 0 (pv 0)) pax_nil))))))⟩
theorem ok_read_signed (T : Txt K mg ad) : FnOk P w K mg base CX0 2 ad.f_read_signed ad.fd_read_signed ["text"] (spF K F_read_signed) := by
 have G_read_figures : FnOk P w K mg base CX0 1 _ _ _ (spF K F_read_figures) := ok_read_figures T
 exact T.F_read_signed.okF (k := 1) sc_read_signed (by decide) fun cdv A outer s H E hr => ⟨_, (pssx_cons (psx_if (ptx_not (ptx_val (fr := true) (px_smK (name := "startswith") (id := "str.startswith") rfl F.slot_str_startswith F.type_str_startswith mt_starts x_starts (fun _ _ _ h => startsD_str h) (px_var 0 (pv 0)) (pax_cons px_str pax_nil)))) (pssx_one (psx_ret (fr := true) (px_callK rfl G_read_figures (hr.mono (by omega)) rfl T.m_read_figures T.F_read_figures.kp T.b_read_figures pass0 (pax_cons (px_var 0 (pv 0)) pax_nil)))) pssx_nil) (pssx_cons (psx_setD (i := 1) sc_read_signed.nd rfl (Or.inl rfl) (px_callK rfl G_read_figures (hr.mono (by omega)) rfl T.m_read_figures T.F_read_figures.kp T.b_read_figures pass0 (pax_cons (px_slice (r := rSlA K) sl_any x_slA (px_var 0 (pv 0)) (pox_some (fr := true) px_int) pox_none) pax_nil))) (pssx_cons (psx_if (ptx_cmp (fr := true) op_isN x_is (nomark _) (px_var 1 (pv 1)) px_non) (pssx_one (psx_ret (fr := true) px_non)) pssx_nil) (pssx_one (psx_ret (fr := true) (px_un un_neg x_neg (px_var 1 (pv 1))))))))⟩
theorem ok_read_fraction (T : Txt K mg ad) : FnOk P w K mg base CX0 3 ad.f_read_fraction ad.fd_read_fraction ["text"] (spF K F_read_fraction) := by
 have G_fraction : FnOk P w K mg base CX0 2 _ _ _ (spF K F_fraction) := ok_fraction T
 have G_read_figures : FnOk P w K mg base CX0 1 _ _ _ (spF K F_read_figures) := ok_read_figures T
 have G_read_signed : FnOk P w K mg base CX0 2 _ _ _ (spF K F_read_signed) := ok_read_signed T
 have G_written : FnOk P w K mg base CX0 2 _ _ _ (spF K F_written) := ok_written T
 exact T.F_read_fraction.okF (k := 2) sc_read_fraction (by decide) fun cdv A outer s H E hr => ⟨_, (pssx_cons (psx_setD (i := 1) sc_read_fraction.nd rfl (Or.inl rfl) (px_smK (name := "partition") (id := "str.partition") rfl F.slot_str_partition F.type_str_partition mt_part x_part (fun _ _ _ h => partD_str h) (px_var 0 (pv 0)) (pax_cons px_str pax_nil))) (pssx_cons (psx_setD (i := 2) sc_read_fraction.nd rfl (Or.inl rfl) (px_callK rfl G_read_signed (hr.mono (by omega)) rfl T.m_read_signed T.F_read_signed.kp T.b_read_signed pass0 (pax_cons (px_ix (r := rIx K) ix_seq x_ix (px_var 1 (pv 1)) px_int (fun _ _ => rfl)) pax_nil))) (pssx_cons (psx_setD (i := 3) sc_read_fraction.nd rfl (Or.inl rfl) px_int) (pssx_cons (psx_if (ptx_cmp (fr := true) (r := rEqX K) (op_eqX hr.units) x_eq (nomark _) (px_ix (r := rIx K) ix_seq x_ix (px_var 1 (pv 1)) px_int (fun _ _ => rfl)) px_str) (pssx_one (psx_setD (i := 3) sc_read_fraction.nd rfl (Or.inl rfl) (px_callK rfl G_read_figures (hr.mono (by omega)) rfl T.m_read_figures T.F_read_figures.kp T.b_read_figures pass0 (pax_cons (px_ix (r := rIx K) ix_seq x_ix (px_var 1 (pv 1)) px_int (fun _ _ => rfl)) pax_nil)))) pssx_nil) (pssx_cons (psx_if (PWX.pt (pwx_or (ptx_cmp (fr := true) op_isN x_is (nomark _) (px_var 2 (pv 2)) px_non) (pwx_or (ptx_cmp (fr := true) op_isN x_is (nomark _) (px_var 3 (pv 3)) px_non) (pwx_or1 (ptx_cmp (fr := true) (r := rEqX K) (op_eqX hr.units) x_eq (nomark _) (px_var 3 (pv 3)) px_int))))) (pssx_one (psx_ret (fr := true) px_non)) pssx_nil) (pssx_cons (psx_setD (i := 4) sc_read_fraction.nd rfl (Or.inl rfl) (px_callK rfl G_fraction (hr.mono (by omega)) rfl T.m_fraction T.F_fraction.kp T.b_fraction pass0 (pax_cons (px_var 2 (pv 2)) (pax_cons (px_var 3 (pv 3)) pax_nil)))) (pssx_cons (psx_if (ptx_cmp (fr := true) (r := rNeX K) (op_neX hr.units) x_ne (nomark _) (px_callK rfl G_written (hr.mono (by omega)) rfl T.m_written T.F_written.kp T.b_written pass0 (pax_cons (px_var 4 (pv 4)) pax_nil)) (px_var 0 (pv 0))) (pssx_one (psx_ret (fr := true) px_non)) pssx_nil) (pssx_one (psx_retV 4 (pv 4))))))))))⟩
theorem ok_read_whole (T : Txt K mg ad) : FnOk P w K mg base CX0 4 ad.f_read_whole ad.fd_read_whole ["word", "least"] (spF K F_read_whole) := by
 have G_read_fraction : FnOk P w K mg base CX0 3 _ _ _ (spF K F_read_fraction) := ok_read_fraction T
 exact T.F_read_whole.okF (k := 3) sc_read_whole (by decide) fun cdv A outer s H E hr => ⟨_, (pssx_cons (psx_setD (i := 2) sc_read_whole.nd rfl (Or.inl rfl) (px_callK rfl G_read_fraction (hr.mono (by omega)) rfl T.m_read_fraction T.F_read_fraction.kp T.b_read_fraction pass0 (pax_cons (px_var 0 (pv 0)) pax_nil))) (pssx_cons (psx_if (PWX.pt (pwx_or (ptx_cmp (fr := true) op_isN x_is (nomark _) (px_var 2 (pv 2)) px_non) (pwx_or (ptx_cmp (fr := true) (r := rNeX K) (op_neX hr.units) x_ne (nomark _) (px_ix (r := rIx K) ix_seq x_ix (px_var 2 (pv 2)) px_int (fun _ _ => rfl)) px_int) (pwx_or (ptx_cmp (fr := true) op_lt x_lt (nomark _) (px_ix (r := rIx K) ix_seq x_ix (px_var 2 (pv 2)) px_int (fun _ _ => rfl)) (px_var 1 (pv 1))) (pwx_or1 (ptx_cmp (fr := true) op_gt x_gt (nomark _) (px_ix (r := rIx K) ix_seq x_ix (px_var 2 (pv 2)) px_int (fun _ _ => rfl)) (px_const rfl T.v_MOST_NUMBER))))))) (pssx_one (psx_ret (fr := true) px_non)) pssx_nil) (pssx_one (psx_ret (fr := true) (px_ix (r := rIx K) ix_seq x_ix (px_var 2 (pv 2)) px_int (fun _ _ => rfl))))))⟩
theorem ok_read_amount (T : Txt K mg ad) : FnOk P w K mg base CX0 5 ad.f_read_amount ad.fd_read_amount ["word"] (spF K F_read_amount) := by
 have G_read_whole : FnOk P w K mg base CX0 4 _ _ _ (spF K F_read_whole) := ok_read_whole T
 exact T.F_read_amount.okF (k := 4) sc_read_amount (by decide) fun cdv A outer s H E hr => ⟨_, (pssx_one (psx_ret (fr := true) (px_callK rfl G_read_whole (hr.mono (by omega)) rfl T.m_read_whole T.F_read_whole.kp T.b_read_whole pass0 (pax_cons (px_var 0 (pv 0)) (pax_cons px_int pax_nil)))))⟩
theorem ok_read_price (T : Txt K mg ad) : FnOk P w K mg base CX0 5 ad.f_read_price ad.fd_read_price ["word"] (spF K F_read_price) := by
 have G_read_whole : FnOk P w K mg base CX0 4 _ _ _ (spF K F_read_whole) := ok_read_whole T
 exact T.F_read_price.okF (k := 4) sc_read_price (by decide) fun cdv A outer s H E hr => ⟨_, (pssx_one (psx_ret (fr := true) (px_callK rfl G_read_whole (hr.mono (by omega)) rfl T.m_read_whole T.F_read_whole.kp T.b_read_whole pass0 (pax_cons (px_var 0 (pv 0)) (pax_cons (px_un un_neg x_neg (px_const rfl T.v_MOST_NUMBER)) pax_nil)))))⟩
theorem ok_read_share (T : Txt K mg ad) : FnOk P w K mg base CX0 4 ad.f_read_share ad.fd_read_share ["word"] (spF K F_read_share) := by
 have G_read_fraction : FnOk P w K mg base CX0 3 _ _ _ (spF K F_read_fraction) := ok_read_fraction T
 exact T.F_read_share.okF (k := 3) sc_read_share (by decide) fun cdv A outer s H E hr => ⟨_, (pssx_cons (psx_setD (i := 1) sc_read_share.nd rfl (Or.inl rfl) (px_callK rfl G_read_fraction (hr.mono (by omega)) rfl T.m_read_fraction T.F_read_fraction.kp T.b_read_fraction pass0 (pax_cons (px_var 0 (pv 0)) pax_nil))) (pssx_cons (psx_if (PWX.pt (pwx_or (ptx_cmp (fr := true) op_isN x_is (nomark _) (px_var 1 (pv 1)) px_non) (pwx_or (ptx_cmp (fr := true) op_le x_le (nomark _) (px_ix (r := rIx K) ix_seq x_ix (px_var 1 (pv 1)) px_int (fun _ _ => rfl)) px_int) (pwx_or (ptx_cmp (fr := true) op_gt x_gt (nomark _) (px_ix (r := rIx K) ix_seq x_ix (px_var 1 (pv 1)) px_int (fun _ _ => rfl)) (px_ix (r := rIx K) ix_seq x_ix (px_var 1 (pv 1)) px_int (fun _ _ => rfl))) (pwx_or1 (ptx_cmp (fr := true) op_gt x_gt (nomark _) (px_ix (r := rIx K) ix_seq x_ix (px_var 1 (pv 1)) px_int (fun _ _ => rfl)) (px_const rfl T.v_MOST_BOTTOM))))))) (pssx_one (psx_ret (fr := true) px_non)) pssx_nil) (pssx_one (psx_retV 1 (pv 1)))))⟩
theorem ok_read_name (T : Txt K mg ad) : FnOk P w K mg base CX0 1 ad.f_read_name ad.fd_read_name ["word"] (spF K F_read_name) := by
 exact T.F_read_name.okF (k := 0) sc_read_name (by decide) fun cdv A outer s H E hr => ⟨_, (pssx_cons (psx_if (PWX.pt (pwx_or (ptx_cmp (fr := true) (r := rEqX K) (op_eqX hr.units) x_eq (nomark _) (px_var 0 (pv 0)) px_str) (pwx_or1 (ptx_cmp (fr := true) op_gt x_gt (nomark _) (px_callB (r := rLen K) call_lenX x_len rfl T.n_len bt_len (pax_cons (px_var 0 (pv 0)) pax_nil)) (px_const rfl T.v_MOST_LETTERS))))) (pssx_one (psx_ret (fr := true) px_non)) pssx_nil) (pssx_cons (psx_for PassesOwn.never rfl (pix_any (px_var 0 (pv 0))) (pg_name (i := 1) sc_read_name.nd rfl (Or.inl rfl)) tgx_name (pssx_one (psx_if (ptx_cmp (fr := true) (r := rInA K true) op_notInA x_notInA (by with_unfolding_all rfl) (px_var 1 (pv 1)) (px_const rfl T.v_LETTERS)) (pssx_one (psx_ret (fr := true) px_non)) pssx_nil))) (pssx_one (psx_retV 0 (pv 0)))))⟩
theorem ok_read_parts (T : Txt K mg ad) : FnOk P w K mg base CX0 6 ad.f_read_parts ad.fd_read_parts ["words", "readers"] (spF K F_read_parts) := by
 have G_read_amount : FnOk P w K mg base CX0 5 _ _ _ (spF K F_read_amount) := ok_read_amount T
 have G_read_name : FnOk P w K mg base CX0 1 _ _ _ (spF K F_read_name) := ok_read_name T
 have G_read_price : FnOk P w K mg base CX0 5 _ _ _ (spF K F_read_price) := ok_read_price T
 have G_read_share : FnOk P w K mg base CX0 4 _ _ _ (spF K F_read_share) := ok_read_share T
 exact T.F_read_parts.okF (k := 5) sc_read_parts (by decide) fun cdv A outer s H E hr => ⟨_, (pssx_cons (psx_if (ptx_cmp (fr := true) (r := rNeX K) (op_neX hr.units) x_ne (nomark _) (px_callB (r := rLen K) call_lenX x_len rfl T.n_len bt_len (pax_cons (px_var 0 (pv 0)) pax_nil)) (px_callB (r := rLen K) call_lenX x_len rfl T.n_len bt_len (pax_cons (px_var 1 (pv 1)) pax_nil))) (pssx_one (psx_ret (fr := true) px_non)) pssx_nil) (pssx_cons (psx_setCD (i := 2) (bs := ["reader", "word"]) (nb := ["words", "readers", "parts"]) sc_read_parts.nd rfl (Or.inl rfl) rfl (blk_of rfl) (pix_zip rfl T.n_zip (pax_cons (px_var 1 (pv 1)) (pax_cons (px_var 0 (pv 0)) pax_nil))) (gown_tup (gsown_name (i := 0) (gsown_name (i := 1) gsown_nil (by decide)) (by decide))) (fun _ _ _ _ _ _ => (pg_tup (n := 2) rfl (pgs_cons (pg_name (i := 0) (show List.Nodup (["reader", "word", "words", "readers", "parts"] : List Str) by decide +kernel) rfl (Or.inl rfl) (Or.inr rfl)) (pgs_cons (pg_name (i := 1) (show List.Nodup (["reader", "word", "words", "readers", "parts"] : List Str) by decide +kernel) rfl (Or.inl rfl) (Or.inr rfl)) pgs_nil)))) tgb_tup2 (fun _ _ _ _ _ _ => pifsx_nil) (fun _ _ _ _ _ _ => (px_alt (px_callV (i := 0) (nm := "read_amount") rfl T.g_read_amount (pv 0) G_read_amount (hr.mono (by omega)) T.F_read_amount.kp T.b_read_amount pass0 (pax_cons (px_var 1 (pv 1)) pax_nil)) (px_alt (px_callV (i := 0) (nm := "read_name") rfl T.g_read_name (pv 0) G_read_name (hr.mono (by omega)) T.F_read_name.kp T.b_read_name pass0 (pax_cons (px_var 1 (pv 1)) pax_nil)) (px_alt (px_callV (i := 0) (nm := "read_price") rfl T.g_read_price (pv 0) G_read_price (hr.mono (by omega)) T.F_read_price.kp T.b_read_price pass0 (pax_cons (px_var 1 (pv 1)) pax_nil)) (px_callV (i := 0) (nm := "read_share") rfl T.g_read_share (pv 0) G_read_share (hr.mono (by omega)) T.F_read_share.kp T.b_read_share pass0 (pax_cons (px_var 1 (pv 1)) pax_nil))))))) (pssx_cons (psx_if (ptx_cmp (fr := true) (r := rNoneIn K) (op_noneIn (in1_room hr.units)) x_noneIn (by with_unfolding_all rfl) px_non (px_var 2 (pv 2))) (pssx_one (psx_ret (fr := true) px_non)) pssx_nil) (pssx_one (psx_ret (fr := true) (px_callTy (r := rTupC K) call_tuple_of x_tuple rfl T.n_tuple bt_tuple (pax_cons (px_var 2 (pv 2)) pax_nil)))))))⟩
theorem ok_read_store (T : Txt K mg ad) : FnOk P w K mg base CX0 7 ad.f_read_store ad.fd_read_store ["words"] (spF K F_read_store) := by
 have G_read_parts : FnOk P w K mg base CX0 6 _ _ _ (spF K F_read_parts) := ok_read_parts T
 exact T.F_read_store.okF (k := 6) sc_read_store (by decide) fun cdv A outer s H E hr => ⟨_, (pssx_cons (psx_setD (i := 1) sc_read_store.nd rfl (Or.inl rfl) (px_callK rfl G_read_parts (hr.mono (by omega)) rfl T.m_read_parts T.F_read_parts.kp T.b_read_parts pass0 (pax_cons (px_slice (r := rSlA K) sl_any x_slA (px_var 0 (pv 0)) (pox_some (fr := true) px_int) pox_none) (pax_cons (px_const rfl T.v_STORE_PARTS) pax_nil)))) (pssx_cons (psx_if (PWX.pt (pwx_or (ptx_cmp (fr := true) (r := rNeX K) (op_neX hr.units) x_ne (nomark _) (px_ix (r := rIx K) ix_seq x_ix (px_var 0 (pv 0)) px_int (fun _ _ => rfl)) px_str) (pwx_or (ptx_cmp (fr := true) op_isN x_is (nomark _) (px_var 1 (pv 1)) px_non) (pwx_or1 (ptx_cmp (fr := true) op_gt x_gt (nomark _) (px_ix (r := rIx K) ix_seq x_ix (px_var 1 (pv 1)) px_int (fun _ _ => rfl)) (px_ix (r := rIx K) ix_seq x_ix (px_var 1 (pv 1)) px_int (fun _ _ => rfl))))))) (pssx_one (psx_ret (fr := true) px_non)) pssx_nil) (pssx_one (psx_retV 1 (pv 1)))))⟩
theorem ok_read_hour (T : Txt K mg ad) : FnOk P w K mg base CX0 7 ad.f_read_hour ad.fd_read_hour ["words"] (spF K F_read_hour) := by
 have G_read_parts : FnOk P w K mg base CX0 6 _ _ _ (spF K F_read_parts) := ok_read_parts T
 exact T.F_read_hour.okF (k := 6) sc_read_hour (by decide) fun cdv A outer s H E hr => ⟨_, (pssx_cons (psx_setD (i := 1) sc_read_hour.nd rfl (Or.inl rfl) (px_callK rfl G_read_parts (hr.mono (by omega)) rfl T.m_read_parts T.F_read_parts.kp T.b_read_parts pass0 (pax_cons (px_slice (r := rSlA K) sl_any x_slA (px_var 0 (pv 0)) (pox_some (fr := true) px_int) (pox_some (fr := true) px_int)) (pax_cons (px_const rfl T.v_HOUR_PARTS) pax_nil)))) (pssx_cons (psx_if (PWX.pt (pwx_or (ptx_cmp (fr := true) (r := rNeX K) (op_neX hr.units) x_ne (nomark _) (px_ix (r := rIx K) ix_seq x_ix (px_var 0 (pv 0)) px_int (fun _ _ => rfl)) px_str) (pwx_or1 (ptx_cmp (fr := true) op_isN x_is (nomark _) (px_var 1 (pv 1)) px_non)))) (pssx_one (psx_ret (fr := true) px_non)) pssx_nil) (pssx_cons (psx_if (ptx_cmp (fr := true) (r := rEqX K) (op_eqX hr.units) x_eq (nomark _) (px_slice (r := rSlA K) sl_any x_slA (px_var 0 (pv 0)) (pox_some (fr := true) px_int) pox_none) (px_lst (pax_cons px_str pax_nil))) (pssx_one (psx_ret (fr := true) (px_op (r := rAddX K) op_addX x_add (px_var 1 (pv 1)) (px_tup (pax_cons px_non pax_nil))))) pssx_nil) (pssx_cons (psx_setD (i := 2) sc_read_hour.nd rfl (Or.inl rfl) (px_callK rfl G_read_parts (hr.mono (by omega)) rfl T.m_read_parts T.F_read_parts.kp T.b_read_parts pass0 (pax_cons (px_slice (r := rSlA K) sl_any x_slA (px_var 0 (pv 0)) (pox_some (fr := true) px_int) pox_none) (pax_cons (px_const rfl T.v_LINE_PARTS) pax_nil)))) (pssx_cons (psx_if (PWX.pt (pwx_or (ptx_cmp (fr := true) (r := rNeX K) (op_neX hr.units) x_ne (nomark _) (px_slice (r := rSlA K) sl_any x_slA (px_var 0 (pv 0)) (pox_some (fr := true) px_int) (pox_some (fr := true) px_int)) (px_lst (pax_cons px_str pax_nil))) (pwx_or1 (ptx_cmp (fr := true) op_isN x_is (nomark _) (px_var 2 (pv 2)) px_non)))) (pssx_one (psx_ret (fr := true) px_non)) pssx_nil) (pssx_one (psx_ret (fr := true) (px_op (r := rAddX K) op_addX x_add (px_var 1 (pv 1)) (px_tup (pax_cons (px_var 2 (pv 2)) pax_nil))))))))))⟩
theorem ok_read_work (T : Txt K mg ad) : FnOk P w K mg base CX0 7 ad.f_read_work ad.fd_read_work ["words", "hours"] (spF K F_read_work) := by
 have G_read_parts : FnOk P w K mg base CX0 6 _ _ _ (spF K F_read_parts) := ok_read_parts T
 exact T.F_read_work.okF (k := 6) sc_read_work (by decide) fun cdv A outer s H E hr => ⟨_, (pssx_cons (psx_setD (i := 2) sc_read_work.nd rfl (Or.inl rfl) (px_callK rfl G_read_parts (hr.mono (by omega)) rfl T.m_read_parts T.F_read_parts.kp T.b_read_parts pass0 (pax_cons (px_slice (r := rSlA K) sl_any x_slA (px_var 0 (pv 0)) (pox_some (fr := true) px_int) pox_none) (pax_cons (px_const rfl T.v_WORK_PARTS) pax_nil)))) (pssx_cons (psx_if (PWX.pt (pwx_or (ptx_cmp (fr := true) (r := rNeX K) (op_neX hr.units) x_ne (nomark _) (px_ix (r := rIx K) ix_seq x_ix (px_var 0 (pv 0)) px_int (fun _ _ => rfl)) px_str) (pwx_or1 (ptx_cmp (fr := true) op_isN x_is (nomark _) (px_var 2 (pv 2)) px_non)))) (pssx_one (psx_ret (fr := true) px_non)) pssx_nil) (pssx_cons (psx_if (PWX.pt (pwx_or (ptx_cmp (fr := true) op_gt x_gt (nomark _) (px_ix (r := rIx K) ix_seq x_ix (px_var 2 (pv 2)) px_int (fun _ _ => rfl)) (px_ix (r := rIx K) ix_seq x_ix (px_var 2 (pv 2)) px_int (fun _ _ => rfl))) (pwx_or1 (ptx_cmp (fr := true) op_ge x_ge (nomark _) (px_ix (r := rIx K) ix_seq x_ix (px_var 2 (pv 2)) px_int (fun _ _ => rfl)) (px_var 1 (pv 1)))))) (pssx_one (psx_ret (fr := true) px_non)) pssx_nil) (pssx_one (psx_retV 2 (pv 2))))))⟩
theorem ok_read_hours (T : Txt K mg ad) : FnOk P w K mg base CX0 8 ad.f_read_hours ad.fd_read_hours ["rows"] (spF K F_read_hours) := by
 have G_read_hour : FnOk P w K mg base CX0 7 _ _ _ (spF K F_read_hour) := ok_read_hour T
 exact T.F_read_hours.okF (k := 7) sc_read_hours (by decide) fun cdv A outer s H E hr => ⟨_, (pssx_cons (psx_set (i := 1) sc_read_hours.nd rfl (Or.inl rfl) (px_lst pax_nil)) (pssx_cons (psx_for PassesOwn.never rfl (pix_any (px_slice (r := rSlA K) sl_any x_slA (px_var 0 (pv 0)) pox_none (pox_some (fr := true) (px_const rfl T.v_MOST_HOURS)))) (pg_name (i := 2) sc_read_hours.nd rfl (Or.inl rfl)) tgx_name (pssx_cons (psx_setD (i := 3) sc_read_hours.nd rfl (Or.inl rfl) (px_callK rfl G_read_hour (hr.mono (by omega)) rfl T.m_read_hour T.F_read_hour.kp T.b_read_hour pass0 (pax_cons (px_var 2 (pv 2)) pax_nil))) (pssx_cons (psx_if (ptx_cmp (fr := true) op_isN x_is (nomark _) (px_var 3 (pv 3)) px_non) (pssx_one (psx_retV 1 (pv 1))) pssx_nil) (pssx_one (psx_app 1 (pv 1) (px_var 3 (pv 3))))))) (pssx_one (psx_retV 1 (pv 1)))))⟩
theorem ok_read_works (T : Txt K mg ad) : FnOk P w K mg base CX0 8 ad.f_read_works ad.fd_read_works ["rows", "hours"] (spF K F_read_works) := by
 have G_read_work : FnOk P w K mg base CX0 7 _ _ _ (spF K F_read_work) := ok_read_work T
 exact T.F_read_works.okF (k := 7) sc_read_works (by decide) fun cdv A outer s H E hr => ⟨_, (pssx_cons (psx_set (i := 2) sc_read_works.nd rfl (Or.inl rfl) (px_lst pax_nil)) (pssx_cons (psx_set (i := 3) sc_read_works.nd rfl (Or.inl rfl) (px_lst pax_nil)) (pssx_cons (psx_for PassesOwn.never rfl (pix_any (px_slice (r := rSlA K) sl_any x_slA (px_var 0 (pv 0)) pox_none (pox_some (fr := true) (px_const rfl T.v_MOST_WORKS)))) (pg_name (i := 4) sc_read_works.nd rfl (Or.inl rfl)) tgx_name (pssx_cons (psx_setD (i := 5) sc_read_works.nd rfl (Or.inl rfl) (px_callK rfl G_read_work (hr.mono (by omega)) rfl T.m_read_work T.F_read_work.kp T.b_read_work pass0 (pax_cons (px_var 4 (pv 4)) (pax_cons (px_var 1 (pv 1)) pax_nil)))) (pssx_cons (psx_if (PWX.pt (pwx_or (ptx_cmp (fr := true) op_isN x_is (nomark _) (px_var 5 (pv 5)) px_non) (pwx_or1 (ptx_cmp (fr := false) (r := rInA K false) op_inA x_inA (by with_unfolding_all rfl) (px_frz (px_ix (r := rIx K) ix_seq x_ix (px_var 5 (pv 5)) px_int (fun _ _ => rfl))) (px_frz (px_var 3 (pv 3))))))) (pssx_one (psx_retV 2 (pv 2))) pssx_nil) (pssx_cons (psx_app 2 (pv 2) (px_var 5 (pv 5))) (pssx_one (psx_app 3 (pv 3) (px_ix (r := rIx K) ix_seq x_ix (px_var 5 (pv 5)) px_int (fun _ _ => rfl)))))))) (pssx_one (psx_retV 2 (pv 2))))))⟩
theorem ok_init (T : Txt K mg ad) : FnOk P w K mg base CX0 1 ad.f_init ad.fd_init ["self", "place"] (spInitP SmallV ad.C_NoText "place") := by
 refine T.xF.ok (k := 0) sc_init (fun vs H Q E h => ?_) fun cdv A outer s H vs Q E hr h => ⟨_, pss_cons (ps_expr (pe_baseInit T.xK rfl T.xm_StoreError (pa_cons (pv 0) (pa_cons (pe_fmt3 1 (pv 1) (by decide +kernel) (by decide +kernel)) pa_nil)) (pl := _))) (pss_one (ps_setE T.xK (pv 0) (pv 1))), ?_⟩
 . obtain ⟨ea, v, rfl, _⟩ := h
   rfl
 . obtain ⟨ea, v, rfl, ⟨i, rfl, hi⟩, hH, q⟩ := h
   exact ⟨.ref ea, rfl, i, rfl, hi, fun x => ⟨ea, _, none, rfl, hH, .int i, rfl, .ref ea, rfl, ea, rfl, hH, q⟩⟩
theorem okx_read (T : Txt K mg ad) : FnOk P w K mg base (CX1 P w) 9 ad.f_read ad.fd_read ["lines"] (spX K (FX_read ad.C_NoText)) := by
 have G_read_hours : FnOk P w K mg base CX0 8 _ _ _ (spF K F_read_hours) := ok_read_hours T
 have G_read_store : FnOk P w K mg base CX0 7 _ _ _ (spF K F_read_store) := ok_read_store T
 have G_read_works : FnOk P w K mg base CX0 8 _ _ _ (spF K F_read_works) := ok_read_works T
 have G_init : FnOk P w K mg base CX0 1 ad.f_init ad.fd_init ["self", "place"] (spInitP SmallV ad.C_NoText "place") := ok_init T
 exact T.F_read.okX (k := 8) sc_read (by decide) fun cdv A outer s H E hr => ⟨_, (pssx_cons (psx_setCD (i := 1) (bs := ["line"]) (nb := ["lines", "rows", "store", "hours", "works", "place"]) sc_read.nd rfl (Or.inl rfl) rfl (blk_of rfl) (pix_any (px_var 0 (pv 0))) (gown_name (by decide)) (fun _ _ _ _ _ _ => (pg_name (i := 0) (show List.Nodup (["line", "lines", "rows", "store", "hours", "works", "place"] : List Str) by decide +kernel) rfl (Or.inl rfl) (Or.inr rfl))) tgb_name (fun _ _ _ _ _ _ => pifsx_nil) (fun _ _ _ _ _ _ => (px_smK (name := "split") (id := "str.split") rfl F.slot_str_split F.type_str_split mt_split x_split (fun _ _ _ h => splitD_str h) (px_var 0 (pv 0)) (pax_cons px_str pax_nil)))) (pssx_cons (psx_setD (i := 2) sc_read.nd rfl (Or.inl rfl) (px_if (ptx_cmp (fr := true) (r := rEqX K) (op_eqX hr.units) x_eq (nomark _) (px_var 1 (pv 1)) (px_lst pax_nil)) px_non (px_callK rfl G_read_store (hr.mono (by omega)) rfl T.m_read_store T.F_read_store.kp T.b_read_store pass0 (pax_cons (px_ix (r := rIx K) ix_seq x_ix (px_var 1 (pv 1)) px_int (fun _ _ => rfl)) pax_nil)))) (pssx_cons (psx_if (ptx_cmp (fr := true) op_isN x_is (nomark _) (px_var 2 (pv 2)) px_non) (pssx_one (psx_raiseP (fr := true) small_dt T.xK T.xC G_init (hr.mono (by omega)) T.xb T.xk hr.hd rfl T.xm_NoText (pax_cons px_int pax_nil))) pssx_nil) (pssx_cons (psx_setD (i := 3) sc_read.nd rfl (Or.inl rfl) (px_callK rfl G_read_hours (hr.mono (by omega)) rfl T.m_read_hours T.F_read_hours.kp T.b_read_hours pass0 (pax_cons (px_slice (r := rSlA K) sl_any x_slA (px_var 1 (pv 1)) (pox_some (fr := true) px_int) pox_none) pax_nil))) (pssx_cons (psx_if (ptx_cmp (fr := true) (r := rEqX K) (op_eqX hr.units) x_eq (nomark _) (px_var 3 (pv 3)) (px_lst pax_nil)) (pssx_one (psx_raiseP (fr := true) small_dt T.xK T.xC G_init (hr.mono (by omega)) T.xb T.xk hr.hd rfl T.xm_NoText (pax_cons px_int pax_nil))) pssx_nil) (pssx_cons (psx_setD (i := 4) sc_read.nd rfl (Or.inl rfl) (px_callK rfl G_read_works (hr.mono (by omega)) rfl T.m_read_works T.F_read_works.kp T.b_read_works pass0 (pax_cons (px_slice (r := rSlA K) sl_any x_slA (px_var 1 (pv 1)) (pox_some (fr := true) (px_op (r := rAddX K) op_addX x_add px_int (px_callB (r := rLen K) call_lenX x_len rfl T.n_len bt_len (pax_cons (px_var 3 (pv 3)) pax_nil)))) pox_none) (pax_cons (px_callB (r := rLen K) call_lenX x_len rfl T.n_len bt_len (pax_cons (px_var 3 (pv 3)) pax_nil)) pax_nil)))) (pssx_cons (psx_setD (i := 5) sc_read.nd rfl (Or.inl rfl) (px_op (r := rAddX K) op_addX x_add (px_op (r := rAddX K) op_addX x_add px_int (px_callB (r := rLen K) call_lenX x_len rfl T.n_len bt_len (pax_cons (px_var 3 (pv 3)) pax_nil))) (px_callB (r := rLen K) call_lenX x_len rfl T.n_len bt_len (pax_cons (px_var 4 (pv 4)) pax_nil)))) (pssx_cons (psx_if (ptx_cmp (fr := true) op_lt x_lt (nomark _) (px_var 5 (pv 5)) (px_callB (r := rLen K) call_lenX x_len rfl T.n_len bt_len (pax_cons (px_var 1 (pv 1)) pax_nil))) (pssx_one (psx_raiseP (fr := true) small_dt T.xK T.xC G_init (hr.mono (by omega)) T.xb T.xk hr.hd rfl T.xm_NoText (pax_cons (px_var 5 (pv 5)) pax_nil))) pssx_nil) (pssx_one (psx_ret (fr := true) (px_tup (pax_cons (px_callTy (r := rTupC K) call_tuple_of x_tuple rfl T.n_tuple bt_tuple (pax_cons (px_var 3 (pv 3)) pax_nil)) (pax_cons (px_var 2 (pv 2)) (pax_cons (px_callTy (r := rTupC K) call_tuple_of x_tuple rfl T.n_tuple bt_tuple (pax_cons (px_var 4 (pv 4)) pax_nil)) pax_nil))))))))))))))⟩
theorem ok_l_draw (T : Txt K mg ad) : FnOk P w K mg base CX0 1 ad.f_l_draw ad.fd_l_draw ["_law_script", "_law_k", "_law_many_here"] (spF K F_l_draw) := by
 exact T.F_l_draw.okF (k := 0) sc_l_draw (by decide) fun cdv A outer s H E hr => ⟨_, (pssx_cons (psx_setD (i := 3) sc_l_draw.nd rfl (Or.inl rfl) px_int) (pssx_cons (psx_if (ptx_cmp (fr := true) op_gt x_gt (nomark _) (px_callB (r := rLen K) call_lenX x_len rfl T.n_len bt_len (pax_cons (px_var 0 (pv 0)) pax_nil)) px_int) (pssx_cons (psx_setD (i := 3) sc_l_draw.nd rfl (Or.inl rfl) (px_ix (r := rIx K) ix_seq x_ix (px_var 0 (pv 0)) (px_op op_modN x_mod (px_var 1 (pv 1)) (px_callB (r := rLen K) call_lenX x_len rfl T.n_len bt_len (pax_cons (px_var 0 (pv 0)) pax_nil))) (fun _ _ => rfl))) (pssx_one (psx_if (ptx_cmp (fr := true) (r := rEqX K) (op_eqX hr.units) x_eq (nomark _) (px_op op_modN x_mod (px_ix (r := rIx K) ix_seq x_ix (px_var 0 (pv 0)) px_int (fun _ _ => rfl)) px_int) px_int) (pssx_one (psx_ret (fr := true) (px_op op_modN x_mod (px_op op_modN x_mod (px_op op_shr x_shr (px_op op_fdivB x_fdiv (px_var 3 (pv 3)) px_int) (px_op op_mulB x_mul px_int (px_op op_fdivB x_fdiv (px_var 1 (pv 1)) (px_callB (r := rLen K) call_lenX x_len rfl T.n_len bt_len (pax_cons (px_var 0 (pv 0)) pax_nil))))) px_int) (px_var 2 (pv 2))))) pssx_nil))) pssx_nil) (pssx_cons (psx_setD (i := 4) sc_l_draw.nd rfl (Or.inl rfl) (px_op op_modN x_mod (px_op (r := rAddX K) op_addX x_add (px_op op_mulB x_mul (px_op op_modN x_mod (px_var 3 (pv 3)) px_int) px_int) (px_op op_mulB x_mul (px_op op_mulB x_mul (px_op (r := rAddX K) op_addX x_add (px_var 1 (pv 1)) px_int) (px_op (r := rAddX K) op_addX x_add (px_var 1 (pv 1)) px_int)) px_int)) px_int)) (pssx_one (psx_ret (fr := true) (px_op op_modN x_mod (px_op op_modN x_mod (px_op op_mulB x_mul (px_var 4 (pv 4)) (px_op (r := rAddX K) op_addX x_add (px_var 4 (pv 4)) px_int)) px_int) (px_var 2 (pv 2))))))))⟩
theorem okN_l_same (T : Txt K mg ad) : ∀ n, FnOk P w K mg base CX0 (n + 1) ad.f_l_same ad.fd_l_same ["_law_found", "_law_due"] (spF K (N_l_same n))
 | 0 => ⟨fun vs H Q E h => (by obtain ⟨_, _, _, _, _, h, _⟩ := h; cases h), fun A outer s H args us vs Q E _ _ _ _ h => (by obtain ⟨_, _, _, _, _, h, _⟩ := h; cases h)⟩
 | n + 1 => by
  have G_l_same : FnOk P w K mg base CX0 (n + 1) _ _ _ (spF K (N_l_same n)) := okN_l_same T n
  exact T.F_l_same.okF (k := n + 1) sc_l_same (by decide) fun cdv A outer s H E hr => ⟨_, (pssx_cons (psx_if (PWX.pt (pwx_or (ptx_val (fr := true) (px_isinK rfl five_tuple rfl T.n_isinstance bt_isinstance (px_var 1 (pv 1)) (pe_bltn (v := .ty "tuple") rfl T.n_tuple bt_tuple rfl))) (pwx_or1 (ptx_val (fr := true) (px_isinK rfl five_list rfl T.n_isinstance bt_isinstance (px_var 1 (pv 1)) (pe_bltn (v := .ty "list") rfl T.n_list bt_list rfl)))))) (pssx_cons (psx_if (PWX.pt (pwx_or (ptx_cmp (fr := true) (r := rNeX K) (op_neX hr.units) x_ne (nomark _) (px_isinK rfl five_tuple rfl T.n_isinstance bt_isinstance (px_var 0 (pv 0)) (pe_bltn (v := .ty "tuple") rfl T.n_tuple bt_tuple rfl)) (px_isinK rfl five_tuple rfl T.n_isinstance bt_isinstance (px_var 1 (pv 1)) (pe_bltn (v := .ty "tuple") rfl T.n_tuple bt_tuple rfl))) (pwx_or1 (ptx_cmp (fr := true) (r := rNeX K) (op_neX hr.units) x_ne (nomark _) (px_isinK rfl five_list rfl T.n_isinstance bt_isinstance (px_var 0 (pv 0)) (pe_bltn (v := .ty "list") rfl T.n_list bt_list rfl)) (px_isinK rfl five_list rfl T.n_isinstance bt_isinstance (px_var 1 (pv 1)) (pe_bltn (v := .ty "list") rfl T.n_list bt_list rfl)))))) (pssx_one (psx_ret (fr := true) px_bl)) pssx_nil) (pssx_one (psx_ret (fr := true) (px_and (px_cmp (r := rEqX K) (op_eqX hr.units) x_eq (nomark _) (px_callB (r := rLen K) call_lenX x_len rfl T.n_len bt_len (pax_cons (px_var 0 (pv 0)) pax_nil)) (px_callB (r := rLen K) call_lenX x_len rfl T.n_len bt_len (pax_cons (px_var 1 (pv 1)) pax_nil))) (px_one (px_callB (r := rAllC K) (call_allX hr.hd) x_allX rfl T.n_all bt_all (pax_cons (px_comp (bs := ["_law_one", "_law_other"]) (nb := ["_law_found", "_law_due"]) rfl (blk_of rfl) (pix_zip rfl T.n_zip (pax_cons (px_var 0 (pv 0)) (pax_cons (px_var 1 (pv 1)) pax_nil))) (gown_tup (gsown_name (i := 0) (gsown_name (i := 1) gsown_nil (by decide)) (by decide))) (fun _ _ _ _ _ _ => (pg_tup (n := 2) rfl (pgs_cons (pg_name (i := 0) (show List.Nodup (["_law_one", "_law_other", "_law_found", "_law_due"] : List Str) by decide +kernel) rfl (Or.inl rfl) (Or.inr rfl)) (pgs_cons (pg_name (i := 1) (show List.Nodup (["_law_one", "_law_other", "_law_found", "_law_due"] : List Str) by decide +kernel) rfl (Or.inl rfl) (Or.inr rfl)) pgs_nil)))) tgb_tup2 (fun _ _ _ _ _ _ => pifsx_nil) (fun _ _ _ _ _ _ => (px_callK rfl G_l_same (hr.mono (by omega)) rfl T.m_l_same T.F_l_same.kp T.b_l_same pass0 (pax_cons (px_var 0 (pv 0)) (pax_cons (px_var 1 (pv 1)) pax_nil))))) pax_nil))))))) pssx_nil) (pssx_cons (psx_if (PWX.pt (pwx_or (ptx_val (fr := true) (px_isinK rfl five_bool rfl T.n_isinstance bt_isinstance (px_var 1 (pv 1)) (pe_bltn (v := .ty "bool") rfl T.n_bool bt_bool rfl))) (pwx_or1 (ptx_val (fr := true) (px_isinK rfl five_bool rfl T.n_isinstance bt_isinstance (px_var 0 (pv 0)) (pe_bltn (v := .ty "bool") rfl T.n_bool bt_bool rfl)))))) (pssx_one (psx_ret (fr := true) (px_and (px_isinK rfl five_bool rfl T.n_isinstance bt_isinstance (px_var 1 (pv 1)) (pe_bltn (v := .ty "bool") rfl T.n_bool bt_bool rfl)) (px_and (px_isinK rfl five_bool rfl T.n_isinstance bt_isinstance (px_var 0 (pv 0)) (pe_bltn (v := .ty "bool") rfl T.n_bool bt_bool rfl)) (px_one (px_cmp (r := rEqX K) (op_eqX hr.units) x_eq (nomark _) (px_var 0 (pv 0)) (px_var 1 (pv 1)))))))) pssx_nil) (pssx_cons (psx_if (ptx_val (fr := true) (px_isinK rfl five_int rfl T.n_isinstance bt_isinstance (px_var 1 (pv 1)) (pe_bltn (v := .ty "int") rfl T.n_int bt_int rfl))) (pssx_one (psx_ret (fr := true) (px_and (px_isinK rfl five_int rfl T.n_isinstance bt_isinstance (px_var 0 (pv 0)) (pe_bltn (v := .ty "int") rfl T.n_int bt_int rfl)) (px_one (px_cmp (r := rEqX K) (op_eqX hr.units) x_eq (nomark _) (px_var 0 (pv 0)) (px_var 1 (pv 1))))))) pssx_nil) (pssx_cons (psx_if (ptx_cmp (fr := true) op_isN x_is (nomark _) (px_var 1 (pv 1)) px_non) (pssx_one (psx_ret (fr := true) (px_cmp op_isN x_is (nomark _) (px_var 0 (pv 0)) px_non))) pssx_nil) (pssx_one (psx_ret (fr := true) (px_and (px_isinK rfl five_str rfl T.n_isinstance bt_isinstance (px_var 0 (pv 0)) (pe_bltn (v := .ty "str") rfl T.n_str bt_str rfl)) (px_one (px_cmp (r := rEqX K) (op_eqX hr.units) x_eq (nomark _) (px_var 0 (pv 0)) (px_var 1 (pv 1)))))))))))⟩
theorem ok_l_same (T : Txt K mg ad) : FnOk P w K mg base CX0 3 ad.f_l_same ad.fd_l_same ["_law_found", "_law_due"] (spF K F_l_same) := okN_l_same T 2
theorem ok_l_many (T : Txt K mg ad) : FnOk P w K mg base CX0 2 ad.f_l_many ad.fd_l_many ["_law_script", "_law_k", "_law_most"] (spF K F_l_many) := by
 have G_l_draw : FnOk P w K mg base CX0 1 _ _ _ (spF K F_l_draw) := ok_l_draw T
 exact T.F_l_many.okF (k := 1) sc_l_many (by decide) fun cdv A outer s H E hr => ⟨_, (pssx_cons (psx_if (ptx_cmp (fr := true) (r := rEqX K) (op_eqX hr.units) x_eq (nomark _) (px_callK rfl G_l_draw (hr.mono (by omega)) rfl T.m_l_draw T.F_l_draw.kp T.b_l_draw pass0 (pax_cons (px_var 0 (pv 0)) (pax_cons (px_var 1 (pv 1)) (pax_cons px_int pax_nil)))) px_int) (pssx_one (psx_retV 2 (pv 2))) pssx_nil) (pssx_one (psx_ret (fr := true) (px_callK rfl G_l_draw (hr.mono (by omega)) rfl T.m_l_draw T.F_l_draw.kp T.b_l_draw pass0 (pax_cons (px_var 0 (pv 0)) (pax_cons (px_op (r := rAddX K) op_addX x_add (px_var 1 (pv 1)) px_int) (pax_cons (px_op (r := rAddX K) op_addX x_add (px_var 2 (pv 2)) px_int) pax_nil)))))))⟩
theorem ok_l_work (T : Txt K mg ad) : FnOk P w K mg base CX0 2 ad.f_l_work ad.fd_l_work ["_law_script", "_law_j", "_law_hours_here"] (spF K F_l_work) := by
 have G_l_draw : FnOk P w K mg base CX0 1 _ _ _ (spF K F_l_draw) := ok_l_draw T
 exact T.F_l_work.okF (k := 1) sc_l_work (by decide) fun cdv A outer s H E hr => ⟨_, (pssx_cons (psx_setD (i := 3) sc_l_work.nd rfl (Or.inl rfl) (px_callK rfl G_l_draw (hr.mono (by omega)) rfl T.m_l_draw T.F_l_draw.kp T.b_l_draw pass0 (pax_cons (px_var 0 (pv 0)) (pax_cons (px_op (r := rAddX K) op_addX x_add px_int (px_op op_mulB x_mul px_int (px_var 1 (pv 1)))) (pax_cons (px_var 2 (pv 2)) pax_nil))))) (pssx_cons (psx_setD (i := 4) sc_l_work.nd rfl (Or.inl rfl) (px_op (r := rAddX K) op_addX x_add (px_var 3 (pv 3)) (px_callK rfl G_l_draw (hr.mono (by omega)) rfl T.m_l_draw T.F_l_draw.kp T.b_l_draw pass0 (pax_cons (px_var 0 (pv 0)) (pax_cons (px_op (r := rAddX K) op_addX x_add px_int (px_op op_mulB x_mul px_int (px_var 1 (pv 1)))) (pax_cons (px_op op_sub x_sub (px_var 2 (pv 2)) (px_var 3 (pv 3))) pax_nil)))))) (pssx_one (psx_ret (fr := true) (px_op (r := rAddX K) op_addX x_add (px_op (r := rAddX K) op_addX x_add (px_op (r := rAddX K) op_addX x_add (px_op (r := rAddX K) op_addX x_add (px_op (r := rAddX K) op_addX x_add (px_op (r := rAddX K) op_addX x_add px_str (px_ix (r := rIx K) ix_seq x_ix px_str (px_var 1 (pv 1)) (fun _ _ => rfl))) px_str) (px_callTy call_str_int x_str rfl T.n_str bt_str (pax_cons (px_var 3 (pv 3)) pax_nil))) px_str) (px_callTy call_str_int x_str rfl T.n_str bt_str (pax_cons (px_var 4 (pv 4)) pax_nil))) px_str)))))⟩
theorem ok_l_hours (T : Txt K mg ad) : FnOk P w K mg base CX0 3 ad.f_l_hours ad.fd_l_hours ["_law_script", "_law_fault", "_law_lines", "_law_bads"] (spIO2 K (2, 3) F_l_hours) := by
 have G_l_draw : FnOk P w K mg base CX0 1 _ _ _ (spF K F_l_draw) := ok_l_draw T
 have G_l_many : FnOk P w K mg base CX0 2 _ _ _ (spF K F_l_many) := ok_l_many T
 exact T.F_l_hours.okIO2 (k := 2) sc_l_hours (by decide) (by decide) fun cdv A outer s H E hr => ⟨_, (pio2_cons (psj_setD (j := 4) sc_l_hours.nd rfl (Or.inl rfl) (px_callB (call_max2 rfl) x_max rfl T.n_max bt_max (pax_cons px_int (pax_cons (px_callK rfl G_l_many (hr.mono (by omega)) rfl T.m_l_many T.F_l_many.kp T.b_l_many pass0 (pax_cons (px_var 0 (pv 0)) (pax_cons px_int (pax_cons px_int pax_nil)))) pax_nil)))) (pio2_cons (psj_if (ptx_cmp (fr := true) (r := rEqX K) (op_eqX hr.units) x_eq (nomark _) (px_var 1 (pv 1)) px_int) (pssj_one (psj_setD (j := 4) sc_l_hours.nd rfl (Or.inl rfl) px_int)) pssj_nil) (pio2_cons (psj_for PassesOwn.never rfl (pix_range1 rfl T.n_range (pax_cons (px_var 4 (pv 4)) pax_nil)) (pg_name (i := 5) sc_l_hours.nd rfl (Or.inl rfl)) (pssj_cons (psj_if (ptx_cmp (fr := true) (r := rEqX K) (op_eqX hr.units) x_eq (nomark _) (px_var 5 (pv 5)) px_int) (pssj_one (psj_app 3 (pv 3) (px_flat (px_frz (px_callB (r := rLen K) call_lenX x_len rfl T.n_len bt_len (pax_cons (px_var 2 (pv 2)) pax_nil)))))) pssj_nil) (pssj_cons (psj_app 2 (pv 2) (px_ix (r := rIx K) ix_seq x_ix (px_lst (pax_cons px_str (pax_cons px_str pax_nil))) (px_op op_modN x_mod (px_op (r := rAddX K) op_addX x_add (px_var 5 (pv 5)) (px_callK rfl G_l_draw (hr.mono (by omega)) rfl T.m_l_draw T.F_l_draw.kp T.b_l_draw pass0 (pax_cons (px_var 0 (pv 0)) (pax_cons px_int (pax_cons px_int pax_nil))))) px_int) (fun _ _ => rfl))) (pssj_one (psj_if (PWX.pt (pwx_and (ptx_cmp (fr := true) (r := rEqX K) (op_eqX hr.units) x_eq (nomark _) (px_var 1 (pv 1)) px_int) (pwx_and1 (ptx_cmp (fr := true) (r := rEqX K) (op_eqX hr.units) x_eq (nomark _) (px_var 5 (pv 5)) (px_callK rfl G_l_draw (hr.mono (by omega)) rfl T.m_l_draw T.F_l_draw.kp T.b_l_draw pass0 (pax_cons (px_var 0 (pv 0)) (pax_cons px_int (pax_cons (px_var 4 (pv 4)) pax_nil)))))))) (pssj_cons (psj_app 3 (pv 3) (px_flat (px_frz (px_callB (r := rLen K) call_lenX x_len rfl T.n_len bt_len (pax_cons (px_var 2 (pv 2)) pax_nil))))) (pssj_one (psj_app 2 (pv 2) px_str))) pssj_nil))))) (pio2_ret (px_var 4 (pv 4))))))⟩
theorem ok_l_works (T : Txt K mg ad) : FnOk P w K mg base CX0 3 ad.f_l_works ad.fd_l_works ["_law_script", "_law_fault", "_law_hours_here", "_law_lines", "_law_bads"] (spIO2 K (3, 4) F_l_works) := by
 have G_l_draw : FnOk P w K mg base CX0 1 _ _ _ (spF K F_l_draw) := ok_l_draw T
 have G_l_many : FnOk P w K mg base CX0 2 _ _ _ (spF K F_l_many) := ok_l_many T
 have G_l_work : FnOk P w K mg base CX0 2 _ _ _ (spF K F_l_work) := ok_l_work T
 exact T.F_l_works.okIO2 (k := 2) sc_l_works (by decide) (by decide) fun cdv A outer s H E hr => ⟨_, (pio2_cons (psj_setD (j := 5) sc_l_works.nd rfl (Or.inl rfl) (px_callK rfl G_l_many (hr.mono (by omega)) rfl T.m_l_many T.F_l_many.kp T.b_l_many pass0 (pax_cons (px_var 0 (pv 0)) (pax_cons px_int (pax_cons px_int pax_nil))))) (pio2_cons (psj_if (ptx_cmp (fr := true) (r := rEqX K) (op_eqX hr.units) x_eq (nomark _) (px_var 1 (pv 1)) px_int) (pssj_one (psj_setD (j := 5) sc_l_works.nd rfl (Or.inl rfl) px_int)) pssj_nil) (pio2_cons (psj_setD (j := 6) sc_l_works.nd rfl (Or.inl rfl) (px_callK rfl G_l_draw (hr.mono (by omega)) rfl T.m_l_draw T.F_l_draw.kp T.b_l_draw pass0 (pax_cons (px_var 0 (pv 0)) (pax_cons px_int (pax_cons (px_callB (call_max2 rfl) x_max rfl T.n_max bt_max (pax_cons px_int (pax_cons (px_callB (call_min2 rfl) x_min rfl T.n_min bt_min (pax_cons (px_var 5 (pv 5)) (pax_cons px_int pax_nil))) pax_nil))) pax_nil))))) (pio2_cons (psj_for PassesOwn.never rfl (pix_range1 rfl T.n_range (pax_cons (px_var 5 (pv 5)) pax_nil)) (pg_name (i := 7) sc_l_works.nd rfl (Or.inl rfl)) (pssj_cons (psj_setD (j := 8) sc_l_works.nd rfl (Or.inl rfl) (px_op (r := rAddX K) op_addX x_add px_str (px_callK rfl G_l_work (hr.mono (by omega)) rfl T.m_l_work T.F_l_work.kp T.b_l_work pass0 (pax_cons (px_var 0 (pv 0)) (pax_cons (px_var 7 (pv 7)) (pax_cons (px_var 2 (pv 2)) pax_nil)))))) (pssj_cons (psj_if (PWX.pt (pwx_and (ptx_cmp (fr := true) (r := rEqX K) (op_eqX hr.units) x_eq (nomark _) (px_var 1 (pv 1)) px_int) (pwx_and1 (ptx_cmp (fr := true) (r := rEqX K) (op_eqX hr.units) x_eq (nomark _) (px_var 7 (pv 7)) (px_var 6 (pv 6)))))) (pssj_one (psj_setD (j := 8) sc_l_works.nd rfl (Or.inl rfl) (px_op (r := rAddX K) op_addX x_add (px_op (r := rAddX K) op_addX x_add (px_op (r := rAddX K) op_addX x_add (px_op (r := rAddX K) op_addX x_add px_str (px_ix (r := rIx K) ix_seq x_ix px_str (px_var 7 (pv 7)) (fun _ _ => rfl))) px_str) (px_callTy call_str_int x_str rfl T.n_str bt_str (pax_cons (px_var 2 (pv 2)) pax_nil))) px_str))) pssj_nil) (pssj_cons (psj_if (PWX.pt (pwx_and (ptx_cmp (fr := true) (r := rEqX K) (op_eqX hr.units) x_eq (nomark _) (px_var 1 (pv 1)) px_int) (pwx_and (ptx_cmp (fr := true) (r := rEqX K) (op_eqX hr.units) x_eq (nomark _) (px_var 7 (pv 7)) (px_op op_sub x_sub (px_var 5 (pv 5)) px_int)) (pwx_and1 (ptx_cmp (fr := true) op_gt x_gt (nomark _) (px_var 7 (pv 7)) px_int))))) (pssj_one (psj_setD (j := 8) sc_l_works.nd rfl (Or.inl rfl) (px_op (r := rAddX K) op_addX x_add (px_op (r := rAddX K) op_addX x_add px_str (px_ix (r := rIx K) ix_seq x_ix px_str (px_callK rfl G_l_draw (hr.mono (by omega)) rfl T.m_l_draw T.F_l_draw.kp T.b_l_draw pass0 (pax_cons (px_var 0 (pv 0)) (pax_cons px_int (pax_cons (px_var 7 (pv 7)) pax_nil)))) (fun _ _ => rfl))) px_str))) pssj_nil) (pssj_cons (psj_if (PWX.pt (pwx_or (ptx_cmp (fr := true) (r := rEqX K) (op_eqX hr.units) x_eq (nomark _) (px_var 7 (pv 7)) px_int) (pwx_or (PWX.pt (pwx_and (ptx_cmp (fr := true) (r := rEqX K) (op_eqX hr.units) x_eq (nomark _) (px_var 1 (pv 1)) px_int) (pwx_and1 (ptx_cmp (fr := true) (r := rEqX K) (op_eqX hr.units) x_eq (nomark _) (px_var 7 (pv 7)) (px_var 6 (pv 6)))))) (pwx_or1 (PWX.pt (pwx_and (ptx_cmp (fr := true) (r := rEqX K) (op_eqX hr.units) x_eq (nomark _) (px_var 1 (pv 1)) px_int) (pwx_and (ptx_cmp (fr := true) (r := rEqX K) (op_eqX hr.units) x_eq (nomark _) (px_var 7 (pv 7)) (px_op op_sub x_sub (px_var 5 (pv 5)) px_int)) (pwx_and1 (ptx_cmp (fr := true) op_gt x_gt (nomark _) (px_var 7 (pv 7)) px_int))))))))) (pssj_one (psj_app 4 (pv 4) (px_flat (px_frz (px_callB (r := rLen K) call_lenX x_len rfl T.n_len bt_len (pax_cons (px_var 3 (pv 3)) pax_nil)))))) pssj_nil) (pssj_cons (psj_app 3 (pv 3) (px_var 8 (pv 8))) (pssj_one (psj_if (PWX.pt (pwx_and (ptx_cmp (fr := true) (r := rEqX K) (op_eqX hr.units) x_eq (nomark _) (px_var 1 (pv 1)) px_int) (pwx_and1 (ptx_cmp (fr := true) (r := rEqX K) (op_eqX hr.units) x_eq (nomark _) (px_var 7 (pv 7)) (px_var 6 (pv 6)))))) (pssj_cons (psj_app 4 (pv 4) (px_flat (px_frz (px_callB (r := rLen K) call_lenX x_len rfl T.n_len bt_len (pax_cons (px_var 3 (pv 3)) pax_nil))))) (pssj_one (psj_app 3 (pv 3) (px_ix (r := rIx K) ix_seq x_ix (px_lst (pax_cons px_str (pax_cons px_str (pax_cons px_str pax_nil)))) (px_callK rfl G_l_draw (hr.mono (by omega)) rfl T.m_l_draw T.F_l_draw.kp T.b_l_draw pass0 (pax_cons (px_var 0 (pv 0)) (pax_cons px_int (pax_cons px_int pax_nil)))) (fun _ _ => rfl))))) pssj_nil)))))))) (pio2_ret (px_var 5 (pv 5)))))))⟩
theorem ok_l_begun (T : Txt K mg ad) : FnOk P w K mg base CX0 2 ad.f_l_begun ad.fd_l_begun ["_law_script", "_law_fault", "_law_lines", "_law_bads"] (spIO2 K (2, 3) F_l_begun) := by
 have G_l_draw : FnOk P w K mg base CX0 1 _ _ _ (spF K F_l_draw) := ok_l_draw T
 exact T.F_l_begun.okIO2 (k := 1) sc_l_begun (by decide) (by decide) fun cdv A outer s H E hr => ⟨_, (pio2_cons (psj_if (ptx_cmp (fr := true) (r := rEqX K) (op_eqX hr.units) x_eq (nomark _) (px_var 1 (pv 1)) px_int) (pssj_cons (psj_app 3 (pv 3) px_int) (pssj_one (psj_app 2 (pv 2) (px_ix (r := rIx K) ix_seq x_ix (px_lst (pax_cons px_str (pax_cons px_str pax_nil))) (px_callK rfl G_l_draw (hr.mono (by omega)) rfl T.m_l_draw T.F_l_draw.kp T.b_l_draw pass0 (pax_cons (px_var 0 (pv 0)) (pax_cons px_int (pax_cons px_int pax_nil)))) (fun _ _ => rfl))))) pssj_nil) (pio2_cons (psj_app 2 (pv 2) px_str) (pio2_last (psj_if (ptx_cmp (fr := true) (r := rEqX K) (op_eqX hr.units) x_eq (nomark _) (px_var 1 (pv 1)) px_int) (pssj_cons (psj_app 3 (pv 3) (px_flat (px_frz (px_callB (r := rLen K) call_lenX x_len rfl T.n_len bt_len (pax_cons (px_var 2 (pv 2)) pax_nil))))) (pssj_one (psj_app 2 (pv 2) (px_ix (r := rIx K) ix_seq x_ix (px_lst (pax_cons px_str (pax_cons px_str pax_nil))) (px_callK rfl G_l_draw (hr.mono (by omega)) rfl T.m_l_draw T.F_l_draw.kp T.b_l_draw pass0 (pax_cons (px_var 0 (pv 0)) (pax_cons px_int (pax_cons px_int pax_nil)))) (fun _ _ => rfl))))) pssj_nil))))⟩
theorem ok_law (T : Txt K mg ad) : FnOk P w K mg base CX0 10 ad.f_law ad.fd_law ["_law_script"] (spF K (F_law ad.C_NoText)) := by
 have G_l_begun : FnOk P w K mg base CX0 2 _ _ _ (spIO2 K (2, 3) F_l_begun) := ok_l_begun T
 have G_l_draw : FnOk P w K mg base CX0 1 _ _ _ (spF K F_l_draw) := ok_l_draw T
 have G_l_hours : FnOk P w K mg base CX0 3 _ _ _ (spIO2 K (2, 3) F_l_hours) := ok_l_hours T
 have G_l_same : FnOk P w K mg base CX0 3 _ _ _ (spF K F_l_same) := ok_l_same T
 have G_l_works : FnOk P w K mg base CX0 3 _ _ _ (spIO2 K (3, 4) F_l_works) := ok_l_works T
 have GX_read : FnOk P w K mg base (CX1 P w) 9 _ _ _ (spX K (FX_read ad.C_NoText)) := okx_read T
 exact T.F_law.okF (k := 9) sc_law (by decide) fun cdv A outer s H E hr => ⟨_, (pssx_cons (psx_setD (i := 1) sc_law.nd rfl (Or.inl rfl) (px_callK rfl G_l_draw (hr.mono (by omega)) rfl T.m_l_draw T.F_l_draw.kp T.b_l_draw pass0 (pax_cons (px_var 0 (pv 0)) (pax_cons px_int (pax_cons px_int pax_nil))))) (pssx_cons (psx_set (i := 2) sc_law.nd rfl (Or.inl rfl) (px_lst pax_nil)) (pssx_cons (psx_set (i := 3) sc_law.nd rfl (Or.inl rfl) (px_lst pax_nil)) (pssx_cons (psx_dropIO2 (p := (2, 3)) rfl G_l_begun (hr.mono (by omega)) rfl T.m_l_begun T.F_l_begun.kp T.b_l_begun pass0 (pao2_later (px_var 0 (pv 0)) (pao2_later (px_var 1 (pv 1)) (pao2_here 2 (pv 2) (pao_here 3 (pv 3) pax_nil))))) (pssx_cons (psx_setD (i := 4) sc_law.nd rfl (Or.inl rfl) px_int) (pssx_cons (psx_setD (i := 5) sc_law.nd rfl (Or.inl rfl) px_int) (pssx_cons (psx_if (ptx_cmp (fr := true) (r := rEqX K) (op_eqX hr.units) x_eq (nomark _) (px_var 1 (pv 1)) px_int) (pssx_one (psx_app 3 (pv 3) (px_flat (px_frz (px_callB (r := rLen K) call_lenX x_len rfl T.n_len bt_len (pax_cons (px_var 2 (pv 2)) pax_nil)))))) (pssx_cons (psx_callIO2 (j := 4) (p := (2, 3)) rfl G_l_hours (hr.mono (by omega)) rfl T.m_l_hours T.F_l_hours.kp T.b_l_hours pass0 (pao2_later (px_var 0 (pv 0)) (pao2_later (px_var 1 (pv 1)) (pao2_here 2 (pv 2) (pao_here 3 (pv 3) pax_nil)))) sc_law.nd rfl (Or.inl rfl)) (pssx_one (psx_callIO2 (j := 5) (p := (2, 3)) rfl G_l_works (hr.mono (by omega)) rfl T.m_l_works T.F_l_works.kp T.b_l_works pass0 (pao2_later (px_var 0 (pv 0)) (pao2_later (px_var 1 (pv 1)) (pao2_later (px_callB (call_min2 rfl) x_min rfl T.n_min bt_min (pax_cons px_int (pax_cons (px_var 4 (pv 4)) pax_nil))) (pao2_here 2 (pv 2) (pao_here 3 (pv 3) pax_nil))))) sc_law.nd rfl (Or.inl rfl))))) (pssx_cons (psx_if (PWX.pt (pwx_and (ptx_cmp (fr := false) op_gt x_gt (nomark _) (px_frz (px_callB (r := rLen K) call_lenX x_len rfl T.n_len bt_len (pax_cons (px_var 3 (pv 3)) pax_nil))) (px_frz px_int)) (pwx_and1 (ptx_cmp (fr := true) (r := rEqX K) (op_eqX hr.units) x_eq (nomark _) (px_callK rfl G_l_draw (hr.mono (by omega)) rfl T.m_l_draw T.F_l_draw.kp T.b_l_draw pass0 (pax_cons (px_var 0 (pv 0)) (pax_cons px_int (pax_cons px_int pax_nil)))) px_int)))) (pssx_one (psx_app 2 (pv 2) (px_ix (r := rIx K) ix_seq x_ix (px_lst (pax_cons px_str (pax_cons px_str (pax_cons px_str pax_nil)))) (px_callK rfl G_l_draw (hr.mono (by omega)) rfl T.m_l_draw T.F_l_draw.kp T.b_l_draw pass0 (pax_cons (px_var 0 (pv 0)) (pax_cons px_int (pax_cons px_int pax_nil)))) (fun _ _ => rfl)))) pssx_nil) (pssx_cons (psx_setD (i := 6) sc_law.nd rfl (Or.inl rfl) px_non) (pssx_cons (psx_setD (i := 7) sc_law.nd rfl (Or.inl rfl) px_non) (pssx_cons (psx_tryA (i := 7) (j := 8) ⟨rfl, rfl⟩ (fun _ _ z => z) GX_read (hr.mono (by omega)) rfl T.m_read T.F_read.kp T.b_read (pax_cons (px_listO 2 (pv 2) rfl T.n_list bt_list) pax_nil) T.xK rfl T.xm_NoText sc_law.nd rfl (Or.inl rfl) rfl rfl (fun ea => (pssx_one (psx_setD (i := 6) sc_law.nd rfl (Or.inl rfl) (px_fldK (K' := K) rfl (px_var 8 (pv 8))))))) (pssx_cons (psx_if (ptx_cmp (fr := false) op_gt x_gt (nomark _) (px_frz (px_callB (r := rLen K) call_lenX x_len rfl T.n_len bt_len (pax_cons (px_var 3 (pv 3)) pax_nil))) (px_frz px_int)) (pssx_one (psx_ret (fr := true) (px_callK rfl G_l_same (hr.mono (by omega)) rfl T.m_l_same T.F_l_same.kp T.b_l_same pass0 (pax_cons (px_var 6 (pv 6)) (pax_cons (px_ixO 3 (pv 3) px_int) pax_nil))))) pssx_nil) (pssx_cons (psx_if (PWX.pt (pwx_or (ptx_cmp (fr := true) op_notN x_isNot (nomark _) (px_var 6 (pv 6)) px_non) (pwx_or (ptx_not (ptx_val (fr := true) (px_isinK rfl five_tuple rfl T.n_isinstance bt_isinstance (px_var 7 (pv 7)) (pe_bltn (v := .ty "tuple") rfl T.n_tuple bt_tuple rfl)))) (pwx_or1 (ptx_cmp (fr := true) (r := rNeX K) (op_neX hr.units) x_ne (nomark _) (px_callB (r := rLen K) call_lenX x_len rfl T.n_len bt_len (pax_cons (px_var 7 (pv 7)) pax_nil)) px_int))))) (pssx_one (psx_ret (fr := true) px_bl)) pssx_nil) (pssx_one (psx_ret (fr := true) (px_and (px_cmp (r := rEqX K) (op_eqX hr.units) x_eq (nomark _) (px_callB (r := rLen K) call_lenX x_len rfl T.n_len bt_len (pax_cons (px_ix (r := rIx K) ix_seq x_ix (px_var 7 (pv 7)) px_int (fun _ _ => rfl)) pax_nil)) (px_var 4 (pv 4))) (px_one (px_cmp (r := rEqX K) (op_eqX hr.units) x_eq (nomark _) (px_callB (r := rLen K) call_lenX x_len rfl T.n_len bt_len (pax_cons (px_ix (r := rIx K) ix_seq x_ix (px_var 7 (pv 7)) px_int (fun _ _ => rfl)) pax_nil)) (px_var 5 (pv 5))))))))))))))))))))⟩
end
theorem all_mk {l : PySem.W.OpenLaw} {w : World} {K : PySem.W.Frag} {h : Heap} {mg : Str -> Option Value} {fa : Addr} (X : K.In h) (G : h.Ns mainGlobals mg) (hfa : mg "law" = some (.ref fa))
  {f0 : Addr} {od0 an0 : Option Addr} {sl0 : Array (Option Value)} {oc0 kV0 dc0 pm0 cd0 ct0 : Value}
  (a0 : PySem.W.nsIn K mainGlobals "common_divisor" = some (some (.ref f0))) (l0 : K.lookup f0 = some ⟨oc0, od0, .func (PySem.W.fnOf "common_divisor" "common_divisor" (defArgs s_common_divisor) (defBody s_common_divisor) (defScope s_common_divisor) .none kV0 dc0 pm0 an0 cd0 ct0), sl0⟩) (c0 : PySem.W.codeIn K cd0 "common_divisor" = true) (k0 : PySem.W.keepIn K (.ref f0) = true)
  {f1 : Addr} {od1 an1 : Option Addr} {sl1 : Array (Option Value)} {oc1 kV1 dc1 pm1 cd1 ct1 : Value}
  (a1 : PySem.W.nsIn K mainGlobals "fraction" = some (some (.ref f1))) (l1 : K.lookup f1 = some ⟨oc1, od1, .func (PySem.W.fnOf "fraction" "fraction" (defArgs s_fraction) (defBody s_fraction) (defScope s_fraction) .none kV1 dc1 pm1 an1 cd1 ct1), sl1⟩) (c1 : PySem.W.codeIn K cd1 "fraction" = true) (k1 : PySem.W.keepIn K (.ref f1) = true)
  {f2 : Addr} {od2 an2 : Option Addr} {sl2 : Array (Option Value)} {oc2 kV2 dc2 pm2 cd2 ct2 : Value}
  (a2 : PySem.W.nsIn K mainGlobals "figures_of" = some (some (.ref f2))) (l2 : K.lookup f2 = some ⟨oc2, od2, .func (PySem.W.fnOf "figures_of" "figures_of" (defArgs s_figures_of) (defBody s_figures_of) (defScope s_figures_of) .none kV2 dc2 pm2 an2 cd2 ct2), sl2⟩) (c2 : PySem.W.codeIn K cd2 "figures_of" = true) (k2 : PySem.W.keepIn K (.ref f2) = true)
  {f3 : Addr} {od3 an3 : Option Addr} {sl3 : Array (Option Value)} {oc3 kV3 dc3 pm3 cd3 ct3 : Value}
  (a3 : PySem.W.nsIn K mainGlobals "written" = some (some (.ref f3))) (l3 : K.lookup f3 = some ⟨oc3, od3, .func (PySem.W.fnOf "written" "written" (defArgs s_written) (defBody s_written) (defScope s_written) .none kV3 dc3 pm3 an3 cd3 ct3), sl3⟩) (c3 : PySem.W.codeIn K cd3 "written" = true) (k3 : PySem.W.keepIn K (.ref f3) = true)
  {f4 : Addr} {od4 an4 : Option Addr} {sl4 : Array (Option Value)} {oc4 kV4 dc4 pm4 cd4 ct4 : Value}
  (a4 : PySem.W.nsIn K mainGlobals "read_figures" = some (some (.ref f4))) (l4 : K.lookup f4 = some ⟨oc4, od4, .func (PySem.W.fnOf "read_figures" "read_figures" (defArgs s_read_figures) (defBody s_read_figures) (defScope s_read_figures) .none kV4 dc4 pm4 an4 cd4 ct4), sl4⟩) (c4 : PySem.W.codeIn K cd4 "read_figures" = true) (k4 : PySem.W.keepIn K (.ref f4) = true)
  {f5 : Addr} {od5 an5 : Option Addr} {sl5 : Array (Option Value)} {oc5 kV5 dc5 pm5 cd5 ct5 : Value}
  (a5 : PySem.W.nsIn K mainGlobals "read_signed" = some (some (.ref f5))) (l5 : K.lookup f5 = some ⟨oc5, od5, .func (PySem.W.fnOf "read_signed" "read_signed" (defArgs s_read_signed) (defBody s_read_signed) (defScope s_read_signed) .none kV5 dc5 pm5 an5 cd5 ct5), sl5⟩) (c5 : PySem.W.codeIn K cd5 "read_signed" = true) (k5 : PySem.W.keepIn K (.ref f5) = true)
  {f6 : Addr} {od6 an6 : Option Addr} {sl6 : Array (Option Value)} {oc6 kV6 dc6 pm6 cd6 ct6 : Value}
  (a6 : PySem.W.nsIn K mainGlobals "read_fraction" = some (some (.ref f6))) (l6 : K.lookup f6 = some ⟨oc6, od6, .func (PySem.W.fnOf "read_fraction" "read_fraction" (defArgs s_read_fraction) (defBody s_read_fraction) (defScope s_read_fraction) .none kV6 dc6 pm6 an6 cd6 ct6), sl6⟩) (c6 : PySem.W.codeIn K cd6 "read_fraction" = true) (k6 : PySem.W.keepIn K (.ref f6) = true)
  {f7 : Addr} {od7 an7 : Option Addr} {sl7 : Array (Option Value)} {oc7 kV7 dc7 pm7 cd7 ct7 : Value}
  (a7 : PySem.W.nsIn K mainGlobals "read_whole" = some (some (.ref f7))) (l7 : K.lookup f7 = some ⟨oc7, od7, .func (PySem.W.fnOf "read_whole" "read_whole" (defArgs s_read_whole) (defBody s_read_whole) (defScope s_read_whole) .none kV7 dc7 pm7 an7 cd7 ct7), sl7⟩) (c7 : PySem.W.codeIn K cd7 "read_whole" = true) (k7 : PySem.W.keepIn K (.ref f7) = true)
  {f8 : Addr} {od8 an8 : Option Addr} {sl8 : Array (Option Value)} {oc8 kV8 dc8 pm8 cd8 ct8 : Value}
  (a8 : PySem.W.nsIn K mainGlobals "read_amount" = some (some (.ref f8))) (l8 : K.lookup f8 = some ⟨oc8, od8, .func (PySem.W.fnOf "read_amount" "read_amount" (defArgs s_read_amount) (defBody s_read_amount) (defScope s_read_amount) .none kV8 dc8 pm8 an8 cd8 ct8), sl8⟩) (c8 : PySem.W.codeIn K cd8 "read_amount" = true) (k8 : PySem.W.keepIn K (.ref f8) = true)
  {f9 : Addr} {od9 an9 : Option Addr} {sl9 : Array (Option Value)} {oc9 kV9 dc9 pm9 cd9 ct9 : Value}
  (a9 : PySem.W.nsIn K mainGlobals "read_price" = some (some (.ref f9))) (l9 : K.lookup f9 = some ⟨oc9, od9, .func (PySem.W.fnOf "read_price" "read_price" (defArgs s_read_price) (defBody s_read_price) (defScope s_read_price) .none kV9 dc9 pm9 an9 cd9 ct9), sl9⟩) (c9 : PySem.W.codeIn K cd9 "read_price" = true) (k9 : PySem.W.keepIn K (.ref f9) = true)
  {f10 : Addr} {od10 an10 : Option Addr} {sl10 : Array (Option Value)} {oc10 kV10 dc10 pm10 cd10 ct10 : Value}
  (a10 : PySem.W.nsIn K mainGlobals "read_share" = some (some (.ref f10))) (l10 : K.lookup f10 = some ⟨oc10, od10, .func (PySem.W.fnOf "read_share" "read_share" (defArgs s_read_share) (defBody s_read_share) (defScope s_read_share) .none kV10 dc10 pm10 an10 cd10 ct10), sl10⟩) (c10 : PySem.W.codeIn K cd10 "read_share" = true) (k10 : PySem.W.keepIn K (.ref f10) = true)
  {f11 : Addr} {od11 an11 : Option Addr} {sl11 : Array (Option Value)} {oc11 kV11 dc11 pm11 cd11 ct11 : Value}
  (a11 : PySem.W.nsIn K mainGlobals "read_name" = some (some (.ref f11))) (l11 : K.lookup f11 = some ⟨oc11, od11, .func (PySem.W.fnOf "read_name" "read_name" (defArgs s_read_name) (defBody s_read_name) (defScope s_read_name) .none kV11 dc11 pm11 an11 cd11 ct11), sl11⟩) (c11 : PySem.W.codeIn K cd11 "read_name" = true) (k11 : PySem.W.keepIn K (.ref f11) = true)
  {f12 : Addr} {od12 an12 : Option Addr} {sl12 : Array (Option Value)} {oc12 kV12 dc12 pm12 cd12 ct12 : Value}
  (a12 : PySem.W.nsIn K mainGlobals "read_parts" = some (some (.ref f12))) (l12 : K.lookup f12 = some ⟨oc12, od12, .func (PySem.W.fnOf "read_parts" "read_parts" (defArgs s_read_parts) (defBody s_read_parts) (defScope s_read_parts) .none kV12 dc12 pm12 an12 cd12 ct12), sl12⟩) (c12 : PySem.W.codeIn K cd12 "read_parts" = true) (k12 : PySem.W.keepIn K (.ref f12) = true)
  {f13 : Addr} {od13 an13 : Option Addr} {sl13 : Array (Option Value)} {oc13 kV13 dc13 pm13 cd13 ct13 : Value}
  (a13 : PySem.W.nsIn K mainGlobals "read_store" = some (some (.ref f13))) (l13 : K.lookup f13 = some ⟨oc13, od13, .func (PySem.W.fnOf "read_store" "read_store" (defArgs s_read_store) (defBody s_read_store) (defScope s_read_store) .none kV13 dc13 pm13 an13 cd13 ct13), sl13⟩) (c13 : PySem.W.codeIn K cd13 "read_store" = true) (k13 : PySem.W.keepIn K (.ref f13) = true)
  {f14 : Addr} {od14 an14 : Option Addr} {sl14 : Array (Option Value)} {oc14 kV14 dc14 pm14 cd14 ct14 : Value}
  (a14 : PySem.W.nsIn K mainGlobals "read_hour" = some (some (.ref f14))) (l14 : K.lookup f14 = some ⟨oc14, od14, .func (PySem.W.fnOf "read_hour" "read_hour" (defArgs s_read_hour) (defBody s_read_hour) (defScope s_read_hour) .none kV14 dc14 pm14 an14 cd14 ct14), sl14⟩) (c14 : PySem.W.codeIn K cd14 "read_hour" = true) (k14 : PySem.W.keepIn K (.ref f14) = true)
  {f15 : Addr} {od15 an15 : Option Addr} {sl15 : Array (Option Value)} {oc15 kV15 dc15 pm15 cd15 ct15 : Value}
  (a15 : PySem.W.nsIn K mainGlobals "read_work" = some (some (.ref f15))) (l15 : K.lookup f15 = some ⟨oc15, od15, .func (PySem.W.fnOf "read_work" "read_work" (defArgs s_read_work) (defBody s_read_work) (defScope s_read_work) .none kV15 dc15 pm15 an15 cd15 ct15), sl15⟩) (c15 : PySem.W.codeIn K cd15 "read_work" = true) (k15 : PySem.W.keepIn K (.ref f15) = true)
  {f16 : Addr} {od16 an16 : Option Addr} {sl16 : Array (Option Value)} {oc16 kV16 dc16 pm16 cd16 ct16 : Value}
  (a16 : PySem.W.nsIn K mainGlobals "read_hours" = some (some (.ref f16))) (l16 : K.lookup f16 = some ⟨oc16, od16, .func (PySem.W.fnOf "read_hours" "read_hours" (defArgs s_read_hours) (defBody s_read_hours) (defScope s_read_hours) .none kV16 dc16 pm16 an16 cd16 ct16), sl16⟩) (c16 : PySem.W.codeIn K cd16 "read_hours" = true) (k16 : PySem.W.keepIn K (.ref f16) = true)
  {f17 : Addr} {od17 an17 : Option Addr} {sl17 : Array (Option Value)} {oc17 kV17 dc17 pm17 cd17 ct17 : Value}
  (a17 : PySem.W.nsIn K mainGlobals "read_works" = some (some (.ref f17))) (l17 : K.lookup f17 = some ⟨oc17, od17, .func (PySem.W.fnOf "read_works" "read_works" (defArgs s_read_works) (defBody s_read_works) (defScope s_read_works) .none kV17 dc17 pm17 an17 cd17 ct17), sl17⟩) (c17 : PySem.W.codeIn K cd17 "read_works" = true) (k17 : PySem.W.keepIn K (.ref f17) = true)
  {f18 : Addr} {od18 an18 : Option Addr} {sl18 : Array (Option Value)} {oc18 kV18 dc18 pm18 cd18 ct18 : Value}
  (a18 : PySem.W.nsIn K mainGlobals "read" = some (some (.ref f18))) (l18 : K.lookup f18 = some ⟨oc18, od18, .func (PySem.W.fnOf "read" "read" (defArgs s_read) (defBody s_read) (defScope s_read) .none kV18 dc18 pm18 an18 cd18 ct18), sl18⟩) (c18 : PySem.W.codeIn K cd18 "read" = true) (k18 : PySem.W.keepIn K (.ref f18) = true)
  {f19 : Addr} {od19 an19 : Option Addr} {sl19 : Array (Option Value)} {oc19 kV19 dc19 pm19 cd19 ct19 : Value}
  (a19 : PySem.W.nsIn K mainGlobals "_law_draw" = some (some (.ref f19))) (l19 : K.lookup f19 = some ⟨oc19, od19, .func (PySem.W.fnOf "_law_draw" "_law_draw" (defArgs s_l_draw) (defBody s_l_draw) (defScope s_l_draw) .none kV19 dc19 pm19 an19 cd19 ct19), sl19⟩) (c19 : PySem.W.codeIn K cd19 "_law_draw" = true) (k19 : PySem.W.keepIn K (.ref f19) = true)
  {f20 : Addr} {od20 an20 : Option Addr} {sl20 : Array (Option Value)} {oc20 kV20 dc20 pm20 cd20 ct20 : Value}
  (a20 : PySem.W.nsIn K mainGlobals "_law_same" = some (some (.ref f20))) (l20 : K.lookup f20 = some ⟨oc20, od20, .func (PySem.W.fnOf "_law_same" "_law_same" (defArgs s_l_same) (defBody s_l_same) (defScope s_l_same) .none kV20 dc20 pm20 an20 cd20 ct20), sl20⟩) (c20 : PySem.W.codeIn K cd20 "_law_same" = true) (k20 : PySem.W.keepIn K (.ref f20) = true)
  {f21 : Addr} {od21 an21 : Option Addr} {sl21 : Array (Option Value)} {oc21 kV21 dc21 pm21 cd21 ct21 : Value}
  (a21 : PySem.W.nsIn K mainGlobals "_law_many" = some (some (.ref f21))) (l21 : K.lookup f21 = some ⟨oc21, od21, .func (PySem.W.fnOf "_law_many" "_law_many" (defArgs s_l_many) (defBody s_l_many) (defScope s_l_many) .none kV21 dc21 pm21 an21 cd21 ct21), sl21⟩) (c21 : PySem.W.codeIn K cd21 "_law_many" = true) (k21 : PySem.W.keepIn K (.ref f21) = true)
  {f22 : Addr} {od22 an22 : Option Addr} {sl22 : Array (Option Value)} {oc22 kV22 dc22 pm22 cd22 ct22 : Value}
  (a22 : PySem.W.nsIn K mainGlobals "_law_work" = some (some (.ref f22))) (l22 : K.lookup f22 = some ⟨oc22, od22, .func (PySem.W.fnOf "_law_work" "_law_work" (defArgs s_l_work) (defBody s_l_work) (defScope s_l_work) .none kV22 dc22 pm22 an22 cd22 ct22), sl22⟩) (c22 : PySem.W.codeIn K cd22 "_law_work" = true) (k22 : PySem.W.keepIn K (.ref f22) = true)
  {f23 : Addr} {od23 an23 : Option Addr} {sl23 : Array (Option Value)} {oc23 kV23 dc23 pm23 cd23 ct23 : Value}
  (a23 : PySem.W.nsIn K mainGlobals "_law_hours" = some (some (.ref f23))) (l23 : K.lookup f23 = some ⟨oc23, od23, .func (PySem.W.fnOf "_law_hours" "_law_hours" (defArgs s_l_hours) (defBody s_l_hours) (defScope s_l_hours) .none kV23 dc23 pm23 an23 cd23 ct23), sl23⟩) (c23 : PySem.W.codeIn K cd23 "_law_hours" = true) (k23 : PySem.W.keepIn K (.ref f23) = true)
  {f24 : Addr} {od24 an24 : Option Addr} {sl24 : Array (Option Value)} {oc24 kV24 dc24 pm24 cd24 ct24 : Value}
  (a24 : PySem.W.nsIn K mainGlobals "_law_works" = some (some (.ref f24))) (l24 : K.lookup f24 = some ⟨oc24, od24, .func (PySem.W.fnOf "_law_works" "_law_works" (defArgs s_l_works) (defBody s_l_works) (defScope s_l_works) .none kV24 dc24 pm24 an24 cd24 ct24), sl24⟩) (c24 : PySem.W.codeIn K cd24 "_law_works" = true) (k24 : PySem.W.keepIn K (.ref f24) = true)
  {f25 : Addr} {od25 an25 : Option Addr} {sl25 : Array (Option Value)} {oc25 kV25 dc25 pm25 cd25 ct25 : Value}
  (a25 : PySem.W.nsIn K mainGlobals "_law_begun" = some (some (.ref f25))) (l25 : K.lookup f25 = some ⟨oc25, od25, .func (PySem.W.fnOf "_law_begun" "_law_begun" (defArgs s_l_begun) (defBody s_l_begun) (defScope s_l_begun) .none kV25 dc25 pm25 an25 cd25 ct25), sl25⟩) (c25 : PySem.W.codeIn K cd25 "_law_begun" = true) (k25 : PySem.W.keepIn K (.ref f25) = true)
  {f26 : Addr} {od26 an26 : Option Addr} {sl26 : Array (Option Value)} {oc26 kV26 dc26 pm26 cd26 ct26 : Value}
  (a26 : PySem.W.nsIn K mainGlobals "law" = some (some (.ref f26))) (l26 : K.lookup f26 = some ⟨oc26, od26, .func (PySem.W.fnOf "law" "law" (defArgs s_law) (defBody s_law) (defScope s_law) .none kV26 dc26 pm26 an26 cd26 ct26), sl26⟩) (c26 : PySem.W.codeIn K cd26 "law" = true) (k26 : PySem.W.keepIn K (.ref f26) = true)
  (z_abs : PySem.W.nsIn K mainGlobals "abs" = some none)
  (z_all : PySem.W.nsIn K mainGlobals "all" = some none)
  (z_bool : PySem.W.nsIn K mainGlobals "bool" = some none)
  (z_int : PySem.W.nsIn K mainGlobals "int" = some none)
  (z_isinstance : PySem.W.nsIn K mainGlobals "isinstance" = some none)
  (z_len : PySem.W.nsIn K mainGlobals "len" = some none)
  (z_list : PySem.W.nsIn K mainGlobals "list" = some none)
  (z_max : PySem.W.nsIn K mainGlobals "max" = some none)
  (z_min : PySem.W.nsIn K mainGlobals "min" = some none)
  (z_range : PySem.W.nsIn K mainGlobals "range" = some none)
  (z_str : PySem.W.nsIn K mainGlobals "str" = some none)
  (z_tuple : PySem.W.nsIn K mainGlobals "tuple" = some none)
  (z_zip : PySem.W.nsIn K mainGlobals "zip" = some none)
  {kt_FIGURES : Tok} (ka_FIGURES : PySem.W.nsIn K mainGlobals "FIGURES" = some (some (.str "0123456789" kt_FIGURES)))
  {kq_HOUR_PARTS : Addr} (ka_HOUR_PARTS : PySem.W.nsIn K mainGlobals "HOUR_PARTS" = some (some (.ref kq_HOUR_PARTS)))
  {kd_HOUR_PARTS : Option Addr} {kn_HOUR_PARTS : Nat} {ks_HOUR_PARTS : Array (Option Value)}  (kl_HOUR_PARTS : K.lookup kq_HOUR_PARTS = some ⟨.type "tuple", kd_HOUR_PARTS, .seq #[(.ref f8), (.ref f8)] kn_HOUR_PARTS, ks_HOUR_PARTS⟩)
  {kt_LETTERS : Tok} (ka_LETTERS : PySem.W.nsIn K mainGlobals "LETTERS" = some (some (.str "abcdefghijklmnopqrstuvwxyz" kt_LETTERS)))
  {kq_LINE_PARTS : Addr} (ka_LINE_PARTS : PySem.W.nsIn K mainGlobals "LINE_PARTS" = some (some (.ref kq_LINE_PARTS)))
  {kd_LINE_PARTS : Option Addr} {kn_LINE_PARTS : Nat} {ks_LINE_PARTS : Array (Option Value)}  (kl_LINE_PARTS : K.lookup kq_LINE_PARTS = some ⟨.type "tuple", kd_LINE_PARTS, .seq #[(.ref f9), (.ref f8), (.ref f9), (.ref f8)] kn_LINE_PARTS, ks_LINE_PARTS⟩)
  {kt_MOST_BOTTOM : Tok} (ka_MOST_BOTTOM : PySem.W.nsIn K mainGlobals "MOST_BOTTOM" = some (some (.int 1000 kt_MOST_BOTTOM)))
  {kt_MOST_FIGURES : Tok} (ka_MOST_FIGURES : PySem.W.nsIn K mainGlobals "MOST_FIGURES" = some (some (.int 60 kt_MOST_FIGURES)))
  {kt_MOST_HOURS : Tok} (ka_MOST_HOURS : PySem.W.nsIn K mainGlobals "MOST_HOURS" = some (some (.int 24 kt_MOST_HOURS)))
  {kt_MOST_LETTERS : Tok} (ka_MOST_LETTERS : PySem.W.nsIn K mainGlobals "MOST_LETTERS" = some (some (.int 8 kt_MOST_LETTERS)))
  {kt_MOST_NUMBER : Tok} (ka_MOST_NUMBER : PySem.W.nsIn K mainGlobals "MOST_NUMBER" = some (some (.int 1000000 kt_MOST_NUMBER)))
  {kt_MOST_WORKS : Tok} (ka_MOST_WORKS : PySem.W.nsIn K mainGlobals "MOST_WORKS" = some (some (.int 6 kt_MOST_WORKS)))
  {kq_STORE_PARTS : Addr} (ka_STORE_PARTS : PySem.W.nsIn K mainGlobals "STORE_PARTS" = some (some (.ref kq_STORE_PARTS)))
  {kd_STORE_PARTS : Option Addr} {kn_STORE_PARTS : Nat} {ks_STORE_PARTS : Array (Option Value)}  (kl_STORE_PARTS : K.lookup kq_STORE_PARTS = some ⟨.type "tuple", kd_STORE_PARTS, .seq #[(.ref f8), (.ref f8), (.ref f8), (.ref f8), (.ref f10), (.ref f10), (.ref f8)] kn_STORE_PARTS, ks_STORE_PARTS⟩)
  {kq_WORK_PARTS : Addr} (ka_WORK_PARTS : PySem.W.nsIn K mainGlobals "WORK_PARTS" = some (some (.ref kq_WORK_PARTS)))
  {kd_WORK_PARTS : Option Addr} {kn_WORK_PARTS : Nat} {ks_WORK_PARTS : Array (Option Value)}  (kl_WORK_PARTS : K.lookup kq_WORK_PARTS = some ⟨.type "tuple", kd_WORK_PARTS, .seq #[(.ref f11), (.ref f8), (.ref f8), (.ref f8), (.ref f8)] kn_WORK_PARTS, ks_WORK_PARTS⟩)
  {C_NoText : Addr} (xa_NoText : PySem.W.nsIn K mainGlobals "NoText" = some (some (.ref C_NoText)))
  {C_StoreError : Addr} (xa_StoreError : PySem.W.nsIn K mainGlobals "StoreError" = some (some (.ref C_StoreError)))
  {nmE qnE : Str} {NE f_init : Addr} {bsE : List Value} {snE : List Str} {subE : List Value} {abE : Bool} {colE : Option Bool} {ddE : Option Addr} {e0 e1 e2 e3 e5 : Option Value}
  (xl : K.lookup C_NoText = some (excClassObj nmE qnE C_NoText NE bsE (.ref C_StoreError :: valueMro) true snE subE abE colE ddE e0 e1 e2 e3 e5 "ValueError.__new__")) (x1 : PySem.W.nsOkIn K NE = true) (x2 : PySem.W.nsIn K NE "__init__" = some (some (.ref f_init))) (xt : PySem.W.tailIn K valueMro (.ref C_StoreError :: valueMro) = true)
  {odE anE : Option Addr} {slE : Array (Option Value)} {kVE dcE pmE cdE ctE : Value} (xli : K.lookup f_init = some ⟨.type "function", odE, .func (PySem.W.fnOf "__init__" "NoText.__init__" (defArgs s_init) (defBody s_init) (defScope s_init) .none kVE dcE pmE anE cdE ctE), slE⟩) (xci : PySem.W.codeIn K cdE "NoText.__init__" = true) (xki : PySem.W.keepIn K (.ref f_init) = true)
  (y1 : PySem.W.findIn K (.ref C_NoText) "__setattr__" = some (some (.builtin "object.__setattr__"))) (y2 : PySem.W.findIn K (.ref C_NoText) "place" = some none) (y3 : PySem.W.readsIn K C_StoreError (.type "type") = true) (y4 : PySem.W.specialIn K (.ref C_StoreError) "__getattribute__" = some (some (.builtin "type.__getattribute__"))) (y5 : PySem.W.findCls K (.ref C_StoreError) (.type "type") "__init__" = some (.val (.builtin "ValueError.__init__"))) (w1 : PySem.W.findIn K (.ref C_NoText) "__getattribute__" = some (some (.builtin "BaseException.__getattribute__"))) (w2 : PySem.W.findIn K (.ref C_NoText) "__getattr__" = some none) (w3 : PySem.W.hasDictIn K C_NoText = true) (w4 : PySem.W.mroIn K C_NoText (.type "BaseException") = some true) (w5 : PySem.W.findIn K (.ref C_NoText) "__class__" = some (some (.builtin "object.__class__"))) (w6 : PySem.W.specialIn K (.builtin "object.__class__") "__get__" = some (some (.builtin "getset_descriptor.__get__"))) (w7 : PySem.W.takesIn K (.builtin "object.__class__") = some true) (w8 : PySem.W.mroIn K C_NoText (.type "object") = some true) (v0 : PySem.W.kitOne K (.ref C_NoText) (.type "tuple") = some false) (v1 : PySem.W.kitOne K (.ref C_NoText) (.type "list") = some false) (v2 : PySem.W.kitOne K (.ref C_NoText) (.type "bool") = some false) (v3 : PySem.W.kitOne K (.ref C_NoText) (.type "int") = some false) (v4 : PySem.W.kitOne K (.ref C_NoText) (.type "str") = some false) (xk : PySem.W.keepIn K (.ref C_NoText) = true) :
  ∃ fd : FuncData, (∀ (s : Shared) (v : Value), BindsTo s fd ⟨[v], []⟩ [("_law_script", v)]) /\ ∀ base : Heap, K.In base -> base.Ns mainGlobals mg -> FnOk l.prog w K mg base CX0 10 fa fd ["_law_script"] ((fun vs H Q E => ∀ cE, spF K (F_law cE) vs H Q E)) := by
 have e := hfa.symm.trans (PySem.W.mg_of X G a26)
 cases e
 have F0 := fun_mk (st := s_common_divisor) l0 c0 k0
 have F1 := fun_mk (st := s_fraction) l1 c1 k1
 have F2 := fun_mk (st := s_figures_of) l2 c2 k2
 have F3 := fun_mk (st := s_written) l3 c3 k3
 have F4 := fun_mk (st := s_read_figures) l4 c4 k4
 have F5 := fun_mk (st := s_read_signed) l5 c5 k5
 have F6 := fun_mk (st := s_read_fraction) l6 c6 k6
 have F7 := fun_mk (st := s_read_whole) l7 c7 k7
 have F8 := fun_mk (st := s_read_amount) l8 c8 k8
 have F9 := fun_mk (st := s_read_price) l9 c9 k9
 have F10 := fun_mk (st := s_read_share) l10 c10 k10
 have F11 := fun_mk (st := s_read_name) l11 c11 k11
 have F12 := fun_mk (st := s_read_parts) l12 c12 k12
 have F13 := fun_mk (st := s_read_store) l13 c13 k13
 have F14 := fun_mk (st := s_read_hour) l14 c14 k14
 have F15 := fun_mk (st := s_read_work) l15 c15 k15
 have F16 := fun_mk (st := s_read_hours) l16 c16 k16
 have F17 := fun_mk (st := s_read_works) l17 c17 k17
 have F18 := fun_mk (st := s_read) l18 c18 k18
 have F19 := fun_mk (st := s_l_draw) l19 c19 k19
 have F20 := fun_mk (st := s_l_same) l20 c20 k20
 have F21 := fun_mk (st := s_l_many) l21 c21 k21
 have F22 := fun_mk (st := s_l_work) l22 c22 k22
 have F23 := fun_mk (st := s_l_hours) l23 c23 k23
 have F24 := fun_mk (st := s_l_works) l24 c24 k24
 have F25 := fun_mk (st := s_l_begun) l25 c25 k25
 have F26 := fun_mk (st := s_law) l26 c26 k26
 let ad : Ads := ⟨f0, PySem.W.fnOf "common_divisor" "common_divisor" (defArgs s_common_divisor) (defBody s_common_divisor) (defScope s_common_divisor) .none kV0 dc0 pm0 an0 cd0 ct0, f1, PySem.W.fnOf "fraction" "fraction" (defArgs s_fraction) (defBody s_fraction) (defScope s_fraction) .none kV1 dc1 pm1 an1 cd1 ct1, f2, PySem.W.fnOf "figures_of" "figures_of" (defArgs s_figures_of) (defBody s_figures_of) (defScope s_figures_of) .none kV2 dc2 pm2 an2 cd2 ct2, f3, PySem.W.fnOf "written" "written" (defArgs s_written) (defBody s_written) (defScope s_written) .none kV3 dc3 pm3 an3 cd3 ct3, f4, PySem.W.fnOf "read_figures" "read_figures" (defArgs s_read_figures) (defBody s_read_figures) (defScope s_read_figures) .none kV4 dc4 pm4 an4 cd4 ct4, f5, PySem.W.fnOf "read_signed" "read_signed" (defArgs s_read_signed) (defBody s_read_signed) (defScope s_read_signed) .none kV5 dc5 pm5 an5 cd5 ct5, f6, PySem.W.fnOf "read_fraction" "read_fraction" (defArgs s_read_fraction) (defBody s_read_fraction) (defScope s_read_fraction) .none kV6 dc6 pm6 an6 cd6 ct6, f7, PySem.W.fnOf "read_whole" "read_whole" (defArgs s_read_whole) (defBody s_read_whole) (defScope s_read_whole) .none kV7 dc7 pm7 an7 cd7 ct7, f8, PySem.W.fnOf "read_amount" "read_amount" (defArgs s_read_amount) (defBody s_read_amount) (defScope s_read_amount) .none kV8 dc8 pm8 an8 cd8 ct8, f9, PySem.W.fnOf "read_price" "read_price" (defArgs s_read_price) (defBody s_read_price) (defScope s_read_price) .none kV9 dc9 pm9 an9 cd9 ct9, f10, PySem.W.fnOf "read_share" "read_share" (defArgs s_read_share) (defBody s_read_share) (defScope s_read_share) .none kV10 dc10 pm10 an10 cd10 ct10, f11, PySem.W.fnOf "read_name" "read_name" (defArgs s_read_name) (defBody s_read_name) (defScope s_read_name) .none kV11 dc11 pm11 an11 cd11 ct11, f12, PySem.W.fnOf "read_parts" "read_parts" (defArgs s_read_parts) (defBody s_read_parts) (defScope s_read_parts) .none kV12 dc12 pm12 an12 cd12 ct12, f13, PySem.W.fnOf "read_store" "read_store" (defArgs s_read_store) (defBody s_read_store) (defScope s_read_store) .none kV13 dc13 pm13 an13 cd13 ct13, f14, PySem.W.fnOf "read_hour" "read_hour" (defArgs s_read_hour) (defBody s_read_hour) (defScope s_read_hour) .none kV14 dc14 pm14 an14 cd14 ct14, f15, PySem.W.fnOf "read_work" "read_work" (defArgs s_read_work) (defBody s_read_work) (defScope s_read_work) .none kV15 dc15 pm15 an15 cd15 ct15, f16, PySem.W.fnOf "read_hours" "read_hours" (defArgs s_read_hours) (defBody s_read_hours) (defScope s_read_hours) .none kV16 dc16 pm16 an16 cd16 ct16, f17, PySem.W.fnOf "read_works" "read_works" (defArgs s_read_works) (defBody s_read_works) (defScope s_read_works) .none kV17 dc17 pm17 an17 cd17 ct17, f18, PySem.W.fnOf "read" "read" (defArgs s_read) (defBody s_read) (defScope s_read) .none kV18 dc18 pm18 an18 cd18 ct18, f19, PySem.W.fnOf "_law_draw" "_law_draw" (defArgs s_l_draw) (defBody s_l_draw) (defScope s_l_draw) .none kV19 dc19 pm19 an19 cd19 ct19, f20, PySem.W.fnOf "_law_same" "_law_same" (defArgs s_l_same) (defBody s_l_same) (defScope s_l_same) .none kV20 dc20 pm20 an20 cd20 ct20, f21, PySem.W.fnOf "_law_many" "_law_many" (defArgs s_l_many) (defBody s_l_many) (defScope s_l_many) .none kV21 dc21 pm21 an21 cd21 ct21, f22, PySem.W.fnOf "_law_work" "_law_work" (defArgs s_l_work) (defBody s_l_work) (defScope s_l_work) .none kV22 dc22 pm22 an22 cd22 ct22, f23, PySem.W.fnOf "_law_hours" "_law_hours" (defArgs s_l_hours) (defBody s_l_hours) (defScope s_l_hours) .none kV23 dc23 pm23 an23 cd23 ct23, f24, PySem.W.fnOf "_law_works" "_law_works" (defArgs s_l_works) (defBody s_l_works) (defScope s_l_works) .none kV24 dc24 pm24 an24 cd24 ct24, f25, PySem.W.fnOf "_law_begun" "_law_begun" (defArgs s_l_begun) (defBody s_l_begun) (defScope s_l_begun) .none kV25 dc25 pm25 an25 cd25 ct25, fa, PySem.W.fnOf "law" "law" (defArgs s_law) (defBody s_law) (defScope s_law) .none kV26 dc26 pm26 an26 cd26 ct26, .str "0123456789" kt_FIGURES, .str "0123456789", .ref kq_HOUR_PARTS, .ref kq_HOUR_PARTS, .str "abcdefghijklmnopqrstuvwxyz" kt_LETTERS, .str "abcdefghijklmnopqrstuvwxyz", .ref kq_LINE_PARTS, .ref kq_LINE_PARTS, .int (1000) kt_MOST_BOTTOM, .int (1000), .int (60) kt_MOST_FIGURES, .int (60), .int (24) kt_MOST_HOURS, .int (24), .int (8) kt_MOST_LETTERS, .int (8), .int (1000000) kt_MOST_NUMBER, .int (1000000), .int (6) kt_MOST_WORKS, .int (6), .ref kq_STORE_PARTS, .ref kq_STORE_PARTS, .ref kq_WORK_PARTS, .ref kq_WORK_PARTS, C_NoText, C_StoreError, f_init, PySem.W.fnOf "__init__" "NoText.__init__" (defArgs s_init) (defBody s_init) (defScope s_init) .none kVE dcE pmE anE cdE ctE⟩
 have FI := fun_mk (st := s_init) xli xci xki
 have T : Txt K mg ad := ⟨F0, PySem.W.mg_of X G a0, F0.binds (ps := ["one", "other"]) fun _ _ _ _ _ _ us hl => match us, hl with | [_, _], _ => rfl, F1, PySem.W.mg_of X G a1, F1.binds (ps := ["top", "bottom"]) fun _ _ _ _ _ _ us hl => match us, hl with | [_, _], _ => rfl, F2, PySem.W.mg_of X G a2, F2.binds (ps := ["number"]) fun _ _ _ _ _ _ us hl => match us, hl with | [_], _ => rfl, F3, PySem.W.mg_of X G a3, F3.binds (ps := ["one"]) fun _ _ _ _ _ _ us hl => match us, hl with | [_], _ => rfl, F4, PySem.W.mg_of X G a4, F4.binds (ps := ["text"]) fun _ _ _ _ _ _ us hl => match us, hl with | [_], _ => rfl, F5, PySem.W.mg_of X G a5, F5.binds (ps := ["text"]) fun _ _ _ _ _ _ us hl => match us, hl with | [_], _ => rfl, F6, PySem.W.mg_of X G a6, F6.binds (ps := ["text"]) fun _ _ _ _ _ _ us hl => match us, hl with | [_], _ => rfl, F7, PySem.W.mg_of X G a7, F7.binds (ps := ["word", "least"]) fun _ _ _ _ _ _ us hl => match us, hl with | [_, _], _ => rfl, F8, PySem.W.mg_of X G a8, F8.binds (ps := ["word"]) fun _ _ _ _ _ _ us hl => match us, hl with | [_], _ => rfl, F9, PySem.W.mg_of X G a9, F9.binds (ps := ["word"]) fun _ _ _ _ _ _ us hl => match us, hl with | [_], _ => rfl, F10, PySem.W.mg_of X G a10, F10.binds (ps := ["word"]) fun _ _ _ _ _ _ us hl => match us, hl with | [_], _ => rfl, F11, PySem.W.mg_of X G a11, F11.binds (ps := ["word"]) fun _ _ _ _ _ _ us hl => match us, hl with | [_], _ => rfl, F12, PySem.W.mg_of X G a12, F12.binds (ps := ["words", "readers"]) fun _ _ _ _ _ _ us hl => match us, hl with | [_, _], _ => rfl, F13, PySem.W.mg_of X G a13, F13.binds (ps := ["words"]) fun _ _ _ _ _ _ us hl => match us, hl with | [_], _ => rfl, F14, PySem.W.mg_of X G a14, F14.binds (ps := ["words"]) fun _ _ _ _ _ _ us hl => match us, hl with | [_], _ => rfl, F15, PySem.W.mg_of X G a15, F15.binds (ps := ["words", "hours"]) fun _ _ _ _ _ _ us hl => match us, hl with | [_, _], _ => rfl, F16, PySem.W.mg_of X G a16, F16.binds (ps := ["rows"]) fun _ _ _ _ _ _ us hl => match us, hl with | [_], _ => rfl, F17, PySem.W.mg_of X G a17, F17.binds (ps := ["rows", "hours"]) fun _ _ _ _ _ _ us hl => match us, hl with | [_, _], _ => rfl, F18, PySem.W.mg_of X G a18, F18.binds (ps := ["lines"]) fun _ _ _ _ _ _ us hl => match us, hl with | [_], _ => rfl, F19, PySem.W.mg_of X G a19, F19.binds (ps := ["_law_script", "_law_k", "_law_many_here"]) fun _ _ _ _ _ _ us hl => match us, hl with | [_, _, _], _ => rfl, F20, PySem.W.mg_of X G a20, F20.binds (ps := ["_law_found", "_law_due"]) fun _ _ _ _ _ _ us hl => match us, hl with | [_, _], _ => rfl, F21, PySem.W.mg_of X G a21, F21.binds (ps := ["_law_script", "_law_k", "_law_most"]) fun _ _ _ _ _ _ us hl => match us, hl with | [_, _, _], _ => rfl, F22, PySem.W.mg_of X G a22, F22.binds (ps := ["_law_script", "_law_j", "_law_hours_here"]) fun _ _ _ _ _ _ us hl => match us, hl with | [_, _, _], _ => rfl, F23, PySem.W.mg_of X G a23, F23.binds (ps := ["_law_script", "_law_fault", "_law_lines", "_law_bads"]) fun _ _ _ _ _ _ us hl => match us, hl with | [_, _, _, _], _ => rfl, F24, PySem.W.mg_of X G a24, F24.binds (ps := ["_law_script", "_law_fault", "_law_hours_here", "_law_lines", "_law_bads"]) fun _ _ _ _ _ _ us hl => match us, hl with | [_, _, _, _, _], _ => rfl, F25, PySem.W.mg_of X G a25, F25.binds (ps := ["_law_script", "_law_fault", "_law_lines", "_law_bads"]) fun _ _ _ _ _ _ us hl => match us, hl with | [_, _, _, _], _ => rfl, F26, PySem.W.mg_of X G a26, F26.binds (ps := ["_law_script"]) fun _ _ _ _ _ _ us hl => match us, hl with | [_], _ => rfl, a8, a11, a9, a10, PySem.W.mg_none_of X G z_abs, PySem.W.mg_none_of X G z_all, PySem.W.mg_none_of X G z_bool, PySem.W.mg_none_of X G z_int, PySem.W.mg_none_of X G z_isinstance, PySem.W.mg_none_of X G z_len, PySem.W.mg_none_of X G z_list, PySem.W.mg_none_of X G z_max, PySem.W.mg_none_of X G z_min, PySem.W.mg_none_of X G z_range, PySem.W.mg_none_of X G z_str, PySem.W.mg_none_of X G z_tuple, PySem.W.mg_none_of X G z_zip, PySem.W.mg_of X G xa_NoText, PySem.W.mg_of X G xa_StoreError, ⟨⟨nmE, qnE, NE, bsE, snE, subE, abE, colE, ddE, e0, e1, e2, e3, e5, xl, x1, x2⟩, xt, ⟨_, xli, rfl⟩, y1, y2, y3, y4, y5⟩, ⟨w1, w2, w3, w4, w5, w6, w7, w8, v0, v1, v2, v3, v4⟩, xk, FI, FI.binds (ps := ["self", "place"]) fun _ _ _ _ _ _ us hl => match us, hl with | [_, _], _ => rfl, const_flat (PySem.W.mg_of X G ka_FIGURES) ⟨_, rfl⟩ fun _ => .str _, const_tup (vs := [.ref f8, .ref f8]) (PySem.W.mg_of X G ka_HOUR_PARTS) kl_HOUR_PARTS (by simp) (.cons rfl (.cons rfl .nil)) fun H => (.cons (.fn a8) (.cons (.fn a8) .nil)), const_flat (PySem.W.mg_of X G ka_LETTERS) ⟨_, rfl⟩ fun _ => .str _, const_tup (vs := [.ref f9, .ref f8, .ref f9, .ref f8]) (PySem.W.mg_of X G ka_LINE_PARTS) kl_LINE_PARTS (by simp) (.cons rfl (.cons rfl (.cons rfl (.cons rfl .nil)))) fun H => (.cons (.fn a9) (.cons (.fn a8) (.cons (.fn a9) (.cons (.fn a8) .nil)))), const_flat (PySem.W.mg_of X G ka_MOST_BOTTOM) ⟨_, rfl⟩ fun _ => .int _, const_flat (PySem.W.mg_of X G ka_MOST_FIGURES) ⟨_, rfl⟩ fun _ => .int _, const_flat (PySem.W.mg_of X G ka_MOST_HOURS) ⟨_, rfl⟩ fun _ => .int _, const_flat (PySem.W.mg_of X G ka_MOST_LETTERS) ⟨_, rfl⟩ fun _ => .int _, const_flat (PySem.W.mg_of X G ka_MOST_NUMBER) ⟨_, rfl⟩ fun _ => .int _, const_flat (PySem.W.mg_of X G ka_MOST_WORKS) ⟨_, rfl⟩ fun _ => .int _, const_tup (vs := [.ref f8, .ref f8, .ref f8, .ref f8, .ref f10, .ref f10, .ref f8]) (PySem.W.mg_of X G ka_STORE_PARTS) kl_STORE_PARTS (by simp) (.cons rfl (.cons rfl (.cons rfl (.cons rfl (.cons rfl (.cons rfl (.cons rfl .nil))))))) fun H => (.cons (.fn a8) (.cons (.fn a8) (.cons (.fn a8) (.cons (.fn a8) (.cons (.fn a10) (.cons (.fn a10) (.cons (.fn a8) .nil))))))), const_tup (vs := [.ref f11, .ref f8, .ref f8, .ref f8, .ref f8]) (PySem.W.mg_of X G ka_WORK_PARTS) kl_WORK_PARTS (by simp) (.cons rfl (.cons rfl (.cons rfl (.cons rfl (.cons rfl .nil))))) fun H => (.cons (.fn a11) (.cons (.fn a8) (.cons (.fn a8) (.cons (.fn a8) (.cons (.fn a8) .nil)))))⟩
 exact ⟨PySem.W.fnOf "law" "law" (defArgs s_law) (defBody s_law) (defScope s_law) .none kV26 dc26 pm26 an26 cd26 ct26, fun s v => .of_eq rfl, fun base _ _ => (ok_law T).imp fun vs H Q E h => h _⟩
theorem walk {l : PySem.W.OpenLaw} {q : Program} {loose : List Str} {XP : (Str -> Option Value) -> Heap -> Prop} {YP : World -> Heap -> Prop} {d : DefRec} {K : Params -> PySem.W.Frag} (hL : ∀ (cE : Addr) (ns : List Int), ns.length <= 63 -> F_law cE [.list (ns.map .int)] = some (.dat (.bool true))) (hn : l.most = some 63) (hdf : d.params.defaults = [])
  (hY : ∀ (w : World) (h : Heap), YP w h -> (K w.params).In h)
  (F : ∀ (w : World) (mg : Str -> Option Value) (fa : Addr) (h : Heap), (K w.params).In h -> h.Ns mainGlobals mg -> mg d.name = some (.ref fa) ->
   ∃ fd : FuncData, (∀ (s : Shared) (u : Value), BindsTo s fd ⟨[u], []⟩ [("_law_script", u)]) /\ ∀ base : Heap, (K w.params).In base -> base.Ns mainGlobals mg -> FnOk l.prog w (K w.params) mg base CX0 10 fa fd ["_law_script"] ((fun vs H Q E => ∀ cE, spF (K w.params) (F_law cE) vs H Q E))) :
  PySem.W.WalkO q loose XP YP l.row.toRowW d [] (fun f vs => PySem.call f vs) :=
 L2.walk_of (n := 63) (k := 10) (x := "_law_script") (CX := fun _ => CX0) (sp := fun w => (fun vs H Q E => ∀ cE, spF (K w.params) (F_law cE) vs H Q E)) hn (by decide) hdf ⟨rfl, by decide, by decide⟩ hY F (fun _ _ a ns hl _ hS => fun cE => ⟨[], [.list (ns.map .int)], _, fun a h => absurd h (by simp), .cons (.lst (sqL_hid hS) (dts_ints ns)) .nil, hL cE ns hl, fun v H' _ r => dt_true r⟩) fun _ _ _ _ _ z => z
end Law
noncomputable def PySem.W.Fast.tw12921577717871872404 : Unit := ()
noncomputable def PySem.W.Fast.tw17043674672640185768 : Unit := ()
noncomputable def PySem.W.Fast.tw16541578970514519577 : Unit := ()
noncomputable def PySem.W.Fast.tw9909293671695417967 : Unit := ()
noncomputable def PySem.W.Fast.tw14550741227166968568 : Unit := ()
noncomputable def PySem.W.Fast.tw1261445900376105338 : Unit := ()
noncomputable def PySem.W.Fast.tw5558137053584127424 : Unit := ()
noncomputable def PySem.W.Fast.tw9506811945257451809 : Unit := ()
open PySem PySem.W PyProof.Rows
set_option maxRecDepth 100000 in
set_option maxHeartbeats 0 in
theorem PySem.Challenge.cw_sunstore_k07_lines_by_what_stands_above_holds : PySem.Challenge.rw_sunstore_k07_lines_by_what_stands_above.Holds := by
 w_on; o_law; k_head; (case hw => w_witness2)
 k_fill
 refine Law.walk (l := PySem.Challenge.rw_sunstore_k07_lines_by_what_stands_above) Law.law_true rfl rfl (fun w h Y => PySem.W.kIn_of Y) ?F
 case F =>
  intro w mg fa h KX G hmg
  refine' Law.all_mk KX G hmg ?a0 ?l0 ?c0 ?k0 ?a1 ?l1 ?c1 ?k1 ?a2 ?l2 ?c2 ?k2 ?a3 ?l3 ?c3 ?k3 ?a4 ?l4 ?c4 ?k4 ?a5 ?l5 ?c5 ?k5 ?a6 ?l6 ?c6 ?k6 ?a7 ?l7 ?c7 ?k7 ?a8 ?l8 ?c8 ?k8 ?a9 ?l9 ?c9 ?k9 ?a10 ?l10 ?c10 ?k10 ?a11 ?l11 ?c11 ?k11 ?a12 ?l12 ?c12 ?k12 ?a13 ?l13 ?c13 ?k13 ?a14 ?l14 ?c14 ?k14 ?a15 ?l15 ?c15 ?k15 ?a16 ?l16 ?c16 ?k16 ?a17 ?l17 ?c17 ?k17 ?a18 ?l18 ?c18 ?k18 ?a19 ?l19 ?c19 ?k19 ?a20 ?l20 ?c20 ?k20 ?a21 ?l21 ?c21 ?k21 ?a22 ?l22 ?c22 ?k22 ?a23 ?l23 ?c23 ?k23 ?a24 ?l24 ?c24 ?k24 ?a25 ?l25 ?c25 ?k25 ?a26 ?l26 ?c26 ?k26 ?z_abs ?z_all ?z_bool ?z_int ?z_isinstance ?z_len ?z_list ?z_max ?z_min ?z_range ?z_str ?z_tuple ?z_zip ?ka_FIGURES ?ka_HOUR_PARTS ?kl_HOUR_PARTS ?ka_LETTERS ?ka_LINE_PARTS ?kl_LINE_PARTS ?ka_MOST_BOTTOM ?ka_MOST_FIGURES ?ka_MOST_HOURS ?ka_MOST_LETTERS ?ka_MOST_NUMBER ?ka_MOST_WORKS ?ka_STORE_PARTS ?kl_STORE_PARTS ?ka_WORK_PARTS ?kl_WORK_PARTS ?xa_NoText ?xa_StoreError ?xl ?x1 ?x2 ?xt ?xli ?xci ?xki ?y1 ?y2 ?y3 ?y4 ?y5 ?w1 ?w2 ?w3 ?w4 ?w5 ?w6 ?w7 ?w8 ?v0 ?v1 ?v2 ?v3 ?v4 ?xk
  (case a0 => k_is)
  (case l0 => k_is)
  (case c0 => k_is)
  (case k0 => k_is)
  (case a1 => k_is)
  (case l1 => k_is)
  (case c1 => k_is)
  (case k1 => k_is)
  (case a2 => k_is)
  (case l2 => k_is)
  (case c2 => k_is)
  (case k2 => k_is)
  (case a3 => k_is)
  (case l3 => k_is)
  (case c3 => k_is)
  (case k3 => k_is)
  (case a4 => k_is)
  (case l4 => k_is)
  (case c4 => k_is)
  (case k4 => k_is)
  (case a5 => k_is)
  (case l5 => k_is)
  (case c5 => k_is)
  (case k5 => k_is)
  (case a6 => k_is)
  (case l6 => k_is)
  (case c6 => k_is)
  (case k6 => k_is)
  (case a7 => k_is)
  (case l7 => k_is)
  (case c7 => k_is)
  (case k7 => k_is)
  (case a8 => k_is)
  (case l8 => k_is)
  (case c8 => k_is)
  (case k8 => k_is)
  (case a9 => k_is)
  (case l9 => k_is)
  (case c9 => k_is)
  (case k9 => k_is)
  (case a10 => k_is)
  (case l10 => k_is)
  (case c10 => k_is)
  (case k10 => k_is)
  (case a11 => k_is)
  (case l11 => k_is)
  (case c11 => k_is)
  (case k11 => k_is)
  (case a12 => k_is)
  (case l12 => k_is)
  (case c12 => k_is)
  (case k12 => k_is)
  (case a13 => k_is)
  (case l13 => k_is)
  (case c13 => k_is)
  (case k13 => k_is)
  (case a14 => k_is)
  (case l14 => k_is)
  (case c14 => k_is)
  (case k14 => k_is)
  (case a15 => k_is)
  (case l15 => k_is)
  (case c15 => k_is)
  (case k15 => k_is)
  (case a16 => k_is)
  (case l16 => k_is)
  (case c16 => k_is)
  (case k16 => k_is)
  (case a17 => k_is)
  (case l17 => k_is)
  (case c17 => k_is)
  (case k17 => k_is)
  (case a18 => k_is)
  (case l18 => k_is)
  (case c18 => k_is)
  (case k18 => k_is)
  (case a19 => k_is)
  (case l19 => k_is)
  (case c19 => k_is)
  (case k19 => k_is)
  (case a20 => k_is)
  (case l20 => k_is)
  (case c20 => k_is)
  (case k20 => k_is)
  (case a21 => k_is)
  (case l21 => k_is)
  (case c21 => k_is)
  (case k21 => k_is)
  (case a22 => k_is)
  (case l22 => k_is)
  (case c22 => k_is)
  (case k22 => k_is)
  (case a23 => k_is)
  (case l23 => k_is)
  (case c23 => k_is)
  (case k23 => k_is)
  (case a24 => k_is)
  (case l24 => k_is)
  (case c24 => k_is)
  (case k24 => k_is)
  (case a25 => k_is)
  (case l25 => k_is)
  (case c25 => k_is)
  (case k25 => k_is)
  (case a26 => k_is)
  (case l26 => k_is)
  (case c26 => k_is)
  (case k26 => k_is)
  (case z_abs => k_is)
  (case z_all => k_is)
  (case z_bool => k_is)
  (case z_int => k_is)
  (case z_isinstance => k_is)
  (case z_len => k_is)
  (case z_list => k_is)
  (case z_max => k_is)
  (case z_min => k_is)
  (case z_range => k_is)
  (case z_str => k_is)
  (case z_tuple => k_is)
  (case z_zip => k_is)
  (case ka_FIGURES => k_is)
  (case ka_HOUR_PARTS => k_is)
  (case kl_HOUR_PARTS => k_is)
  (case ka_LETTERS => k_is)
  (case ka_LINE_PARTS => k_is)
  (case kl_LINE_PARTS => k_is)
  (case ka_MOST_BOTTOM => k_is)
  (case ka_MOST_FIGURES => k_is)
  (case ka_MOST_HOURS => k_is)
  (case ka_MOST_LETTERS => k_is)
  (case ka_MOST_NUMBER => k_is)
  (case ka_MOST_WORKS => k_is)
  (case ka_STORE_PARTS => k_is)
  (case kl_STORE_PARTS => k_is)
  (case ka_WORK_PARTS => k_is)
  (case kl_WORK_PARTS => k_is)
  (case xa_NoText => k_is)
  (case xa_StoreError => k_is)
  (case xl => k_is)
  (case x1 => kernel_rfl)
  (case x2 => k_is)
  (case xt => kernel_rfl)
  (case xli => k_is)
  (case xci => k_is)
  (case xki => k_is)
  (case y1 => k_is)
  (case y2 => k_is)
  (case y3 => k_is)
  (case y4 => k_is)
  (case y5 => k_is)
  (case w1 => k_is)
  (case w2 => k_is)
  (case w3 => k_is)
  (case w4 => k_is)
  (case w5 => k_is)
  (case w6 => k_is)
  (case w7 => k_is)
  (case w8 => k_is)
  (case v0 => kit_is)
  (case v1 => kit_is)
  (case v2 => kit_is)
  (case v3 => kit_is)
  (case v4 => kit_is)
  (case xk => k_is)
