import PyProof.Rows.All
import Wide.All
import OpenK.AllK
import Wide.FinOn
import Lean
import PyProof.EqAt
import PyProof.EqKinds
import PyProof.TupleCall
import PySem.Challenge.RW_sunstore_k71_lines_of_no_rule
set_option Elab.async false
set_option linter.all false
set_option maxRecDepth 100000
namespace L2
open PySem PySem.Spec PyProof.Rows
noncomputable abbrev Key := Sum Int Str
noncomputable def keyIs : Key -> Value -> Bool
 | .inl k, v => Value.isInt k v
 | .inr x, v => Value.isStrOf x v
noncomputable def keyH (w : World) : Key -> Int
 | .inl k => hashInt k
 | .inr x => hashStr w x
theorem keyIs_shape : ∀ {k : Key} {v : Value}, keyIs k v = true -> (∃ i t, k = Sum.inl i /\ v = Value.int i t) \/ (∃ x t, k = Sum.inr x /\ v = Value.str x t)
 | .inl i, v, h => by
  obtain ⟨t, e⟩ := Value.isInt_shape (k := i) (v := v) h
  exact .inl ⟨i, t, rfl, e⟩
 | .inr x, v, h => by
  obtain ⟨t, e⟩ := Value.isStrOf_shape (x := x) (v := v) h
  exact .inr ⟨x, t, rfl, e⟩
theorem key_ll (a b : Int) : decide ((Sum.inl a : Key) = Sum.inl b) = (a == b) := by
 by_cases e : a = b
 . subst e; simp
 . have h : ¬ (Sum.inl a : Key) = Sum.inl b := fun q => e (Sum.inl.inj q)
   rw [decide_eq_false h]
   exact (beq_eq_false_iff_ne.mpr e).symm
theorem key_rr (a b : Str) : decide ((Sum.inr a : Key) = Sum.inr b) = decide (a = b) := by
 by_cases e : a = b
 . subst e; simp
 . have h : ¬ (Sum.inr a : Key) = Sum.inr b := fun q => e (Sum.inr.inj q)
   rw [decide_eq_false h, decide_eq_false e]
theorem key_lr (a : Int) (b : Str) : decide ((Sum.inl a : Key) = Sum.inr b) = false := decide_eq_false (fun q => nomatch q)
theorem key_rl (a : Str) (b : Int) : decide ((Sum.inr a : Key) = Sum.inl b) = false := decide_eq_false (fun q => nomatch q)
noncomputable def mixKind (prog : Program) (w : World) : PySem.KeyKind prog w Key where
 is := keyIs
 hash := keyH w
 inj := fun v a b ha hb => by
  rcases keyIs_shape ha with ⟨i, t, rfl, rfl⟩ | ⟨x, t, rfl, rfl⟩
  . rcases keyIs_shape hb with ⟨j, u, rfl, e⟩ | ⟨y, u, rfl, e⟩
    . injection e with e1 _; rw [e1]
    . exact nomatch e
  . rcases keyIs_shape hb with ⟨j, u, rfl, e⟩ | ⟨y, u, rfl, e⟩
    . exact nomatch e
    . injection e with e1 _; rw [e1]
 byValue := fun k v h => by
  rcases keyIs_shape h with ⟨i, t, rfl, rfl⟩ | ⟨x, t, rfl, rfl⟩ <;> rfl
 pyHash := fun hv h => by
  rcases keyIs_shape hv with ⟨i, t, rfl, rfl⟩ | ⟨x, t, rfl, rfl⟩
  . exact wpAny_pyHash_int h
  . exact wpAny_pyHash_str h
 eqBool := fun hu hv h => by
  rcases keyIs_shape hu with ⟨i, t, rfl, rfl⟩ | ⟨x, t, rfl, rfl⟩
  . rcases keyIs_shape hv with ⟨j, u, rfl, rfl⟩ | ⟨y, u, rfl, rfl⟩
    . rw [key_ll] at h; exact wpAny_eqBool_int h
    . rw [key_lr] at h; exact SeqAt.EqAt.int_str i t y u _ _ _ _ h
  . rcases keyIs_shape hv with ⟨j, u, rfl, rfl⟩ | ⟨y, u, rfl, rfl⟩
    . rw [key_rl] at h; exact SeqAt.EqAt.str_int x t j u _ _ _ _ h
    . rw [key_rr] at h; exact wpAny_eqBool_str h
 «strs» := fun k x t v h => by
  rcases keyIs_shape h with ⟨i, u, rfl, e⟩ | ⟨y, u, rfl, e⟩
  . exact nomatch e
  . injection e with e1 _
    subst e1
    cases v <;> rfl
end L2
namespace L2
open PySem PySem.Spec PyProof.Rows
inductive V where
 | non | bl (b : Bool) | int (i : Int) | str (x : Str) | byt (b : Array UInt8) | flt (b : UInt64) | ref (a : Addr) | ty (n : String)
 deriving DecidableEq
noncomputable def RelV : V -> Value -> Prop
 | .non, u => u = Value.none
 | .bl b, u => u = Value.bool b
 | .int i, u => ∃ t, u = Value.int i t
 | .str x, u => ∃ t, u = Value.str x t
 | .byt b, u => ∃ t, u = Value.bytes b t
 | .flt b, u => ∃ t, u = Value.float b t
 | .ref a, u => u = Value.ref a
 | .ty n, u => u = Value.type n
noncomputable abbrev Vals : List V -> List Value -> Prop := Paired RelV
theorem Vals.length {xs : List V} {us : List Value} (r : Vals xs us) : xs.length = us.length := Paired.length r
theorem Vals.get : ∀ {xs : List V} {us : List Value} {i : Nat} {x : V}, Vals xs us -> xs[i]? = some x -> ∃ u, us[i]? = some u /\ RelV x u
 | _, _, _, _, .nil, e => by simp at e
 | _, _, 0, _, .cons r _, e => by simp at e; subst e; exact ⟨_, rfl, r⟩
 | _, _, i + 1, x, .cons _ t, e => by
  obtain ⟨u, h1, h2⟩ := Vals.get (i := i) (x := x) t (by simpa using e)
  exact ⟨u, by simpa using h1, h2⟩
theorem Vals.set {x : V} {u : Value} (r : RelV x u) : ∀ {xs : List V} {us : List Value} (i : Nat), Vals xs us -> Vals (xs.set i x) (us.set i u)
 | _, _, _, .nil => .nil
 | _, _, 0, .cons _ t => .cons r t
 | _, _, i + 1, .cons q t => .cons q (Vals.set r i t)
theorem Vals.append : ∀ {xs ys : List V} {us ws : List Value}, Vals xs us -> Vals ys ws -> Vals (xs ++ ys) (us ++ ws)
 | _, _, _, _, .nil, s => s
 | _, _, _, _, .cons r t, s => .cons r (Vals.append t s)
theorem Vals.take : ∀ {xs : List V} {us : List Value} (n : Nat), Vals xs us -> Vals (xs.take n) (us.take n)
 | _, _, 0, _ => .nil
 | _, _, _ + 1, .nil => .nil
 | _, _, n + 1, .cons r t => .cons r (Vals.take n t)
theorem Vals.drop : ∀ {xs : List V} {us : List Value} (n : Nat), Vals xs us -> Vals (xs.drop n) (us.drop n)
 | _, _, 0, r => r
 | _, _, _ + 1, .nil => .nil
 | _, _, n + 1, .cons _ t => Vals.drop n t
noncomputable def RelO : Option V -> Option Value -> Prop
 | some v, some u => RelV v u
 | none, none => True
 | _, _ => False
noncomputable def KV {κ : Type} : List (κ × V) -> List (κ × Value) -> Prop := Paired fun (p : κ × V) (q : κ × Value) => p.1 = q.1 /\ RelV p.2 q.2
noncomputable def kV : Key -> V
 | .inl i => .int i
 | .inr x => .str x
inductive HO where
 | lst (xs : List V)
 | tup (xs : List V)
 | dK (kvs : List (Key × V)) | dT (kvs : List (List Key × V))
 | set (S : Int -> Bool) (n : Nat)
 | ins (C dx : Addr) (fs : List (Str × V))
 | own (x : Addr)
 | xd (fs : List (Str × V))
 | met (f x : Addr)
 | rng (lo hi : Int)
 | frz (o : Obj) (u : HO)
 | tbl (ps : Array Value)
 | ext (φ : Heap -> Prop)
noncomputable abbrev Hp := Addr -> Option HO
noncomputable def upd (H : Hp) (a : Addr) (o : HO) : Hp := fun b => if b = a then some o else H b
theorem upd_same {H : Hp} {a : Addr} {o : HO} : upd H a o a = some o := by unfold upd; rw [if_pos rfl]
theorem upd_ne {H : Hp} {a b : Addr} {o : HO} (h : b ≠ a) : upd H a o b = H b := by unfold upd; rw [if_neg h]
theorem upd_upd {H : Hp} {a : Addr} {o u : HO} : upd (upd H a o) a u = upd H a u := by
 funext b; unfold upd; split <;> rfl
theorem ne_of_none {H : Hp} {a b : Addr} {o : HO} (h : H a = some o) (h' : H b = none) : a ≠ b := by
 intro e; subst e; rw [h] at h'; cases h'
section
variable (P : Program) (w : World)
noncomputable def ObjOk (H : Hp) (h : Heap) (a : Addr) : HO -> Prop
 | .lst xs => xs.length <= sizeLine /\ ∃ (its : List Value) (n : Nat), Vals xs its /\ h.get? a = some { cls := .type "list", data := .seq its.toArray n }
 | .tup xs => xs.length <= sizeLine /\ ∃ its : List Value, Vals xs its /\ IsTup h a its.toArray
 | .dK kvs => kvs.length <= sizeLine /\ (a == sysModules) = false /\ ∃ vs, KV kvs vs /\ h.DictOf (mixKind P w) a vs
 | .dT kvs => kvs.length <= sizeLine /\ (a == sysModules) = false /\ ∃ xs : List (List Key × Addr × Value),
   Paired (fun (p : List Key × V) (q : List Key × Addr × Value) => p.1 = q.1 /\ H q.2.1 = some (.tup (p.1.map kV)) /\ RelV p.2 q.2.2) kvs xs /\
   ∃ o es ep, h.get? a = some o /\ o.ExactDict /\ o.data = .dict es ep /\ es.toList = xs.map (entryOfKey (tupleKind (mixKind P w))) /\ (xs.map (·.1)).Nodup
 | .set S n => h.SetOf (intKind P w) a S n
 | .ins C dx fs => H dx = some (.own a) /\ fs.length <= 1000 /\ dx ≠ a /\ h.get? a = some (PySem.W.instObj C dx) /\
   ∃ mA, h.Ns1 dx mA /\ (∀ f, RelO (fs.lookup f) (mA f)) /\ PySem.Within mA (fs.map (·.1))
 | .own _ => ∃ o, h.get? a = some o
 | .xd fs => ∃ mA, h.Ns1 a mA /\ ∀ f, RelO (fs.lookup f) (mA f)
 | .rng lo hi => ∃ t u v, h.get? a = some { cls := .type "range", data := .fields #[.int lo t, .int hi u, .int 1 v] }
 | .frz o u => h.get? a = some o /\ ObjOk H h a u
 | .tbl ps => h.get? a = some { cls := .none, data := .fields ps }
 | .met f x => h.get? a = some (PySem.W.methodObj (.ref f) (.ref x))
 | .ext φ => φ h /\ (∃ o, h.get? a = some o) /\ ∀ h1 h2 : Heap, φ h1 -> (∀ o, h1.get? a = some o -> h2.get? a = some o) -> φ h2
noncomputable def HOk (H : Hp) (h : Heap) : Prop := ∀ a o, H a = some o -> ObjOk P w H h a o
end
section
variable {P : Program} {w : World} {H H' : Hp} {h h' : Heap} {a : Addr} {o : HO}
theorem ObjOk.lt (x : ObjOk P w H h a o) : a < h.objs.size := by
 cases o with
 | lst xs => obtain ⟨_, _, _, _, e⟩ := x; exact Heap.lt_size e
 | tup xs => obtain ⟨_, _, _, p⟩ := x; exact p.lt
 | dK kvs => obtain ⟨_, _, _, _, o, _, _, e, _⟩ := x; exact Heap.lt_size e
 | dT kvs => obtain ⟨_, _, _, _, o, _, _, e, _⟩ := x; exact Heap.lt_size e
 | set S n => obtain ⟨o, _, _, _, e, _⟩ := x; exact Heap.lt_size e
 | ins C dx fs => obtain ⟨_, _, _, e, _⟩ := x; exact Heap.lt_size e
 | own y => obtain ⟨_, e⟩ := x; exact Heap.lt_size e
 | xd fs => obtain ⟨_, ⟨_, _, _, e, _⟩, _⟩ := x; exact Heap.lt_size e
 | rng lo hi => obtain ⟨_, _, _, e⟩ := x; exact Heap.lt_size e
 | frz ob u => obtain ⟨e, _⟩ := x; exact Heap.lt_size e
 | tbl ps => exact Heap.lt_size (show h.get? a = some _ from x)
 | met f y => exact Heap.lt_size (show h.get? a = some _ from x)
 | ext φ => obtain ⟨_, ⟨_, e⟩, _⟩ := x; exact Heap.lt_size e
theorem Paired.mapP {α β : Type} {F G : α -> β -> Prop} : ∀ {l₁ : List α} {l₂ : List β}, Paired F l₁ l₂ -> (∀ a b, F a b -> G a b) -> Paired G l₁ l₂
 | _, _, .nil, _ => .nil
 | _, _, .cons r t, f => .cons (f _ _ r) (Paired.mapP t f)
theorem ObjOk.stay (x : ObjOk P w H h a o) (k : ∀ b u, (b = a \/ H b = some (.own a)) -> h.get? b = some u -> h'.get? b = some u)
  (ho : ∀ b, H b = some (.own a) -> H' b = some (.own a)) (ht : ∀ b xs, H b = some (.tup xs) -> H' b = some (.tup xs)) : ObjOk P w H' h' a o := by
 induction o with
 | lst xs => obtain ⟨z, its, n, r, e⟩ := x; exact ⟨z, its, n, r, k _ _ (.inl rfl) e⟩
 | tup xs => obtain ⟨z, its, r, ob, e, c⟩ := x; exact ⟨z, its, r, ob, k _ _ (.inl rfl) e, c⟩
 | dK kvs => obtain ⟨z, y, vs, r, ob, es, ep, e, c⟩ := x; exact ⟨z, y, vs, r, ob, es, ep, k _ _ (.inl rfl) e, c⟩
 | dT kvs =>
  obtain ⟨z, y, xs, r, ob, es, ep, e, c⟩ := x
  exact ⟨z, y, xs, Paired.mapP r fun p q z => ⟨z.1, ht _ _ z.2.1, z.2.2⟩, ob, es, ep, k _ _ (.inl rfl) e, c⟩
 | set S n => obtain ⟨ob, es, ep, t, e, c⟩ := x; exact ⟨ob, es, ep, t, k _ _ (.inl rfl) e, c⟩
 | ins C dx fs =>
  obtain ⟨d, z, ne, e, mA, ⟨od, es, ep, e2, c⟩, r⟩ := x
  exact ⟨ho _ d, z, ne, k _ _ (.inl rfl) e, mA, ⟨od, es, ep, k _ _ (.inr d) e2, c⟩, r⟩
 | own y => obtain ⟨ob, e⟩ := x; exact ⟨ob, k _ _ (.inl rfl) e⟩
 | xd fs => obtain ⟨mA, ⟨od, es, ep, e, c⟩, r⟩ := x; exact ⟨mA, ⟨od, es, ep, k _ _ (.inl rfl) e, c⟩, r⟩
 | rng lo hi => obtain ⟨t, u, v, e⟩ := x; exact ⟨t, u, v, k _ _ (.inl rfl) e⟩
 | frz ob u ih => obtain ⟨e, q⟩ := x; exact ⟨k _ _ (.inl rfl) e, ih q⟩
 | tbl ps =>
  have e : h.get? a = some { cls := .none, data := .fields ps } := x
  show h'.get? a = some { cls := .none, data := .fields ps }
  exact k a _ (.inl rfl) e
 | met f y =>
  have e : h.get? a = some (PySem.W.methodObj (.ref f) (.ref y)) := x
  show h'.get? a = some (PySem.W.methodObj (.ref f) (.ref y))
  exact k a _ (.inl rfl) e
 | ext φ => obtain ⟨p, ⟨o, e⟩, st⟩ := x; exact ⟨st _ _ p fun o q => k _ _ (.inl rfl) q, ⟨o, k _ _ (.inl rfl) e⟩, st⟩
theorem HOk.lt (x : HOk P w H h) (e : H a = some o) : a < h.objs.size := (x a o e).lt
theorem HOk.fresh (x : HOk P w H h) (e : h.objs.size <= a) : H a = none := by
 cases q : H a with
 | none => rfl
 | some u => exact absurd (Nat.lt_of_lt_of_le (x.lt q) e) (Nat.lt_irrefl _)
theorem HOk.kept (x : HOk P w H h) (k : ∀ b u, h.get? b = some u -> h'.get? b = some u) : HOk P w H h' := fun a o e =>
 (x a o e).stay (fun b u _ q => k b u q) (fun _ q => q) fun _ _ q => q
theorem HOk.laid (x : HOk P w H h) (k : ∀ b u, h.get? b = some u -> h'.get? b = some u) (hp : h.objs.size <= a) (new : ObjOk P w (upd H a o) h' a o) : HOk P w (upd H a o) h' := fun b u e => by
 have hn := x.fresh hp
 by_cases hb : b = a
 . subst hb; rw [upd_same] at e; cases e; exact new
 . rw [upd_ne hb] at e
   exact (x b u e).stay (fun c v _ q => k c v q) (fun c q => by rw [upd_ne (ne_of_none q hn)]; exact q) fun c xs q => by rw [upd_ne (ne_of_none q hn)]; exact q
end
noncomputable def Rd (H : Hp) (a : Addr) (u : HO) : Prop := H a = some u \/ ∃ o, H a = some (.frz o u)
theorem Rd.ok {P : Program} {w : World} {H : Hp} {h : Heap} {a : Addr} {u : HO} (r : Rd H a u) (x : HOk P w H h) : ObjOk P w H h a u := by
 rcases r with r | ⟨o, r⟩
 . exact x a u r
 . obtain ⟨_, q⟩ := x a _ r
   exact q
noncomputable def Mut : Option HO -> Prop
 | some (.lst _) => True
 | some (.dK _) => True
 | some (.dT _) => True
 | some (.set _ _) => True
 | some (.ins _ _ _) => True
 | some (.ext _) => True
 | _ => False
section
variable {P : Program} {w : World} {H : Hp} {h h' : Heap} {x e : Addr} {o' : HO}
theorem HOk.write (ok : HOk P w H h) (mu : Mut (H x)) (he : e = x \/ H e = some (.own x)) (k : ∀ b u, b ≠ e -> h.get? b = some u -> h'.get? b = some u) (heo : ∃ u, h'.get? e = some u)
  (new : ObjOk P w (upd H x o') h' x o') : HOk P w (upd H x o') h' := fun b u q => by
 have nown : ∀ c y, H c = some (.own y) -> c ≠ x := fun c y r z => by subst z; rw [r] at mu; exact mu
 have ntup : ∀ c xs, H c = some (.tup xs) -> c ≠ x := fun c xs r z => by subst z; rw [r] at mu; exact mu
 by_cases hb : b = x
 . subst hb; rw [upd_same] at q; cases q; exact new
 . rw [upd_ne hb] at q
   by_cases hbe : b = e
   . have q' : H b = some (.own x) := by
       rcases he with z | z
       . exact absurd (hbe.trans z) hb
       . rw [hbe]; exact z
     rw [q] at q'; cases q'
     obtain ⟨v, hv⟩ := heo
     exact ⟨v, by rw [hbe]; exact hv⟩
   . refine (ok b u q).stay (fun c v hc r => k c v ?_ r) (fun c r => by rw [upd_ne (nown c b r)]; exact r) fun c xs r => by rw [upd_ne (ntup c xs r)]; exact r
     rcases hc with rfl | hc
     . exact hbe
     . rintro rfl
       rcases he with z | z
       . exact nown c b hc z
       . rw [hc] at z; cases z; exact hb rfl
end
structure Un (fs ex : List Addr) (H H' : Hp) (h h' : Heap) : Prop where
 keep : ∀ b o, h.get? b = some o -> H b = none -> b ∉ fs -> b ∉ ex -> h'.get? b = some o
 slot : ∀ b o, h.get? b = some o -> H b = none -> b ∈ fs -> b ∉ ex -> ∃ sl, h'.get? b = some { o with slots := sl }
 free : ∀ b o, h.get? b = some o -> H b = none -> b ∉ ex -> H' b = none
 there : ∀ b o, h.get? b = some o -> b ∉ ex -> ∃ o', h'.get? b = some o'
 tups : ∀ b xs, H b = some (.tup xs) -> H' b = some (.tup xs)
 frzs : ∀ b o u, H b = some (.frz o u) -> H' b = some (.frz o u)
 tbls : ∀ b ps, H b = some (.tbl ps) -> ∃ more, H' b = some (.tbl (ps ++ more))
section
variable {fs fs' ex ex' : List Addr} {H H1 H2 : Hp} {h h1 h2 h' : Heap} {a x e : Addr} {o : HO}
theorem Un.any (u : Un fs ex H H1 h h1) {b : Addr} {ob : Obj} (q : h.get? b = some ob) (n : H b = none) (hx : b ∉ ex) : ∃ sl, h1.get? b = some { ob with slots := sl } := by
 by_cases hb : b ∈ fs
 . exact u.slot b ob q n hb hx
 . exact ⟨ob.slots, u.keep b ob q n hb hx⟩
theorem Un.kept (k : ∀ b u, h.get? b = some u -> h'.get? b = some u) : Un fs ex H H h h' :=
 ⟨fun b ob q _ _ _ => k b ob q, fun b ob q _ _ _ => ⟨ob.slots, k b ob q⟩, fun _ _ _ n _ => n, fun b ob q _ => ⟨ob, k b ob q⟩, fun _ _ q => q, fun _ _ _ q => q, fun _ ps q => ⟨#[], by rw [q]; simp⟩⟩
theorem Un.refl : Un fs ex H H h h := Un.kept fun _ _ q => q
theorem Un.laid (k : ∀ b u, h.get? b = some u -> h'.get? b = some u) (hp : h.objs.size <= a) (hn : H a = none) : Un fs ex H (upd H a o) h h' where
 keep := fun b u q _ _ _ => k b u q
 slot := fun b u q _ _ _ => ⟨u.slots, k b u q⟩
 free := fun b u q n _ => by rw [upd_ne (Nat.ne_of_lt (Nat.lt_of_lt_of_le (Heap.lt_size q) hp))]; exact n
 there := fun b u q _ => ⟨u, k b u q⟩
 tups := fun b xs q => by rw [upd_ne (ne_of_none q hn)]; exact q
 frzs := fun b u xs q => by rw [upd_ne (ne_of_none q hn)]; exact q
 tbls := fun b ps q => ⟨#[], by rw [upd_ne (ne_of_none q hn), q]; simp⟩
theorem Un.write (mu : Mut (H x)) (he : e = x \/ H e = some (.own x)) (k : ∀ b u, b ≠ e -> h.get? b = some u -> h'.get? b = some u) (heo : ∃ u, h'.get? e = some u) : Un fs ex H (upd H x o) h h' := by
 have hx : ∀ b, H b = none -> b ≠ x := fun b n z => by subst z; rw [n] at mu; exact mu
 have hb : ∀ b, H b = none -> b ≠ e := fun b n z => by
  subst z
  rcases he with r | r
  . exact hx b n r
  . rw [n] at r; cases r
 have hm : ∀ b u, H b = some u -> ¬ Mut (some u) -> b ≠ x := fun b u q nm z => by subst z; rw [q] at mu; exact nm mu
 refine ⟨fun b u q n _ _ => k b u (hb b n) q, fun b u q n _ _ => ⟨u.slots, k b u (hb b n) q⟩, fun b u q n _ => by rw [upd_ne (hx b n)]; exact n, fun b u q _ => ?_,
  fun b xs q => by rw [upd_ne (hm b _ q fun z => z)]; exact q, fun b u xs q => by rw [upd_ne (hm b _ q fun z => z)]; exact q, fun b ps q => ⟨#[], by rw [upd_ne (hm b _ q fun z => z), q]; simp⟩⟩
 by_cases hbe : b = e
 . subst hbe; exact heo
 . exact ⟨u, k b u hbe q⟩
end
noncomputable def trk (h : Heap) (H : Hp) : List Addr := (List.range h.objs.size).filter fun a => (H a).isSome
noncomputable def hidT (h : Heap) (H : Hp) : Heap := PySem.W.hideAll h (trk h H)
theorem hidT_size (h : Heap) (H : Hp) : (hidT h H).objs.size = h.objs.size := PySem.W.hideAll_size _ _
theorem hidT_get {h : Heap} {H : Hp} {b : Addr} {o : Obj} (e : h.get? b = some o) (n : H b = none) : (hidT h H).get? b = some o :=
 PySem.W.hideAll_get _ e fun hm => by
  have q : (H b).isSome = true := (List.mem_filter.mp hm).2
  rw [n] at q; simp at q
theorem of_hidT {h : Heap} {H : Hp} {b : Addr} {o : Obj} (e : (hidT h H).get? b = some o) : h.get? b = some o /\ H b = none := by
 have e' : h.get? b = some o := PySem.W.of_hideAll (trk h H) e
 refine ⟨e', ?_⟩
 cases q : H b with
 | none => rfl
 | some x =>
  have hm : b ∈ trk h H := List.mem_filter.mpr ⟨List.mem_range.mpr (Heap.lt_size e'), by simp [q]⟩
  have z : (hidT h H).get? b = none := PySem.W.hideAll_none (trk h H) hm
  rw [z] at e; cases e
noncomputable def allNews (g h : Heap) (L : Addr) : List (Addr × Obj) := (List.range h.objs.size).filterMap fun a => if a = L \/ (g.get? a).isSome = true then none else (h.get? a).map fun o => (a, o)
noncomputable def rest (g h : Heap) (L d : Addr) : List (Addr × Obj) := (allNews g h L).filter fun p => decide (p.1 ≠ d)
end L2
namespace L2
open PySem PySem.Spec PyProof.Rows
structure Mod (K : PySem.W.Frag) (mg : Str -> Option Value) (base : Heap) : Prop where
 kin : K.In base
 glob : base.Ns mainGlobals mg
 blt : ∃ mb, base.Ns builtinsNs mb /\ ∀ x : Str, x ≠ "__name__" -> mb x = bootBuiltins x
 nolimit : base.NoLimit
structure Cx where
 prog : Program
 w : World
 K : PySem.W.Frag
 mg : Str -> Option Value
 base : Heap
 A : Around
 N : List Str
 s₀ : Shared
 H₀ : Hp
 env : Env
 outer : List Env
 stack : List Env
 ex : List Addr
 fn : Str -> Bool
 calm : Bool
 pn : List (Addr × Obj)
 xe : Value -> Shared -> Prop
noncomputable def frs (l : List Env) : List Addr := l.filterMap (·.frame)
noncomputable abbrev Cx.fs (X : Cx) : List Addr := frs X.outer
noncomputable def Vis (sc : Scope) (x : Str) : Prop := sc.names.lookup x = some .local \/ sc.names.lookup x = some .cell \/ sc.names.lookup x = some .free
noncomputable def Loc (sc : Scope) (x : Str) : Prop := sc.names.lookup x = some .local \/ sc.names.lookup x = some .cell
noncomputable def Look (env : Env) (h : Heap) (m : Str -> Option Value) (x : Str) (u : Value) : Prop :=
 (env.kindOf x = some .local /\ m x = some u) \/ ((env.kindOf x = some .cell \/ env.kindOf x = some .free) /\ ∃ c, env.cells.lookup x = some c /\ h.IsCell c (some u))
structure Cx.Ok (X : Cx) : Prop where
 mod : Mod X.K X.mg X.base
 kind : X.env.scope.kind = .function
 glob : X.env.globals = mainGlobals
 blt : X.env.builtins = builtinsNs
 above : X.s₀.heap.objs.size <= X.env.locals
 inj : ∀ x y c, X.env.cells.lookup x = some c -> X.env.cells.lookup y = some c -> x = y
 has : ∀ x, (X.env.kindOf x = some .cell \/ X.env.kindOf x = some .free) -> ∃ c, X.env.cells.lookup x = some c
 cab : ∀ x c, X.fn x = true -> X.env.cells.lookup x = some c -> X.s₀.heap.objs.size <= c
 hd : X.calm = true -> X.A.handled = none
 frames : X.A.frames = some X.stack
 stk : X.stack = X.outer \/ (X.stack = X.env :: X.outer /\ X.env.frame = some X.env.locals)
 exf : ∀ b ∈ X.ex, b ≠ X.env.locals /\ ∀ x c, X.env.cells.lookup x = some c -> c ≠ b
 bs : ∀ b o, X.base.get? b = some o -> X.s₀.heap.get? b = some o /\ X.H₀ b = none
 bsz : X.base.objs.size <= X.s₀.heap.objs.size
 noex : ∀ b o, X.base.get? b = some o -> b ∉ X.ex
 exfs : ∀ b ∈ X.ex, b ∉ X.fs
 funs : X.s₀.heap.FunFrames X.base X.outer
 frf : ∀ b ∈ X.fs, X.H₀ b = none
structure Inv (X : Cx) (pins : List (Addr × Obj)) (σ : List (Option V)) (H : Hp) (s : Shared) : Prop where
 ok : X.Ok
 os : s.os = X.s₀.os
 bare : AllBare s.gens
 base : Un X.fs X.ex X.H₀ H X.s₀.heap s.heap
 loc : ∃ m, s.heap.Ns X.env.locals m /\ ∀ (i : Nat) (x : Str) (v : V), X.N[i]? = some x -> σ[i]? = some (some v) -> Vis X.env.scope x -> ∃ u, RelV v u /\ Look X.env s.heap m x u
 cell : ∀ x c, X.env.cells.lookup x = some c -> ∃ v, s.heap.IsCell c v
 free : H X.env.locals = none
 freeC : ∀ x c, X.env.cells.lookup x = some c -> H c = none
 pin : ∀ p ∈ X.pn ++ pins, s.heap.get? p.1 = some p.2 /\ H p.1 = none /\ p.1 ≠ X.env.locals /\ p.1 ∉ X.fs /\ ∀ v, p.2.data ≠ .cell v
 hok : HOk X.prog X.w H s.heap
 len : σ.length = X.N.length
section
variable {X : Cx} {pins : List (Addr × Obj)} {σ : List (Option V)} {H H' : Hp} {s : Shared} {h' : Heap}
theorem Cx.Ok.nofr (ok : X.Ok) {b : Addr} {o : Obj} (e : X.base.get? b = some o) : b ∉ X.fs := fun hb => by
 have := (ok.funs.mem hb).1
 rw [e] at this; cases this
theorem Inv.bs (I : Inv X pins σ H s) : ∀ b o, X.base.get? b = some o -> s.heap.get? b = some o /\ H b = none := fun b o e =>
 ⟨I.base.keep b o (I.ok.bs b o e).1 (I.ok.bs b o e).2 (I.ok.nofr e) (I.ok.noex b o e), I.base.free b o (I.ok.bs b o e).1 (I.ok.bs b o e).2 (I.ok.noex b o e)⟩
theorem Inv.bk (I : Inv X pins σ H s) : ∀ b o, X.base.get? b = some o -> s.heap.get? b = some o := fun b o e => (I.bs b o e).1
theorem Inv.mod (I : Inv X pins σ H s) : Mod X.K X.mg X.base := I.ok.mod
theorem Inv.kIn (I : Inv X pins σ H s) : X.K.In s.heap := I.ok.mod.kin.keeps I.bk
theorem Inv.fr (I : Inv X pins σ H s) : ∃ m, Fr X.base X.env.locals s.heap m :=
 let ⟨m, hn, _⟩ := I.loc
 ⟨m, hn, I.bk, Nat.le_trans I.ok.bsz I.ok.above⟩
theorem Inv.lt (I : Inv X pins σ H s) : X.env.locals < s.heap.objs.size := let ⟨_, hn, _⟩ := I.loc; hn.lt
theorem Inv.sz (I : Inv X pins σ H s) : X.s₀.heap.objs.size <= s.heap.objs.size := Nat.le_trans I.ok.above (Nat.le_of_lt I.lt)
theorem Inv.nofs (I : Inv X pins σ H s) {a : Addr} (h : s.heap.objs.size <= a) : a ∉ X.fs := fun hb => by
 obtain ⟨_, o, ho, _⟩ := I.ok.funs.mem hb
 exact absurd (Nat.lt_of_lt_of_le (Heap.lt_size ho) (Nat.le_trans I.sz h)) (Nat.lt_irrefl _)
theorem Inv.cne (I : Inv X pins σ H s) : ∀ x c, X.env.cells.lookup x = some c -> c ≠ X.env.locals := fun x c e z => by
 obtain ⟨v, o, ho, hd⟩ := I.cell x c e
 obtain ⟨m, ⟨o', es, ep, ho', hd', _⟩, _⟩ := I.loc
 rw [z, ho'] at ho; cases ho; rw [hd'] at hd; cases hd
theorem Inv.funs (I : Inv X pins σ H s) : s.heap.FunFrames X.base X.outer := by
 have all : ∀ (l : List Env), (∀ b ∈ frs l, b ∈ X.fs) -> X.s₀.heap.FunFrames X.base l -> s.heap.FunFrames X.base l := by
  intro l
  induction l with
  | nil => intro _ _; trivial
  | cons env r ih =>
   intro hs hl
   obtain ⟨hk, ⟨L, o, hf, hn, ho, hd⟩, hr⟩ := hl
   have hL : L ∈ X.fs := hs L (by unfold frs; rw [List.filterMap_cons, hf]; exact List.mem_cons_self)
   obtain ⟨sl, e⟩ := I.base.slot L o ho (I.ok.frf L hL) hL fun z => I.ok.exfs L z hL
   exact ⟨hk, ⟨L, _, hf, hn, e, hd⟩, ih (fun b hb => hs b (by unfold frs; rw [List.filterMap_cons, hf]; exact List.mem_cons_of_mem _ hb)) hr⟩
 exact all X.outer (fun _ hb => hb) I.ok.funs
theorem Inv.stack (I : Inv X pins σ H s) : s.heap.FunFrames X.base X.stack := by
 rcases I.ok.stk with e | ⟨e, hf⟩
 . rw [e]; exact I.funs
 . rw [e]
   obtain ⟨m, hn, _⟩ := I.loc
   refine .cons (by rw [I.ok.kind]; decide) hf hn ?_ I.funs
   exact Heap.get?_none_of_le (Nat.le_trans I.ok.bsz I.ok.above)
theorem Inv.stkSub (I : Inv X pins σ H s) : ∀ b ∈ frs X.stack, b ∈ X.env.locals :: X.fs := fun b hb => by
 rcases I.ok.stk with e | ⟨e, hf⟩
 . rw [e] at hb; exact List.mem_cons_of_mem _ hb
 . rw [e] at hb
   unfold frs at hb
   rw [List.filterMap_cons, hf] at hb
   exact hb
theorem Inv.stkFree (I : Inv X pins σ H s) : ∀ b ∈ frs X.stack, H b = none := fun b hb => by
 rcases List.mem_cons.mp (I.stkSub b hb) with e | hb
 . rw [e]; exact I.free
 . obtain ⟨_, o, ho, _⟩ := I.ok.funs.mem hb
   exact I.base.free b o ho (I.ok.frf b hb) fun z => I.ok.exfs b z hb
theorem Inv.step {g' : Array GenState} {t' : Nat} {d' : Drawn} {ch : List Addr} (I : Inv X pins σ H s)
  (hch : ∀ b ∈ ch, (b ∈ X.ex \/ X.s₀.heap.objs.size <= b) /\ b ≠ X.env.locals /\ (∀ x c, X.env.cells.lookup x = some c -> c ≠ b) /\ ∀ p ∈ X.pn ++ pins, p.1 ≠ b)
  (keep : ∀ b o, b ≠ X.env.locals -> b ∉ X.fs -> b ∉ ch -> s.heap.get? b = some o -> H b = none -> h'.get? b = some o)
  (slot : ∀ b o, b ≠ X.env.locals -> b ∈ X.fs -> b ∉ ch -> s.heap.get? b = some o -> H b = none -> ∃ sl, h'.get? b = some { o with slots := sl }) (free : ∀ b o, b ∉ ch -> s.heap.get? b = some o -> H b = none -> H' b = none)
  (there : ∀ b o, b ∉ ch -> s.heap.get? b = some o -> ∃ o', h'.get? b = some o')
  (tups : ∀ b xs, H b = some (.tup xs) -> H' b = some (.tup xs)) (frzs : ∀ b o u, H b = some (.frz o u) -> H' b = some (.frz o u)) (tbls : ∀ b ps, H b = some (.tbl ps) -> ∃ more, H' b = some (.tbl (ps ++ more)))
  (ns : ∀ m, s.heap.Ns X.env.locals m -> h'.Ns X.env.locals m) (hok : HOk X.prog X.w H' h') (hg : AllBare g') :
  Inv X pins σ H' { s with heap := h', gens := g', drawn := d', toks := t' } := by
 have neL : ∀ b o, X.s₀.heap.get? b = some o -> b ≠ X.env.locals := fun b o e => Nat.ne_of_lt (Nat.lt_of_lt_of_le (Heap.lt_size e) I.ok.above)
 have neC : ∀ b o, X.s₀.heap.get? b = some o -> b ∉ X.ex -> b ∉ ch := fun b o e hx hb => by
  rcases (hch b hb).1 with z | z
  . exact hx z
  . exact absurd (Nat.lt_of_lt_of_le (Heap.lt_size e) z) (Nat.lt_irrefl _)
 have cellK : ∀ x c, X.env.cells.lookup x = some c -> ∀ v, s.heap.IsCell c v -> h'.IsCell c v := fun x c e v ⟨o, ho, hd⟩ => by
  have nch : c ∉ ch := fun z => (hch c z).2.2.1 x c e rfl
  by_cases hc : c ∈ X.fs
  . obtain ⟨sl, q⟩ := slot c o (I.cne x c e) hc nch ho (I.freeC x c e)
    exact ⟨_, q, hd⟩
  . exact ⟨o, keep c o (I.cne x c e) hc nch ho (I.freeC x c e), hd⟩
 refine ⟨I.ok, I.os, hg, ⟨fun b o e n hb hx => ?_, fun b o e n hb hx => ?_, fun b o e n hx => ?_, fun b o e hx => ?_, fun b xs e => tups b xs (I.base.tups b xs e), fun b o xs e => frzs b o xs (I.base.frzs b o xs e), fun b ps e => ?_⟩, ?_, fun x c e => ?_, ?_, fun x c e => ?_, fun p hp => ?_, hok, I.len⟩
 . exact keep b o (neL b o e) hb (neC b o e hx) (I.base.keep b o e n hb hx) (I.base.free b o e n hx)
 . obtain ⟨sl, e1⟩ := I.base.slot b o e n hb hx
   obtain ⟨sl', e2⟩ := slot b _ (neL b o e) hb (neC b o e hx) e1 (I.base.free b o e n hx)
   exact ⟨sl', e2⟩
 . obtain ⟨o', e1⟩ := I.base.there b o e hx
   exact free b o' (neC b o e hx) e1 (I.base.free b o e n hx)
 . obtain ⟨o', e1⟩ := I.base.there b o e hx
   exact there b o' (neC b o e hx) e1
 . obtain ⟨m1, e1⟩ := I.base.tbls b ps e
   obtain ⟨m2, e2⟩ := tbls b _ e1
   exact ⟨m1 ++ m2, by rw [e2, Array.append_assoc]⟩
 . obtain ⟨m, hn, hl⟩ := I.loc
   refine ⟨m, ns m hn, fun i x v e1 e2 e3 => ?_⟩
   obtain ⟨u, r, l⟩ := hl i x v e1 e2 e3
   refine ⟨u, r, ?_⟩
   rcases l with l | ⟨k, c, e, z⟩
   . exact .inl l
   . exact .inr ⟨k, c, e, cellK x c e _ z⟩
 . obtain ⟨v, z⟩ := I.cell x c e
   exact ⟨v, cellK x c e v z⟩
 . obtain ⟨m, ⟨o, _, _, ho, _⟩, _⟩ := I.loc
   exact free _ o (fun z => (hch _ z).2.1 rfl) ho I.free
 . obtain ⟨v, o, ho, hd⟩ := I.cell x c e
   exact free c o (fun z => (hch c z).2.2.1 x c e rfl) ho (I.freeC x c e)
 . obtain ⟨e, n, ne, nf, d⟩ := I.pin p hp
   have nch : p.1 ∉ ch := fun z => (hch p.1 z).2.2.2 p hp rfl
   exact ⟨keep p.1 p.2 ne nf nch e n, free p.1 p.2 nch e n, ne, nf, d⟩
theorem Inv.un {t' : Nat} (I : Inv X pins σ H s) (u : Un X.fs [] H H' s.heap h') (hok : HOk X.prog X.w H' h') : Inv X pins σ H' { s with heap := h', toks := t' } := by
 obtain ⟨m, ⟨o, es, ep, ho, r⟩, _⟩ := id I.loc
 obtain ⟨sl, hL⟩ := u.any ho I.free (by simp)
 exact I.step (g' := s.gens) (d' := s.drawn) (ch := []) (fun _ z => nomatch z) (fun b o _ hb _ e n => u.keep b o e n hb (by simp)) (fun b o _ hb _ e n => u.slot b o e n hb (by simp)) (fun b o _ e n => u.free b o e n (by simp)) (fun b o _ e => u.there b o e (by simp)) u.tups u.frzs u.tbls (fun m' hm => by
  obtain ⟨o', es', ep', ho', r'⟩ := hm
  rw [ho] at ho'; cases ho'
  exact ⟨_, es', ep', hL, r'⟩) hok I.bare
theorem Inv.call {g' : Array GenState} {t' : Nat} {d' : Drawn} {ch : List Addr} (I : Inv X pins σ H s) (u : Un (frs X.stack) ch H H' s.heap h') (hok : HOk X.prog X.w H' h') (hg : AllBare g')
  (hch : ∀ b ∈ ch, (b ∈ X.ex \/ X.s₀.heap.objs.size <= b) /\ b ≠ X.env.locals /\ (∀ x c, X.env.cells.lookup x = some c -> c ≠ b) /\ ∀ p ∈ X.pn ++ pins, p.1 ≠ b) :
  Inv X pins σ H' { s with heap := h', gens := g', drawn := d', toks := t' } := by
 obtain ⟨m, ⟨o, es, ep, ho, r⟩, _⟩ := id I.loc
 obtain ⟨sl, hL⟩ := u.any ho I.free fun z => (hch _ z).2.1 rfl
 exact I.step (ch := ch) hch (fun b o hL hb hc e n => u.keep b o e n (fun z => (List.mem_cons.mp (I.stkSub b z)).elim hL hb) hc) (fun b o _ _ hc e n => u.any e n hc) (fun b o hc e n => u.free b o e n hc) (fun b o hc e => u.there b o e hc) u.tups u.frzs u.tbls (fun m' hm => by
  obtain ⟨o', es', ep', ho', r'⟩ := hm
  rw [ho] at ho'; cases ho'
  exact ⟨_, es', ep', hL, r'⟩) hok hg
theorem Inv.turned {t' : Nat} {it : Addr} (I : Inv X pins σ H s) (k : ∀ b o, b ≠ it -> s.heap.get? b = some o -> h'.get? b = some o) (hn : H it = none) (hL : it ≠ X.env.locals)
  (h1 : it ∈ X.ex \/ X.s₀.heap.objs.size <= it) (h2 : ∀ x c, X.env.cells.lookup x = some c -> c ≠ it) (h3 : ∀ p ∈ X.pn ++ pins, p.1 ≠ it) : Inv X pins σ H { s with heap := h', toks := t' } := by
 have nit : ∀ b u, H b = some u -> b ≠ it := fun b u e z => by rw [z, hn] at e; cases e
 refine I.step (g' := s.gens) (d' := s.drawn) (ch := [it]) (fun b hb => ?_) (fun b o _ _ hc e _ => k b o (fun z => hc (by simp [z])) e) (fun b o _ _ hc e _ => ⟨o.slots, k b o (fun z => hc (by simp [z])) e⟩) (fun _ _ _ _ n => n)
  (fun b o hc e => ⟨o, k b o (fun z => hc (by simp [z])) e⟩) (fun _ _ e => e) (fun _ _ _ e => e) (fun b ps e => ⟨#[], by rw [e]; simp⟩) (fun m hm => ?_) (fun b u e => ?_) I.bare
 . have e : b = it := by simpa using hb
   subst e
   exact ⟨h1, hL, h2, h3⟩
 . obtain ⟨o, es, ep, ho, r⟩ := hm
   exact ⟨o, es, ep, k _ o (Ne.symm hL) ho, r⟩
 . refine (I.hok b u e).stay (fun c v hc q => k c v ?_ q) (fun _ q => q) fun _ _ q => q
   rcases hc with z | z
   . rw [z]; exact nit b u e
   . exact nit c _ z
theorem Inv.tok (I : Inv X pins σ H s) (t : Nat) : Inv X pins σ H { s with toks := t } := I.un (h' := s.heap) (t' := t) Un.refl I.hok
theorem Inv.kept {t' : Nat} (I : Inv X pins σ H s) (k : ∀ b u, s.heap.get? b = some u -> h'.get? b = some u) : Inv X pins σ H { s with heap := h', toks := t' } := I.un (Un.kept k) (I.hok.kept k)
theorem Inv.laid {a : Addr} {o : HO} {t' : Nat} (I : Inv X pins σ H s) (k : ∀ b u, s.heap.get? b = some u -> h'.get? b = some u) (hp : s.heap.objs.size <= a) (new : ObjOk X.prog X.w (upd H a o) h' a o) :
  Inv X pins σ (upd H a o) { s with heap := h', toks := t' } := I.un (Un.laid k hp (I.hok.fresh hp)) (I.hok.laid k hp new)
theorem Inv.write {x e : Addr} {o : HO} {t' : Nat} (I : Inv X pins σ H s) (mu : Mut (H x)) (he : e = x \/ H e = some (.own x)) (k : ∀ b u, b ≠ e -> s.heap.get? b = some u -> h'.get? b = some u) (heo : ∃ u, h'.get? e = some u)
  (new : ObjOk X.prog X.w (upd H x o) h' x o) : Inv X pins σ (upd H x o) { s with heap := h', toks := t' } := I.un (Un.write mu he k heo) (I.hok.write mu he k heo new)
theorem Inv.weak {σ' : List (Option V)} (I : Inv X pins σ H s) (hl : σ'.length = σ.length) (w : ∀ (i : Nat) v, σ'[i]? = some (some v) -> σ[i]? = some (some v)) : Inv X pins σ' H s :=
 ⟨I.ok, I.os, I.bare, I.base, let ⟨m, hn, hl'⟩ := I.loc; ⟨m, hn, fun i x v e1 e2 e3 => hl' i x v e1 (w i v e2) e3⟩, I.cell, I.free, I.freeC, I.pin, I.hok, hl.trans I.len⟩
theorem Inv.pins_of {pins' : List (Addr × Obj)} (I : Inv X pins σ H s) (h : ∀ p ∈ pins', s.heap.get? p.1 = some p.2 /\ H p.1 = none /\ p.1 ≠ X.env.locals /\ p.1 ∉ X.fs /\ ∀ v, p.2.data ≠ .cell v) : Inv X pins' σ H s :=
 ⟨I.ok, I.os, I.bare, I.base, I.loc, I.cell, I.free, I.freeC, fun p hp => (List.mem_append.mp hp).elim (fun z => I.pin p (List.mem_append_left _ z)) (h p), I.hok, I.len⟩
theorem nodup_ix {N : List Str} (hN : N.Nodup) {i j : Nat} {x : Str} (a : N[i]? = some x) (b : N[j]? = some x) : i = j := by
 obtain ⟨h1, e1⟩ := List.getElem?_eq_some_iff.mp a
 obtain ⟨h2, e2⟩ := List.getElem?_eq_some_iff.mp b
 exact (List.getElem_inj hN).mp (e1.trans e2.symm)
theorem store_ok2 {M : Model} {A : Around} {E : Value -> Shared -> Prop} {i : Nat} {x : Str} {v : V} {u : Value} {Q : Unit -> Shared -> Prop} (I : Inv X pins σ H s) (hN : X.N.Nodup) (hi : X.N[i]? = some x) (hx : Loc X.env.scope x) (r : RelV v u)
  (h : ∀ s', Inv X pins (σ.set i (some v)) H s' -> (∃ a, Heap.SameBut a s.heap s'.heap /\ (a = X.env.locals \/ X.env.cells.lookup x = some a)) -> Q () s') (hf : X.fn x = true \/ X.env.scope.names.lookup x = some .local := by first | exact .inl rfl | exact .inr rfl | assumption) : wpAny M A (storeName X.env x u) Q E s := by
 obtain ⟨m, hn, hl⟩ := id I.loc
 have hcls : (X.env.scope.kind == .class || (X.env.scope.kind == .module && X.env.locals != X.env.globals)) = false := by rw [I.ok.kind]; rfl
 have hiσ : i < σ.length := by rw [I.len]; exact (List.getElem?_eq_some_iff.mp hi).1
 have cne := I.cne
 have tracked : ∀ {a : Addr} {h' : Heap}, (∃ o, s.heap.get? a = some o /\ H a = none) -> Heap.SameBut a s.heap h' -> HOk X.prog X.w H h' := fun {a h'} ha hs b ob e => by
  obtain ⟨_, _, hfree⟩ := ha
  refine (I.hok b ob e).stay (fun c w' hc q => (hs.2 c ?_).trans q) (fun _ q => q) fun _ _ q => q
  rintro rfl
  rcases hc with rfl | hc
  . rw [hfree] at e; cases e
  . rw [hfree] at hc; cases hc
 rcases hx with hk | hk
 . refine wpAny_storeName_local hk hn (fun h' hn' hs => ?_) hcls
   obtain ⟨oL, _, _, hoL, _⟩ := id hn
   refine h _ ⟨I.ok, I.os, I.bare, ⟨fun b o e n hb hx => ?_, fun b o e n hb hx => ?_, I.base.free, fun b o e hx => ?_, I.base.tups, I.base.frzs, I.base.tbls⟩, ⟨_, hn', fun j y v' e1 e2 e3 => ?_⟩, fun y c e => ?_, I.free, I.freeC, fun p hp => ?_, tracked ⟨oL, hoL, I.free⟩ hs, by simpa using I.len⟩ ⟨_, hs, .inl rfl⟩
   . exact (hs.2 b (Nat.ne_of_lt (Nat.lt_of_lt_of_le (Heap.lt_size e) I.ok.above))).trans (I.base.keep b o e n hb hx)
   . obtain ⟨sl, e1⟩ := I.base.slot b o e n hb hx
     exact ⟨sl, (hs.2 b (Nat.ne_of_lt (Nat.lt_of_lt_of_le (Heap.lt_size e) I.ok.above))).trans e1⟩
   . obtain ⟨o', e1⟩ := I.base.there b o e hx
     exact ⟨o', (hs.2 b (Nat.ne_of_lt (Nat.lt_of_lt_of_le (Heap.lt_size e) I.ok.above))).trans e1⟩
   . by_cases hj : j = i
     . subst hj
       rw [hi] at e1; cases e1
       rw [List.getElem?_set_self hiσ] at e2
       cases e2
       exact ⟨u, r, .inl ⟨hk, by simp⟩⟩
     . rw [List.getElem?_set_ne (Ne.symm hj)] at e2
       obtain ⟨u', r', q⟩ := hl j y v' e1 e2 e3
       refine ⟨u', r', ?_⟩
       rcases q with ⟨k, e⟩ | ⟨k, c, e, z⟩
       . refine .inl ⟨k, ?_⟩
         have : y ≠ x := fun e => hj (nodup_ix hN e1 (e ▸ hi))
         simp [this, e]
       . exact .inr ⟨k, c, e, z.sameBut hs (cne y c e)⟩
   . obtain ⟨w', z⟩ := I.cell y c e
     exact ⟨w', z.sameBut hs (cne y c e)⟩
   . obtain ⟨e, n, ne, nf, d⟩ := I.pin p hp
     exact ⟨(hs.2 p.1 ne).trans e, n, ne, nf, d⟩
 . have hfn : X.fn x = true := by
     rcases hf with z | z
     . exact z
     . rw [z] at hk; cases hk
   obtain ⟨c, hc⟩ := I.ok.has x (.inl hk)
   obtain ⟨w', z⟩ := I.cell x c hc
   refine wpAny_storeName_cell I.ok.kind hk hc z (fun h' hc' hs => ?_)
   obtain ⟨oc, hoc, hocd⟩ := id z
   refine h { s with heap := h' } ⟨I.ok, I.os, I.bare, ⟨fun b o e n hb hx => ?_, fun b o e n hb hx => ?_, I.base.free, fun b o e hx => ?_, I.base.tups, I.base.frzs, I.base.tbls⟩, ⟨m, hn.sameBut hs (Ne.symm (cne x c hc)), fun j y v' e1 e2 e3 => ?_⟩, fun y c' e => ?_, I.free, I.freeC, fun p hp => ?_, tracked ⟨oc, hoc, I.freeC x c hc⟩ hs, by simpa using I.len⟩ ⟨c, hs, .inr hc⟩
   . exact (hs.2 b (Nat.ne_of_lt (Nat.lt_of_lt_of_le (Heap.lt_size e) (I.ok.cab x c hfn hc)))).trans (I.base.keep b o e n hb hx)
   . obtain ⟨sl, e1⟩ := I.base.slot b o e n hb hx
     exact ⟨sl, (hs.2 b (Nat.ne_of_lt (Nat.lt_of_lt_of_le (Heap.lt_size e) (I.ok.cab x c hfn hc)))).trans e1⟩
   . obtain ⟨o', e1⟩ := I.base.there b o e hx
     exact ⟨o', (hs.2 b (Nat.ne_of_lt (Nat.lt_of_lt_of_le (Heap.lt_size e) (I.ok.cab x c hfn hc)))).trans e1⟩
   . by_cases hj : j = i
     . subst hj
       rw [hi] at e1; cases e1
       rw [List.getElem?_set_self hiσ] at e2
       cases e2
       exact ⟨u, r, .inr ⟨.inl hk, c, hc, hc'⟩⟩
     . rw [List.getElem?_set_ne (Ne.symm hj)] at e2
       obtain ⟨u', r', q⟩ := hl j y v' e1 e2 e3
       refine ⟨u', r', ?_⟩
       rcases q with q | ⟨k, c', e, z'⟩
       . exact .inl q
       . refine .inr ⟨k, c', e, z'.sameBut hs ?_⟩
         rintro rfl
         exact hj (nodup_ix hN e1 (I.ok.inj _ _ _ e hc ▸ hi))
   . by_cases hcc : c' = c
     . subst hcc; exact ⟨_, hc'⟩
     . obtain ⟨w2, z2⟩ := I.cell y c' e
       exact ⟨w2, z2.sameBut hs hcc⟩
   . obtain ⟨e, n, ne, nf, d⟩ := I.pin p hp
     refine ⟨(hs.2 p.1 ?_).trans e, n, ne, nf, d⟩
     intro q
     rw [q, hoc] at e
     have q' : oc = p.2 := Option.some.inj e
     exact d w' (by rw [<- q']; exact hocd)
theorem store_ok {M : Model} {A : Around} {E : Value -> Shared -> Prop} {i : Nat} {x : Str} {v : V} {u : Value} {Q : Unit -> Shared -> Prop} (I : Inv X pins σ H s) (hN : X.N.Nodup) (hi : X.N[i]? = some x) (hx : Loc X.env.scope x) (r : RelV v u)
  (h : ∀ s', Inv X pins (σ.set i (some v)) H s' -> Q () s') (hf : X.fn x = true \/ X.env.scope.names.lookup x = some .local := by first | exact .inl rfl | exact .inr rfl | assumption) : wpAny M A (storeName X.env x u) Q E s :=
 store_ok2 I hN hi hx r (fun s' I' _ => h s' I') hf
theorem Inv.call' {s' : Shared} {ch : List Addr} (I : Inv X pins σ H s) (ho : s'.os = s.os) (u : Un (frs X.stack) ch H H' s.heap s'.heap) (hok : HOk X.prog X.w H' s'.heap) (hg : AllBare s'.gens)
  (hch : ∀ b ∈ ch, (b ∈ X.ex \/ X.s₀.heap.objs.size <= b) /\ b ≠ X.env.locals /\ (∀ x c, X.env.cells.lookup x = some c -> c ≠ b) /\ ∀ p ∈ X.pn ++ pins, p.1 ≠ b) : Inv X pins σ H' s' := by
 obtain ⟨h', g', d', t', o'⟩ := s'
 have e : o' = s.os := ho
 subst e
 exact I.call (g' := g') (t' := t') (d' := d') u hok hg hch
end
noncomputable abbrev XK := Value -> Option Addr -> Hp -> Prop
noncomputable abbrev St := List (Option V)
noncomputable abbrev VK := V -> Hp -> Prop
noncomputable abbrev TE := St -> Hp -> VK -> Prop
noncomputable abbrev TT := St -> Hp -> (Bool -> Hp -> Prop) -> Prop
noncomputable abbrev TA := St -> Hp -> (List V -> Hp -> Prop) -> Prop
structure Ends where
 nx : St -> Hp -> Prop
 rt : VK
 bk : St -> Hp -> Prop := fun _ _ => False
 ct : St -> Hp -> Prop := fun _ _ => False
noncomputable abbrev TS := Ends -> St -> Hp -> Prop
noncomputable def EP (X : Cx) (pins : List (Addr × Obj)) (σ : St) (Q : VK) (u : Value) (s' : Shared) : Prop := ∃ v H', Inv X pins σ H' s' /\ RelV v u /\ Q v H'
noncomputable def TP (X : Cx) (pins : List (Addr × Obj)) (σ : St) (Q : Bool -> Hp -> Prop) (b : Bool) (s' : Shared) : Prop := ∃ H', Inv X pins σ H' s' /\ Q b H'
noncomputable def AP (X : Cx) (pins : List (Addr × Obj)) (σ : St) (Q : List V -> Hp -> Prop) (us : List Value) (s' : Shared) : Prop := ∃ vs H', Inv X pins σ H' s' /\ Vals vs us /\ Q vs H'
noncomputable def SP (X : Cx) (pins : List (Addr × Obj)) (D : Ends) (f : Flow) (s' : Shared) : Prop :=
 match f with
 | .next => ∃ σ' H', Inv X pins σ' H' s' /\ D.nx σ' H'
 | .brk => ∃ σ' H', Inv X pins σ' H' s' /\ D.bk σ' H'
 | .cont => ∃ σ' H', Inv X pins σ' H' s' /\ D.ct σ' H'
 | .ret u => ∃ v σ' H', Inv X pins σ' H' s' /\ RelV v u /\ D.rt v H'
noncomputable def PE (X : Cx) (e : Expr) (t : TE) : Prop :=
 ∀ (pins : List (Addr × Obj)) (s : Shared) (σ : St) (H : Hp) (Q : VK), Inv X pins σ H s -> t σ H Q -> wpAny (model X.prog X.w) X.A (eval e X.env) (EP X pins σ Q) X.xe s
noncomputable def PT (X : Cx) (e : Expr) (t : TT) : Prop :=
 ∀ (pins : List (Addr × Obj)) (s : Shared) (σ : St) (H : Hp) (Q : Bool -> Hp -> Prop), Inv X pins σ H s -> t σ H Q -> wpAny (model X.prog X.w) X.A (isTrue e X.env (eval e X.env)) (TP X pins σ Q) X.xe s
noncomputable def PW (X : Cx) (e : Expr) (t : TT) : Prop :=
 ∀ (whole : Sem Value) (pins : List (Addr × Obj)) (s : Shared) (σ : St) (H : Hp) (Q : Bool -> Hp -> Prop), Inv X pins σ H s -> t σ H Q -> wpAny (model X.prog X.w) X.A (isTrue e X.env whole) (TP X pins σ Q) X.xe s
theorem PW.pt {X : Cx} {e : Expr} {t : TT} (h : PW X e t) : PT X e t := h _
noncomputable def PA (X : Cx) (es : List Expr) (t : TA) : Prop :=
 ∀ (pos : Pos) (pins : List (Addr × Obj)) (s : Shared) (σ : St) (H : Hp) (Q : List V -> Hp -> Prop), Inv X pins σ H s -> t σ H Q -> wpAny (model X.prog X.w) X.A (spliced (backTo pos (starEach es X.env))) (AP X pins σ Q) X.xe s
noncomputable def PS (X : Cx) (st : Stmt) (t : TS) : Prop :=
 ∀ (pins : List (Addr × Obj)) (s : Shared) (σ : St) (H : Hp) (D : Ends), Inv X pins σ H s -> t D σ H -> wpAny (model X.prog X.w) X.A (exec st X.env) (SP X pins D) X.xe s
noncomputable def PSs (X : Cx) (st : List Stmt) (t : TS) : Prop :=
 ∀ (pins : List (Addr × Obj)) (s : Shared) (σ : St) (H : Hp) (D : Ends), Inv X pins σ H s -> t D σ H -> wpAny (model X.prog X.w) X.A (execs st X.env) (SP X pins D) X.xe s
theorem thn {α : Type} {t : Sem α} {Q Q' : α -> Shared -> Prop} {M : Model} {A : Around} {E : Value -> Shared -> Prop} {s : Shared} (h : wpAny M A t Q E s) (hQ : ∀ a s, Q a s -> Q' a s) : wpAny M A t Q' E s := wpAny_mono h hQ fun _ _ x => x
end L2
namespace L2
open PySem PySem.Spec PyProof.Rows
section
variable {X : Cx}
noncomputable def tVar (i : Nat) : TE := fun σ H Q => ∃ v, σ[i]? = some (some v) /\ Q v H
noncomputable def tC (v : V) : TE := fun _ H Q => Q v H
theorem pe_var {i : Nat} {x : Str} {pos : Pos} (hN : X.N[i]? = some x) (hv : Vis X.env.scope x) (hd : (x == ("__debug__" : Str)) = false := by decide) (hcd : (x == ("__classdict__" : Str)) = false := by decide) : PE X (.Name x pos) (tVar i) := by
 intro pins s σ H Q I h
 obtain ⟨v, e, h⟩ := h
 obtain ⟨m, hn, hl⟩ := I.loc
 obtain ⟨u, r, l⟩ := hl i x v hN e hv
 have fin : EP X pins σ Q u s := ⟨v, H, I, r, h⟩
 rcases l with ⟨hk, hm⟩ | ⟨hk, c, hc, hcell⟩
 . exact wpAny_Name (wpAny_loadName_local I.ok.kind hk hn hm fin) hd
 . rcases hk with hk | hk
   . exact wpAny_Name (wpAny_loadName_cell I.ok.kind hk hc hcell fin) hd
   . exact wpAny_Name (wpAny_loadName_free I.ok.kind hk hc hcell fin hcd) hd
theorem pe_int {i j pos} : PE X (.Constant (.int i) j pos) (tC (.int i)) := fun _ _ _ H _ I h => wpAny_Constant_int ⟨.int i, H, I.tok _, ⟨_, rfl⟩, h⟩
theorem pe_bl {b j pos} : PE X (.Constant (.bool b) j pos) (tC (.bl b)) := fun _ _ _ H _ I h => Constant_bool ⟨.bl b, H, I, rfl, h⟩
theorem pe_non {j pos} : PE X (.Constant .none j pos) (tC .non) := fun _ _ _ H _ I h => Constant_none ⟨.non, H, I, rfl, h⟩
theorem pe_str {x j pos} : PE X (.Constant (.str x) j pos) (tC (.str x)) := fun _ _ _ H _ I h => Calls.Constant_str ⟨.str x, H, I.tok _, ⟨_, rfl⟩, h⟩
noncomputable def Gl (X : Cx) (x : Str) : Prop := X.env.kindOf x = some .globalImplicit
theorem ld_glob {E : Value -> Shared -> Prop} {pins : List (Addr × Obj)} {s : Shared} {σ : St} {H : Hp} {x : Str} {u : Value} {pos : Pos} {Q : Value -> Shared -> Prop} (I : Inv X pins σ H s) (hg : Gl X x) (hm : X.mg x = some u) (h : Q u s)
  (hd : (x == ("__debug__" : Str)) = false := by decide) : wpAny (model X.prog X.w) X.A (eval (.Name x pos) X.env) Q E s :=
 Calls.Name_function_global I.ok.kind hg (Calls.loadGlobal_global (by rw [I.ok.glob]; exact I.mod.glob.keeps I.bk) hm h) hd
theorem ld_blt {E : Value -> Shared -> Prop} {pins : List (Addr × Obj)} {s : Shared} {σ : St} {H : Hp} {x : Str} {u : Value} {pos : Pos} {Q : Value -> Shared -> Prop} (I : Inv X pins σ H s) (hg : Gl X x) (hm : X.mg x = none) (hv : bootBuiltins x = some u) (h : Q u s)
  (hn : x ≠ "__name__" := by decide) (hd : (x == ("__debug__" : Str)) = false := by decide) : wpAny (model X.prog X.w) X.A (eval (.Name x pos) X.env) Q E s := by
 obtain ⟨mb, h1, h2⟩ := I.mod.blt
 exact Calls.Name_function_global I.ok.kind hg (Calls.loadGlobal_builtin (by rw [I.ok.glob]; exact I.mod.glob.keeps I.bk) hm (by rw [I.ok.blt]; exact h1.keeps I.bk) ((h2 x hn).trans hv) h) hd
theorem pe_glob {x : Str} {v : V} {u : Value} {pos : Pos} (hg : Gl X x) (hm : X.mg x = some u) (r : RelV v u) (hd : (x == ("__debug__" : Str)) = false := by decide) : PE X (.Name x pos) (tC v) :=
 fun _ _ _ H _ I h => ld_glob I hg hm ⟨v, H, I, r, h⟩ hd
theorem pe_bltn {x : Str} {v : V} {u : Value} {pos : Pos} (hg : Gl X x) (hm : X.mg x = none) (hv : bootBuiltins x = some u) (r : RelV v u) (hn : x ≠ "__name__" := by decide) (hd : (x == ("__debug__" : Str)) = false := by decide) : PE X (.Name x pos) (tC v) :=
 fun _ _ _ H _ I h => ld_blt I hg hm hv ⟨v, H, I, r, h⟩ hn hd
variable {a b : Expr} {ta tb : TE} {pos : Pos}
noncomputable def tB (t : TE) : TT := fun σ H Q => t σ H fun x H1 => ∃ c, x = .bl c /\ Q c H1
theorem pt_val {e : Expr} {t : TE} (h : PE X e t) (he : ∀ whole, isTrue e X.env whole = (do let v <- whole; standAt e.pos; holding [v] (truthy v)) := by intro _; rfl) : PT X e (tB t) := by
 intro pins s σ H Q I hw
 refine isTrue_plain (thn (h pins s σ H _ I hw) fun v s1 ⟨x, H1, I1, r1, q1⟩ => ?_) (he _)
 obtain ⟨d, rfl, q⟩ := q1
 cases r1
 exact wpAny_truthy_bool ⟨H1, I1, q⟩
variable {tA tB' : TT} {rest : List Expr}
noncomputable def tAnd (t u : TT) : TT := fun σ H Q => t σ H fun c H1 => if c = true then u σ H1 Q else Q false H1
noncomputable def tOr (t u : TT) : TT := fun σ H Q => t σ H fun c H1 => if c = true then Q true H1 else u σ H1 Q
noncomputable def tNot (t : TT) : TT := fun σ H Q => t σ H fun c H1 => Q (!c) H1
theorem pw_and1 (ha : PT X a tA) : PW X (.BoolOp .And [a] pos) tA := by
 intro wh pins s σ H Q I h
 refine isTrue_and (thn (ha pins s σ H Q I h) fun c s1 e => ?_)
 cases c with
 | true => exact isTrue_and_nil e
 | false => exact e
theorem pw_or1 (ha : PT X a tA) : PW X (.BoolOp .Or [a] pos) tA := by
 intro wh pins s σ H Q I h
 refine isTrue_or (thn (ha pins s σ H Q I h) fun c s1 e => ?_)
 cases c with
 | false => exact isTrue_or_nil e
 | true => exact e
theorem pw_and (ha : PT X a tA) (hb : PW X (.BoolOp .And (b :: rest) pos) tB') : PW X (.BoolOp .And (a :: b :: rest) pos) (tAnd tA tB') := by
 intro wh pins s σ H Q I h
 refine isTrue_and (thn (ha pins s σ H _ I h) fun c s1 ⟨H1, I1, q1⟩ => ?_)
 cases c with
 | true => exact hb wh pins s1 σ H1 Q I1 q1
 | false => exact ⟨H1, I1, q1⟩
theorem pw_or (ha : PT X a tA) (hb : PW X (.BoolOp .Or (b :: rest) pos) tB') : PW X (.BoolOp .Or (a :: b :: rest) pos) (tOr tA tB') := by
 intro wh pins s σ H Q I h
 refine isTrue_or (thn (ha pins s σ H _ I h) fun c s1 ⟨H1, I1, q1⟩ => ?_)
 cases c with
 | true => exact ⟨H1, I1, q1⟩
 | false => exact hb wh pins s1 σ H1 Q I1 q1
theorem pt_not (ha : PT X a tA) : PT X (.UnaryOp .Not a pos) (tNot tA) := by
 intro pins s σ H Q I h
 exact isTrue_not (ha pins s σ H (fun c H1 => Q (!c) H1) I h)
noncomputable def tAndV (ta tb : TE) : TE := fun σ H Q => ta σ H fun x H1 => ∃ c, x = .bl c /\ if c = true then tb σ H1 Q else Q (.bl false) H1
noncomputable def tOrV (ta tb : TE) : TE := fun σ H Q => ta σ H fun x H1 => ∃ c, x = .bl c /\ if c = true then Q (.bl true) H1 else tb σ H1 Q
noncomputable def tNotV (ta : TE) : TE := fun σ H Q => ta σ H fun x H1 => ∃ c, x = .bl c /\ Q (.bl (!c)) H1
theorem pe_one {op} {t : TE} (h : PE X a t) : PE X (.BoolOp op [a] pos) t := fun pins s σ H Q I hw => BoolOp_one (h pins s σ H Q I hw)
theorem pe_and (ha : PE X a ta) (hb : PE X (.BoolOp .And (b :: rest) pos) tb) : PE X (.BoolOp .And (a :: b :: rest) pos) (tAndV ta tb) := by
 intro pins s σ H Q I h
 refine BoolOp_and (thn (ha pins s σ H _ I h) fun v s1 ⟨x, H1, I1, r1, q1⟩ => ?_)
 obtain ⟨c, rfl, q1⟩ := q1
 cases r1
 refine wpAny_truthy_bool ?_
 cases c with
 | true => exact hb pins s1 σ H1 Q I1 q1
 | false => exact ⟨.bl false, H1, I1, rfl, q1⟩
theorem pe_not (ha : PE X a ta) : PE X (.UnaryOp .Not a pos) (tNotV ta) := by
 intro pins s σ H Q I h
 refine UnaryOp_ (thn (ha pins s σ H _ I h) fun v s1 ⟨x, H1, I1, r1, q1⟩ => ?_)
 obtain ⟨c, rfl, q1⟩ := q1
 cases r1
 exact not_of (wpAny_truthy_bool ⟨.bl (!c), H1, I1, rfl, q1⟩)
noncomputable def tIf (t : TT) (ta tb : TE) : TE := fun σ H Q => t σ H fun c H1 => if c = true then ta σ H1 Q else tb σ H1 Q
end
end L2
namespace L2
open PySem PySem.Spec PyProof.Rows
noncomputable def SqL (K : PySem.W.Frag) (H : Hp) (a : Addr) (xs : List V) : Prop :=
 Rd H a (.lst xs) \/
  ∃ (o : Obj) (its : Array Value) (n : Nat), K.lookup a = some o /\ o.cls = .type "list" /\ o.dict = none /\ o.data = .seq its n /\ its.size <= sizeLine /\ Vals xs its.toList
noncomputable def SqT (K : PySem.W.Frag) (H : Hp) (a : Addr) (xs : List V) : Prop :=
 Rd H a (.tup xs) \/
  ∃ (o : Obj) (its : Array Value) (n : Nat), K.lookup a = some o /\ o.cls = .type "tuple" /\ o.data = .seq its n /\ its.size <= sizeLine /\ Vals xs its.toList
noncomputable def absV : Value -> Option V
 | .none => some .non
 | .bool b => some (.bl b)
 | .int i _ => some (.int i)
 | .str x _ => some (.str x)
 | .bytes b _ => some (.byt b)
 | .float b _ => some (.flt b)
 | .ref a => some (.ref a)
 | .type n => some (.ty n)
 | _ => none
theorem RelV.abs {x : V} {u : Value} (r : RelV x u) : absV u = some x := by
 cases x with
 | non => cases r; rfl
 | bl _ => cases r; rfl
 | int _ => obtain ⟨t, rfl⟩ := r; rfl
 | str _ => obtain ⟨t, rfl⟩ := r; rfl
 | byt _ => obtain ⟨t, rfl⟩ := r; rfl
 | flt _ => obtain ⟨t, rfl⟩ := r; rfl
 | ref _ => cases r; rfl
 | ty _ => cases r; rfl
theorem RelV.inj {x y : V} {u : Value} (r : RelV x u) (q : RelV y u) : x = y := Option.some.inj (r.abs.symm.trans q.abs)
theorem Vals.inj : ∀ {xs ys : List V} {us : List Value}, Vals xs us -> Vals ys us -> xs = ys
 | _, _, _, .nil, .nil => rfl
 | _, _, _, .cons r t, .cons r' t' => by rw [r.inj r', Vals.inj t t']
section
variable {X : Cx} {pins : List (Addr × Obj)} {σ : St} {H : Hp} {s : Shared} {a : Addr} {xs ys : List V}
theorem SqL.of {K : PySem.W.Frag} (h : H a = some (.lst xs)) : SqL K H a xs := .inl (.inl h)
theorem SqT.of {K : PySem.W.Frag} (h : H a = some (.tup xs)) : SqT K H a xs := .inl (.inl h)
theorem Inv.list (I : Inv X pins σ H s) (h : SqL X.K H a xs) : ∃ its : List Value, Vals xs its /\ PlainL s.heap a its.toArray /\ xs.length <= sizeLine := by
 rcases h with h | ⟨o, its, n, hk, hc, hd, hs, hz, r⟩
 . obtain ⟨z, its, n, r, e⟩ := h.ok I.hok
   exact ⟨its, r, ⟨_, n, e, rfl, rfl, rfl⟩, z⟩
 . refine ⟨its.toList, r, ⟨o, n, I.kIn a o hk, hc, hd, by simpa using hs⟩, ?_⟩
   have e := r.length
   simp only [Array.length_toList] at e
   omega
theorem Inv.tuple (I : Inv X pins σ H s) (h : SqT X.K H a xs) : ∃ its : List Value, Vals xs its /\ IsTup s.heap a its.toArray /\ xs.length <= sizeLine := by
 rcases h with h | ⟨o, its, n, hk, hc, hs, hz, r⟩
 . obtain ⟨z, its, r, p⟩ := h.ok I.hok
   exact ⟨its, r, p, z⟩
 . refine ⟨its.toList, r, ⟨o, I.kIn a o hk, hc, n, by simpa using hs⟩, ?_⟩
   have e := r.length
   simp only [Array.length_toList] at e
   omega
theorem Inv.list_inj (I : Inv X pins σ H s) (h : SqL X.K H a xs) (h' : SqL X.K H a ys) : xs = ys := by
 obtain ⟨its, r, ⟨o, n, e, _, _, d⟩, _⟩ := I.list h
 obtain ⟨its', r', ⟨o', n', e', _, _, d'⟩, _⟩ := I.list h'
 rw [e] at e'; cases e'
 rw [d] at d'
 injection d' with d1 _
 have : its = its' := by simpa using congrArg Array.toList d1
 subst this
 exact r.inj r'
theorem Inv.tuple_inj (I : Inv X pins σ H s) (h : SqT X.K H a xs) (h' : SqT X.K H a ys) : xs = ys := by
 obtain ⟨its, r, ⟨o, e, _, n, d⟩, _⟩ := I.tuple h
 obtain ⟨its', r', ⟨o', e', _, n', d'⟩, _⟩ := I.tuple h'
 rw [e] at e'; cases e'
 rw [d] at d'
 injection d' with d1 _
 have : its = its' := by simpa using congrArg Array.toList d1
 subst this
 exact r.inj r'
end
noncomputable abbrev Cx.wish (X : Cx) (E : Value -> Shared -> Prop) : Cx := { X with xe := E }
noncomputable abbrev Cx.nox (X : Cx) : Cx := X.wish fun _ _ => False
theorem Cx.Ok.wish {X : Cx} (ok : X.Ok) (E : Value -> Shared -> Prop) : (X.wish E).Ok :=
 ⟨ok.mod, ok.kind, ok.glob, ok.blt, ok.above, ok.inj, ok.has, ok.cab, ok.hd, ok.frames, ok.stk, ok.exf, ok.bs, ok.bsz, ok.noex, ok.exfs, ok.funs, ok.frf⟩
theorem Cx.Ok.unwish {X : Cx} {E : Value -> Shared -> Prop} (ok : (X.wish E).Ok) : X.Ok :=
 ⟨ok.mod, ok.kind, ok.glob, ok.blt, ok.above, ok.inj, ok.has, ok.cab, ok.hd, ok.frames, ok.stk, ok.exf, ok.bs, ok.bsz, ok.noex, ok.exfs, ok.funs, ok.frf⟩
section
variable {X : Cx} {pins : List (Addr × Obj)} {σ : St} {H : Hp} {s : Shared} {E : Value -> Shared -> Prop}
theorem Inv.wish (I : Inv X pins σ H s) (E : Value -> Shared -> Prop) : Inv (X.wish E) pins σ H s := ⟨I.ok.wish E, I.os, I.bare, I.base, I.loc, I.cell, I.free, I.freeC, I.pin, I.hok, I.len⟩
theorem Inv.unwish (I : Inv (X.wish E) pins σ H s) : Inv X pins σ H s := ⟨I.ok.unwish, I.os, I.bare, I.base, I.loc, I.cell, I.free, I.freeC, I.pin, I.hok, I.len⟩
theorem SP.unwish {D : Ends} {f : Flow} {s' : Shared} (h : SP (X.wish E) pins D f s') : SP X pins D f s' := by
 cases f with
 | next => obtain ⟨σ', H', I, q⟩ := h; exact ⟨σ', H', I.unwish, q⟩
 | brk => obtain ⟨σ', H', I, q⟩ := h; exact ⟨σ', H', I.unwish, q⟩
 | cont => obtain ⟨σ', H', I, q⟩ := h; exact ⟨σ', H', I.unwish, q⟩
 | ret u => obtain ⟨v, σ', H', I, r, q⟩ := h; exact ⟨v, σ', H', I.unwish, r, q⟩
theorem PSs.nox {st : List Stmt} {t : TS} (h : PSs X.nox st t) : PSs X st t := fun pins s σ H D I hw =>
 wpAny_mono (h pins s σ H D (I.wish _) hw) (fun _ _ q => q.unwish) fun _ _ z => False.elim z
end
section
variable {X : Cx} {st : Stmt} {rest : List Stmt} {t u : TS} {e : Expr} {te : TE} {pos : Pos}
noncomputable def tNext : TS := fun D σ H => D.nx σ H
noncomputable def tSeq (t u : TS) : TS := fun D σ H => t { D with nx := u D } σ H
theorem pss_nil : PSs X [] tNext := fun _ _ σ H _ I h => wpAny_execs_nil ⟨σ, H, I, h⟩
theorem pss_cons (h1 : PS X st t) (h2 : PSs X rest u) : PSs X (st :: rest) (tSeq t u) := by
 intro pins s σ H D I h
 refine wpAny_execs_cons (thn (h1 pins s σ H { D with nx := u D } I h) fun f s1 q => ?_)
 cases f with
 | next =>
  obtain ⟨σ', H', I', q⟩ := q
  exact h2 pins s1 σ' H' D I' q
 | ret v => exact q
 | brk => exact q
 | cont => exact q
theorem pss_one (h1 : PS X st t) : PSs X [st] t := by
 intro pins s σ H D I h
 refine wpAny_execs_cons (thn (h1 pins s σ H D I h) fun f s1 q => ?_)
 cases f with
 | next => exact wpAny_execs_nil q
 | ret v => exact q
 | brk => exact q
 | cont => exact q
theorem Inv.quiet {pins : List (Addr × Obj)} {σ : St} {H : Hp} {s : Shared} (I : Inv X pins σ H s) : interactive X.env = false := by simp [interactive, I.ok.kind]
noncomputable def tDrop (te : TE) : TS := fun D σ H => te σ H fun _ H1 => D.nx σ H1
theorem ps_expr (he : PE X e te) (hs : swapsWith e none pos.line X.env = pure false := by rfl) : PS X (.Expr e pos) (tDrop te) := by
 intro pins s σ H D I h
 exact wpAny_Expr_any (thn (he pins s σ H _ I h) fun v s1 ⟨x, H1, I1, r1, q1⟩ => ⟨σ, H1, I1, q1⟩) I.quiet hs
noncomputable def tRet (te : TE) : TS := fun D σ H => te σ H D.rt
theorem ps_ret (he : PE X e te) : PS X (.Return (some e) pos) (tRet te) := by
 intro pins s σ H D I h
 exact wpAny_Return_some (thn (he pins s σ H _ I h) fun v s1 ⟨x, H1, I1, r1, q1⟩ => ⟨x, σ, H1, I1, r1, q1⟩)
noncomputable def tIfS (c : TT) (t u : TS) : TS := fun D σ H => c σ H fun b H1 => if b = true then t D σ H1 else u D σ H1
theorem ps_if {c : Expr} {a b : List Stmt} {tc : TT} (hc : PT X c tc) (ha : PSs X a t) (hb : PSs X b u) : PS X (.If c a b pos) (tIfS tc t u) := by
 intro pins s σ H D I h
 refine wpAny_If (thn (hc pins s σ H _ I h) fun d s1 ⟨H1, I1, q1⟩ => ?_)
 cases d with
 | true => exact ha pins s1 σ H1 D I1 q1
 | false => exact hb pins s1 σ H1 D I1 q1
noncomputable def tNever : TS := fun _ _ _ => False
theorem ps_never : PS X st tNever := fun _ _ _ _ _ _ h => h.elim
end
noncomputable abbrev TG := V -> St -> Hp -> (St -> Hp -> Prop) -> Prop
noncomputable abbrev TGs := List V -> St -> Hp -> (St -> Hp -> Prop) -> Prop
noncomputable def PG (X : Cx) (target : Expr) (t : TG) : Prop :=
 ∀ (pins : List (Addr × Obj)) (s : Shared) (σ : St) (H : Hp) (v : V) (u : Value) (Q : St -> Hp -> Prop), Inv X pins σ H s -> RelV v u -> t v σ H Q ->
  wpAny (model X.prog X.w) X.A (assign target X.env u) (fun _ s' => ∃ σ' H', Inv X pins σ' H' s' /\ Q σ' H') X.xe s
noncomputable def PGs (X : Cx) (ts : List Expr) (t : TGs) : Prop :=
 ∀ (pins : List (Addr × Obj)) (s : Shared) (σ : St) (H : Hp) (vs : List V) (us : List Value) (Q : St -> Hp -> Prop), Inv X pins σ H s -> Vals vs us -> t vs σ H Q ->
  wpAny (model X.prog X.w) X.A (assignInOrder ((assignEach ts X.env).map (·.2)) us) (fun _ s' => ∃ σ' H', Inv X pins σ' H' s' /\ Q σ' H') X.xe s
noncomputable abbrev TSet := V -> V -> V -> Hp -> (Hp -> Prop) -> Prop
noncomputable def PSet (X : Cx) (t : TSet) : Prop :=
 ∀ (pins : List (Addr × Obj)) (s : Shared) (σ : St) (H : Hp) (o i v : V) (ov iv u : Value) (Q : Hp -> Prop), Inv X pins σ H s -> RelV o ov -> RelV i iv -> RelV v u -> t o i v H Q ->
  wpAny (model X.prog X.w) X.A (setItem ov iv u) (fun _ s' => ∃ H', Inv X pins σ H' s' /\ Q H') X.xe s
section
variable {X : Cx} {pos : Pos}
noncomputable def gName (i : Nat) : TG := fun v σ H Q => Q (σ.set i (some v)) H
theorem pg_name {i : Nat} {x : Str} (hN : X.N.Nodup) (hi : X.N[i]? = some x) (hx : Loc X.env.scope x) (hf : X.fn x = true \/ X.env.scope.names.lookup x = some .local := by first | exact .inl rfl | exact .inr rfl | assumption) : PG X (.Name x pos) (gName i) := by
 intro pins s σ H v u Q I r h
 exact wpAny_assign_Name (store_ok I hN hi hx r (fun s' I' => ⟨_, H, I', h⟩) hf)
noncomputable def gNil : TGs := fun vs σ H Q => vs = [] /\ Q σ H
noncomputable def gCons (t : TG) (u : TGs) : TGs := fun vs σ H Q => ∃ v r, vs = v :: r /\ t v σ H fun σ' H' => u r σ' H' Q
theorem pgs_nil : PGs X [] gNil := by
 intro pins s σ H vs us Q I r h
 obtain ⟨e, h⟩ := h
 subst e
 cases r
 exact assignInOrder_nil ⟨σ, H, I, h⟩
theorem pgs_cons {e : Expr} {es : List Expr} {t : TG} {u : TGs} (h1 : PG X e t) (h2 : PGs X es u)
  (hs : (assignEach (e :: es) X.env).map (·.2) = assign e X.env :: (assignEach es X.env).map (·.2) := by rfl) : PGs X (e :: es) (gCons t u) := by
 intro pins s σ H vs us Q I r h
 obtain ⟨v, vr, e1, h⟩ := h
 subst e1
 cases r with
 | cons r rr =>
  rw [hs]
  refine assignInOrder_cons (thn (h1 pins s σ H _ _ _ I r h) fun _ s1 ⟨σ1, H1, I1, q1⟩ => ?_)
  exact h2 pins s1 σ1 H1 _ _ Q I1 rr q1
noncomputable def gTup (K : PySem.W.Frag) (n : Nat) (t : TGs) : TG := fun v σ H Q => ∃ a xs, v = .ref a /\ SqT K H a xs /\ xs.length = n /\ t xs σ H Q
theorem pg_tup {es : List Expr} {k : Nat} {t : TGs} {n : Nat} (hc : X.calm = true) (h : PGs X es t)
  (hn : (assignEach es X.env).length = n := by rfl) (hst : (assignEach es X.env).findIdx? (·.1) = none := by rfl) : PG X (.Tuple es k pos) (gTup X.K n t) := by
 intro pins s σ H v u Q I r hw
 obtain ⟨a, xs, e1, hq, hl, hw⟩ := hw
 subst e1
 cases r
 obtain ⟨its, rv, ht, hz⟩ := I.tuple hq
 refine assign_Tuple_tuple (I.ok.hd hc) ht (by simp [hn, <- hl, rv.length]) hst fun h' hx => ?_
 have I1 : Inv X pins σ H { s with heap := h' } := I.kept (t' := s.toks) fun b o e => hx b o (Nat.ne_of_lt (Heap.lt_size e)) e
 exact h pins _ σ H xs _ Q I1 (by simpa using rv) hw
noncomputable def gSub (to ti : TE) (t : TSet) : TG := fun v σ H Q => to σ H fun o H1 => ti σ H1 fun i H2 => t o i v H2 fun H3 => Q σ H3
theorem pg_sub {o i : Expr} {to ti : TE} {t : TSet} (ho : PE X o to) (hi : PE X i ti) (hs : PSet X t)
  (ha : ∀ v, assign (.Subscript o i pos) X.env v = (do
   let ov <- holding [v] (eval o X.env)
   let iv <- holding [v, ov] (eval i X.env)
   standAt pos
   holding [v, ov, iv] (setItem ov iv v)
   release [v, ov, iv] []) := by intro _; rfl) : PG X (.Subscript o i pos) (gSub to ti t) := by
 intro pins s σ H v u Q I r h
 rw [ha]
 refine wpAny_bind (wpAny_holding (thn (ho pins s σ H _ I h) fun ov s1 ⟨x, H1, I1, r1, q1⟩ => ?_))
 refine wpAny_bind (wpAny_holding (thn (hi pins s1 σ H1 _ I1 q1) fun iv s2 ⟨y, H2, I2, r2, q2⟩ => ?_))
 refine wpAny_bind (wpAny_standAt (wpAny_bind (wpAny_holding (thn (hs pins s2 σ H2 x y v ov iv u _ I2 r1 r2 r q2) fun _ s3 ⟨H3, I3, q3⟩ => ?_))))
 exact wpAny_release ⟨σ, H3, I3, q3⟩
noncomputable def tAsg (te : TE) (g : TG) : TS := fun D σ H => te σ H fun x H1 => g x σ H1 D.nx
theorem ps_asg {tg e : Expr} {te : TE} {g : TG} (he : PE X e te) (hg : PG X tg g) (hs : swapsWithSole [tg] e pos.line X.env = pure false := by rfl) (hw : swappedStores [tg] e X.env = pure none := by rfl)
  (h1 : (assignEach [tg] X.env).map (·.2) = [assign tg X.env] := by rfl) : PS X (.Assign [tg] e pos) (tAsg te g) := by
 intro pins s σ H D I h
 refine wpAny_Assign_stores (thn (he pins s σ H _ I h) fun v s1 ⟨x, H1, I1, r1, q1⟩ => ?_) hs hw
 rw [h1]
 exact thn (hg pins s1 σ H1 x v _ I1 r1 q1) fun _ s2 q => q
theorem ps_set {i : Nat} {x : Str} {e : Expr} {te : TE} {pos' : Pos} (hN : X.N.Nodup) (hi : X.N[i]? = some x) (hx : Loc X.env.scope x) (he : PE X e te) (hs : swapsWith e (some (.Name x pos')) pos.line X.env = pure false := by rfl) (hf : X.fn x = true \/ X.env.scope.names.lookup x = some .local := by first | exact .inl rfl | exact .inr rfl | assumption) :
  PS X (.Assign [.Name x pos'] e pos) (tAsg te (gName i)) := by
 intro pins s σ H D I h
 refine wpAny_Assign_Name (thn (he pins s σ H _ I h) fun v s1 ⟨y, H1, I1, r1, q1⟩ => ?_) hs
 exact store_ok I1 hN hi hx r1 (fun s2 I2 => ⟨_, H1, I2, q1⟩) hf
noncomputable def tPar (i j : Nat) (ta : TA) : TS := fun D σ H => ta σ H fun vs H1 => ∃ v w, vs = [v, w] /\ D.nx ((σ.set i (some v)).set j (some w)) H1
end
section
variable {X : Cx} {pos : Pos}
noncomputable def tWhile (c : TT) (tb : TS) : TS := fun D σ H => ∃ W : Nat -> St -> Hp -> Prop, (∃ m, W m σ H) /\ ∀ m σ H, W m σ H ->
 c σ H fun b H1 => if b = true then ∃ N : St -> Hp -> Prop, (∀ σ' H', N σ' H' -> ∃ m', m' < m /\ W m' σ' H') /\ tb { D with nx := N, ct := N, bk := D.nx } σ H1 else D.nx σ H1
theorem ps_while {c : Expr} {body : List Stmt} {tc : TT} {tb : TS} (hp : PassesOwn (model X.prog X.w) X.A X.env X.xe) (hc : PT X c tc) (hb : PSs X body tb) : PS X (.While c body [] pos) (tWhile tc tb) := by
 intro pins s σ H D I h
 obtain ⟨W, ⟨m0, w0⟩, turn⟩ := h
 refine wpAny_While (codeAny_whileLoop (fun n s' => ∃ σ' H', Inv X pins σ' H' s' /\ W n σ' H') ?_ m0 ⟨σ, H, I, w0⟩)
 rintro n s1 ⟨σ1, H1, I1, w1⟩
 refine wpAny_passesOwn hp (thn (hc pins s1 σ1 H1 _ I1 (turn n σ1 H1 w1)) fun b s2 ⟨H2, I2, q2⟩ => ?_)
 cases b with
 | true =>
  obtain ⟨N, hN, q2⟩ := q2
  rw [if_pos rfl]
  refine wpAny_passesOwn hp (thn (hb pins s2 σ1 H2 _ I2 q2) fun f s3 q3 => ?_)
  cases f with
  | next =>
   obtain ⟨σ3, H3, I3, n3⟩ := q3
   obtain ⟨m', hm, w3⟩ := hN σ3 H3 n3
   exact ⟨m', hm, σ3, H3, I3, w3⟩
  | cont =>
   obtain ⟨σ3, H3, I3, n3⟩ := q3
   obtain ⟨m', hm, w3⟩ := hN σ3 H3 n3
   exact ⟨m', hm, σ3, H3, I3, w3⟩
  | brk => exact q3
  | ret v => exact q3
 | false =>
  rw [if_neg Bool.false_ne_true]
  exact wpAny_execs_nil ⟨σ1, H2, I2, q2⟩
end
structure It where
 go : Nat -> Hp -> Prop
 yld : Nat -> Hp -> V -> Hp -> Prop
 stop : Nat -> Hp -> Prop
noncomputable def FpOk (X : Cx) (pins : List (Addr × Obj)) (H : Hp) (b : Addr) : Prop :=
 H b = none /\ b ≠ X.env.locals /\ b ∉ X.fs /\ (b ∈ X.ex \/ X.s₀.heap.objs.size <= b) /\ (∀ x c, X.env.cells.lookup x = some c -> c ≠ b) /\ ∀ p ∈ X.pn ++ pins, p.1 ≠ b
theorem Inv.fpOk {X : Cx} {pins : List (Addr × Obj)} {σ : St} {H H' : Hp} {s : Shared} {b : Addr} (I : Inv X pins σ H s) (hb : s.heap.objs.size <= b) (hn : H' b = none) : FpOk X pins H' b := by
 refine ⟨hn, Nat.ne_of_gt (Nat.lt_of_lt_of_le I.lt hb), I.nofs hb, .inr (Nat.le_trans I.sz hb), fun x c e z => ?_, fun p hp z => ?_⟩
 . obtain ⟨v, q⟩ := I.cell x c e
   exact absurd (Nat.lt_of_lt_of_le q.lt (by rw [z]; exact hb)) (Nat.lt_irrefl _)
 . exact absurd (Nat.lt_of_lt_of_le (Heap.lt_size (I.pin p hp).1) (by rw [z]; exact hb)) (Nat.lt_irrefl _)
structure Turn (P : Program) (w : World) (K : PySem.W.Frag) (tg : Expr) (J : It) (fp : List Addr) (it : Addr) (tn : Nat -> Heap -> Prop) : Prop where
 mem : it ∈ fp
 obj : ∀ i h, tn i h -> ∀ b ∈ fp, ∃ o, h.get? b = some o /\ ∀ v, o.data ≠ .cell v
 keep : ∀ i h h', tn i h -> (∀ b ∈ fp, ∀ o, h.get? b = some o -> h'.get? b = some o) -> tn i h'
 item : ∀ (X : Cx), X.prog = P -> X.w = w -> X.K = K -> X.calm = true -> ∀ (i : Nat) (pins : List (Addr × Obj)) (s : Shared) (σ : St) (H : Hp) (E : Value -> Shared -> Prop), Inv X pins σ H s -> (∀ b ∈ fp, FpOk X pins H b) -> tn i s.heap -> J.go i H ->
  wpAny (model P w) X.A (pyNext (.ref it)) (fun r s1 => ∃ u, r = some u /\
   wpAny (model P w) X.A (letOwnedTupleGo tg (.ref it) u) (fun _ s2 => ∃ x H', Inv X pins σ H' s2 /\ RelV x u /\ J.yld i H x H' /\ tn (i + 1) s2.heap /\ ∀ b ∈ fp, H' b = none) E s1) E s
 done : ∀ (X : Cx), X.prog = P -> X.w = w -> X.K = K -> X.calm = true -> ∀ (i : Nat) (pins : List (Addr × Obj)) (s : Shared) (σ : St) (H : Hp) (E : Value -> Shared -> Prop), Inv X pins σ H s -> (∀ b ∈ fp, FpOk X pins H b) -> tn i s.heap -> J.stop i H ->
  wpAny (model P w) X.A (pyNext (.ref it)) (fun r s1 => r = none /\ Inv X pins σ H s1) E s
 self : ∀ (A : Around) (i : Nat) (s : Shared) (Q : Value -> Shared -> Prop) (E : Value -> Shared -> Prop), tn i s.heap -> Q (.ref it) s -> wpAny (model P w) A (pyIter (.ref it)) Q E s
noncomputable abbrev TI := St -> Hp -> (It -> Hp -> Prop) -> Prop
noncomputable def PIE (X : Cx) (pins : List (Addr × Obj)) (σ : St) (tg : Expr) (R : It -> Hp -> Prop) (itv : Value) (s2 : Shared) : Prop :=
 ∃ (it : Addr) (fp : List Addr) (tn : Nat -> Heap -> Prop) (J : It) (H' : Hp), itv = .ref it /\ Inv X pins σ H' s2 /\ Turn X.prog X.w X.K tg J fp it tn /\ tn 0 s2.heap /\ (∀ b ∈ fp, FpOk X pins H' b) /\ R J H'
noncomputable def PI (X : Cx) (tg iter : Expr) (wi : TI) : Prop :=
 ∀ (pins : List (Addr × Obj)) (s : Shared) (σ : St) (H : Hp) (R : It -> Hp -> Prop), Inv X pins σ H s -> wi σ H R ->
  wpAny (model X.prog X.w) X.A (eval iter X.env) (fun v s1 => wpAny (model X.prog X.w) X.A (pyIter v) (PIE X pins σ tg R) X.xe s1) X.xe s
theorem go_of {M : Model} {A : Around} {E : Value -> Shared -> Prop} {s : Shared} {tg : Expr} {it : Addr} {u : Value} {o : Obj} {n : String} {vs : Array Value} {Q : Unit -> Shared -> Prop} (ho : s.heap.get? it = some o) (hc : o.cls = .type n) (hd : o.data = .fields vs)
  (hn : ["enumerate", "zip", "dict_itemiterator", "dict_reverseitemiterator", "odict_iterator", "itertools.zip_longest", "itertools.pairwise"].contains n = false) (hQ : Q () s) : wpAny M A (letOwnedTupleGo tg (.ref it) u) Q E s := by
 unfold letOwnedTupleGo
 cases tg <;> first
  | exact wpAny_pure hQ
  | (cases u <;> first
    | exact wpAny_pure hQ
    | (refine wpAny_bind (wpAny_load ho ?_)
       rw [hc, hd]
       show wpAny M A (if (["enumerate", "zip", "dict_itemiterator", "dict_reverseitemiterator", "odict_iterator", "itertools.zip_longest", "itertools.pairwise"].contains n && vs[0]? == some (rawInt _)) = true then _ else _) Q E s
       rw [if_neg (by intro h; rw [hn, Bool.false_and] at h; cases h)]
       exact wpAny_pure hQ))
noncomputable def Itl (K : PySem.W.Frag) (a : Addr) : It :=
 ⟨fun i H => ∃ xs x, SqL K H a xs /\ xs[i]? = some x, fun i H x H' => H' = H /\ ∀ xs, SqL K H a xs -> xs[i]? = some x, fun i H => ∃ xs, SqL K H a xs /\ xs.length <= i⟩
noncomputable def Itt (K : PySem.W.Frag) (a : Addr) : It :=
 ⟨fun i H => ∃ xs x, SqT K H a xs /\ xs[i]? = some x, fun i H x H' => H' = H /\ ∀ xs, SqT K H a xs -> xs[i]? = some x, fun i H => ∃ xs, SqT K H a xs /\ xs.length <= i⟩
noncomputable def Itr (lo : Int) (n : Nat) : It := ⟨fun i _ => i < n, fun i H x H' => H' = H /\ x = .int (lo + i), fun i _ => n <= i⟩
theorem turn_list {P : Program} {w : World} {K : PySem.W.Frag} {tg : Expr} (a it : Addr) : Turn P w K tg (Itl K a) [it] it (fun i h => h.IsListIter it a i) where
 mem := by simp
 obj := fun i h st b hb => by
  have e : b = it := by simpa using hb
  subst e
  obtain ⟨o, e, c, d⟩ := st
  exact ⟨o, e, fun v z => by rw [d] at z; cases z⟩
 keep := fun i h h' st k => st.at fun o e => k it (by simp) o e
 item := by
  intro X hP hw hK hc i pins s σ H E I hf st hg
  subst hP hw hK
  obtain ⟨xs, x, hq, hx⟩ := hg
  obtain ⟨its, rv, p, hz⟩ := I.list hq
  obtain ⟨u, hu, ru⟩ := rv.get hx
  obtain ⟨f0, f1, f2, f3, f4, f5⟩ := hf it (by simp)
  refine wpAny_pyNext_list_item st p.isList (x := u) (by simpa using hu) fun h' st' sb => ?_
  have I1 : Inv X pins σ H { s with heap := h' } := I.turned (t' := s.toks) (fun b o hb e => (sb.2 b hb).trans e) f0 f1 f3 f4 f5
  obtain ⟨o, e, c, d⟩ := id st'
  exact ⟨u, rfl, go_of (s := { s with heap := h' }) e c d (by decide) ⟨x, H, I1, ru, ⟨rfl, fun ys hy => by rw [I.list_inj hy hq]; exact hx⟩, st', fun b hb => (hf b hb).1⟩⟩
 done := by
  intro X hP hw hK hc i pins s σ H E I hf st hg
  subst hP hw hK
  obtain ⟨xs, hq, hx⟩ := hg
  obtain ⟨its, rv, p, hz⟩ := I.list hq
  obtain ⟨f0, f1, f2, f3, f4, f5⟩ := hf it (by simp)
  have hl := rv.length
  exact wpAny_pyNext_list_end (I.ok.hd hc) st p.isList (by simp; omega) fun h' eb => ⟨rfl, I.turned (t' := s.toks) (fun b o hb e => eb b o hb e) f0 f1 f3 f4 f5⟩
 self := fun _ _ _ _ _ st h => wpAny_pyIter_listiter st h
theorem turn_tuple {P : Program} {w : World} {K : PySem.W.Frag} {tg : Expr} (a it : Addr) : Turn P w K tg (Itt K a) [it] it (fun i h => h.IsTupleIter it a i) where
 mem := by simp
 obj := fun i h st b hb => by
  have e : b = it := by simpa using hb
  subst e
  obtain ⟨o, e, c, d⟩ := st
  exact ⟨o, e, fun v z => by rw [d] at z; cases z⟩
 keep := fun i h h' st k => st.at fun o e => k it (by simp) o e
 item := by
  intro X hP hw hK hc i pins s σ H E I hf st hg
  subst hP hw hK
  obtain ⟨xs, x, hq, hx⟩ := hg
  obtain ⟨its, rv, p, hz⟩ := I.tuple hq
  obtain ⟨u, hu, ru⟩ := rv.get hx
  obtain ⟨f0, f1, f2, f3, f4, f5⟩ := hf it (by simp)
  refine wpAny_pyNext_tuple_item st (show s.heap.IsTuple a its.toArray from p) (x := u) (by simpa using hu) fun h' st' sb => ?_
  have I1 : Inv X pins σ H { s with heap := h' } := I.turned (t' := s.toks) (fun b o hb e => (sb.2 b hb).trans e) f0 f1 f3 f4 f5
  obtain ⟨o, e, c, d⟩ := id st'
  exact ⟨u, rfl, go_of (s := { s with heap := h' }) e c d (by decide) ⟨x, H, I1, ru, ⟨rfl, fun ys hy => by rw [I.tuple_inj hy hq]; exact hx⟩, st', fun b hb => (hf b hb).1⟩⟩
 done := by
  intro X hP hw hK hc i pins s σ H E I hf st hg
  subst hP hw hK
  obtain ⟨xs, hq, hx⟩ := hg
  obtain ⟨its, rv, p, hz⟩ := I.tuple hq
  obtain ⟨f0, f1, f2, f3, f4, f5⟩ := hf it (by simp)
  have hl := rv.length
  exact wpAny_pyNext_tuple_end (I.ok.hd hc) st (show s.heap.IsTuple a its.toArray from p) (by simp; omega) fun h' eb => ⟨rfl, I.turned (t' := s.toks) (fun b o hb e => eb b o hb e) f0 f1 f3 f4 f5⟩
 self := fun _ _ _ _ _ st h => wpAny_pyIter_tupleiter st h
theorem turn_range {P : Program} {w : World} {K : PySem.W.Frag} {tg : Expr} (it : Addr) (lo : Int) (n : Nat) : Turn P w K tg (Itr lo n) [it] it (fun i h => IsRangeIter h it (lo + (i : Nat) * 1) ((n : Int) - (i : Nat)) 1) where
 mem := by simp
 obj := fun i h st b hb => by
  have e : b = it := by simpa using hb
  subst e
  exact ⟨_, st, fun v z => by
   have z' : Data.fields _ = Data.cell v := z
   cases z'⟩
 keep := fun i h h' st k => k it (by simp) _ st
 item := by
  intro X hP hw hK hc i pins s σ H E I hf st hg
  subst hP hw hK
  obtain ⟨f0, f1, f2, f3, f4, f5⟩ := hf it (by simp)
  have W := Walks.range (prog := X.prog) (w := X.w) (I.ok.hd hc) it lo 1 n
  refine W.item i s _ _ hg st fun v h' tk hv st' kk => ?_
  obtain ⟨t, rfl⟩ := hv
  have I1 : Inv X pins σ H { s with heap := h', toks := tk } := I.turned (fun b o hb e => kk b o (by simpa using hb) e) f0 f1 f3 f4 f5
  refine ⟨_, rfl, go_of (s := { s with heap := h', toks := tk }) (n := "range_iterator") st' rfl rfl (by decide) ⟨.int (lo + i), H, I1, ⟨t, ?_⟩, ⟨rfl, rfl⟩, st', fun b hb => (hf b hb).1⟩⟩
  rw [Int.mul_one]
 done := by
  intro X hP hw hK hc i pins s σ H E I hf st hg
  subst hP hw hK
  obtain ⟨f0, f1, f2, f3, f4, f5⟩ := hf it (by simp)
  exact wpAny_pyNext_range_end (I.ok.hd hc) st (by have : n <= i := hg; omega) fun h' eb => ⟨rfl, I.turned (t' := s.toks) (fun b o hb e => eb b o hb e) f0 f1 f3 f4 f5⟩
 self := fun _ _ _ _ _ st h => wpAny_pyIter_rangeiter st h
end L2
namespace L2
open PySem PySem.Spec PyProof.Rows
section
variable {X : Cx} {tg : Expr}
theorem range_it {pins : List (Addr × Obj)} {σ : St} {H : Hp} {s : Shared} {R : It -> Hp -> Prop} {E : Value -> Shared -> Prop} {lo hi : Int} {t u v : Tok} {tk : Nat} (I : Inv X pins σ H s) (h1 : -(2 ^ 62) <= lo) (h2 : lo < 2 ^ 62) (h3 : -(2 ^ 62) <= hi) (h4 : hi < 2 ^ 62)
  (q : R (Itr lo (hi - lo).toNat) H) : wpAny (model X.prog X.w) X.A (pyIter (.ref s.heap.objs.size)) (PIE X pins σ tg R) E { s with heap := s.heap.push { cls := .type "range", data := .fields #[.int lo t, .int hi u, .int 1 v] }, toks := tk } := by
 refine wpAny_pyIter_range (IsRange.new ..) (small_one h1 h2 h3 h4) ?_
 have I1 : Inv X pins σ H { s with heap := s.heap.push { cls := .type "range", data := .fields #[.int lo t, .int hi u, .int 1 v] }, toks := tk } := I.kept fun b o e => Heap.get?_push_of_some _ e
 refine ⟨(s.heap.push { cls := .type "range", data := .fields #[.int lo t, .int hi u, .int 1 v] }).objs.size, [(s.heap.push { cls := .type "range", data := .fields #[.int lo t, .int hi u, .int 1 v] }).objs.size], _, _, H, rfl,
  I1.kept (t' := tk) fun b o e => Heap.get?_push_of_some _ e, turn_range _ lo (hi - lo).toNat, ?_, fun b hb => ?_, q⟩
 . have e1 : lo + ((0 : Nat) : Int) * 1 = lo := by simp
   have e2 : (((hi - lo).toNat : Nat) : Int) - ((0 : Nat) : Int) = Builtin.Range.rangeSize lo hi 1 := by rw [rangeSize_one]; split <;> omega
   show IsRangeIter _ _ (lo + ((0 : Nat) : Int) * 1) ((((hi - lo).toNat : Nat) : Int) - ((0 : Nat) : Int)) 1
   rw [e1, e2]
   exact Heap.get?_push_size _ rfl
 . have e : b = (s.heap.push { cls := .type "range", data := .fields #[.int lo t, .int hi u, .int 1 v] }).objs.size := by simpa using hb
   subst e
   exact I1.fpOk (Nat.le_refl _) (I1.hok.fresh (Nat.le_refl _))
noncomputable def iRng1 (ta : TA) : TI := fun σ H R => ta σ H fun vs H1 => ∃ j : Int, vs = [.int j] /\ -(2 ^ 62) <= j /\ j < 2 ^ 62 /\ R (Itr 0 j.toNat) H1
theorem pi_range1 {a : Expr} {ta : TA} {p pos : Pos} (hg : Gl X "range") (hm : X.mg "range" = none) (ha : PA X [a] ta) (hs : starEach [a] X.env = [(false, eval a X.env)] := by rfl) : PI X tg (.Call (.Name "range" p) [a] [] pos) (iRng1 ta) := by
 intro pins s σ H R I h
 refine Call_ (ld_blt I hg hm boot_range (PyProof.Rows.callWith_type1 (thn (ha pos pins s σ H _ I h) fun us s1 ⟨vs, H1, I1, r1, q1⟩ => ?_) hs rfl))
 obtain ⟨j, e, q1, q2, q⟩ := q1
 subst e
 cases r1 with
 | cons r rr =>
  cases rr
  obtain ⟨t, rfl⟩ := r
  exact call_range_1 (range_it I1 (by omega) (by omega) q1 q2 (by simpa using q))
noncomputable def tFor (wi : TI) (g : TG) (tb : TS) : TS := fun D σ H => wi σ H fun J H1 => ∃ W : Nat -> Nat -> St -> Hp -> Prop, (∃ m, W 0 m σ H1) /\ ∀ i m σ H, W i m σ H ->
 (J.stop i H /\ D.nx σ H) \/ (J.go i H /\ ∃ N : St -> Hp -> Prop, (∀ σ' H', N σ' H' -> ∃ m', m' < m /\ W (i + 1) m' σ' H') /\ ∀ x H', J.yld i H x H' -> g x σ H' fun σ2 H2 => tb { D with nx := N, ct := N, bk := D.nx } σ2 H2)
noncomputable def pinsAt (fp : List Addr) (h : Heap) : List (Addr × Obj) := fp.filterMap fun b => (h.get? b).map fun o => (b, o)
theorem mem_pinsAt {fp : List Addr} {h : Heap} {b : Addr} {o : Obj} (hb : b ∈ fp) (e : h.get? b = some o) : (b, o) ∈ pinsAt fp h := List.mem_filterMap.mpr ⟨b, hb, by rw [e]; rfl⟩
theorem of_pinsAt {fp : List Addr} {h : Heap} {p : Addr × Obj} (hp : p ∈ pinsAt fp h) : p.1 ∈ fp /\ h.get? p.1 = some p.2 := by
 obtain ⟨b, hb, e⟩ := List.mem_filterMap.mp hp
 cases q : h.get? b with
 | none => rw [q] at e; cases e
 | some o =>
  rw [q] at e
  have e' : (b, o) = p := Option.some.inj e
  subst e'
  exact ⟨hb, q⟩
theorem Inv.pinned {pins : List (Addr × Obj)} {σ : St} {H : Hp} {s : Shared} {fp : List Addr} (I : Inv X pins σ H s) (hf : ∀ b ∈ fp, FpOk X pins H b) (ho : ∀ b ∈ fp, ∃ o, s.heap.get? b = some o /\ ∀ v, o.data ≠ .cell v) : Inv X (pins ++ pinsAt fp s.heap) σ H s :=
 I.pins_of fun p hp => (List.mem_append.mp hp).elim (fun z => I.pin p (List.mem_append_right _ z)) fun z => by
  obtain ⟨hb, e⟩ := of_pinsAt z
  obtain ⟨f0, f1, f2, _⟩ := hf p.1 hb
  obtain ⟨o, e', d⟩ := ho p.1 hb
  rw [e] at e'; cases e'
  exact ⟨e, f0, f1, f2, d⟩
theorem Inv.unpinned {pins pl : List (Addr × Obj)} {σ : St} {H : Hp} {s : Shared} (I : Inv X (pins ++ pl) σ H s) : Inv X pins σ H s := I.pins_of fun p hp => I.pin p (List.mem_append_right _ (List.mem_append_left _ hp))
theorem ps_for {iter : Expr} {body : List Stmt} {wi : TI} {g : TG} {tb : TS} {pos : Pos} (hp : PassesOwn (model X.prog X.w) X.A X.env X.xe) (hc : X.calm = true) (hi : PI X tg iter wi) (hg : PG X tg g) (hb : PSs X body tb)
  (hs : ∀ x, foldedSetIterable iter X.env x = pure x := by intro _; rfl) : PS X (.For tg iter body [] pos) (tFor wi g tb) := by
 intro pins s σ H D I h
 refine wpAny_For (thn (hi pins s σ H _ I h) fun v s1 h1 => thn h1 fun itv s2 h2 => ?_) hs
 obtain ⟨it, fp, tn, J, H2, e, I2, T, st2, f2, W, ⟨m0, w0⟩, turn⟩ := h2
 subst e
 have stat : ∀ {H' : Hp}, (∀ b ∈ fp, H' b = none) -> ∀ b ∈ fp, FpOk X pins H' b := fun hn b hb => ⟨hn b hb, (f2 b hb).2⟩
 refine codeAny_forLoop_any (fun n s' => ∃ i σ' H', Inv X pins σ' H' s' /\ tn i s'.heap /\ (∀ b ∈ fp, H' b = none) /\ W i n σ' H') ?_ m0 ⟨0, σ, H2, I2, st2, fun b hb => (f2 b hb).1, w0⟩
 rintro n s3 ⟨i, σ3, H3, I3, st3, fr3, w3⟩
 rcases turn i n σ3 H3 w3 with ⟨stop, qn⟩ | ⟨go, N, hN, step⟩
 . refine wpAny_passesOwn hp (thn (T.done X rfl rfl rfl hc i pins s3 σ3 H3 X.xe I3 (stat fr3) st3 stop) fun r s4 ⟨hr, I4⟩ => ?_)
   subst hr
   exact wpAny_execs_nil ⟨σ3, H3, I4, qn⟩
 . refine wpAny_passesOwn hp (thn (T.item X rfl rfl rfl hc i pins s3 σ3 H3 X.xe I3 (stat fr3) st3 go) fun r s4 ⟨u, hr, h4⟩ => ?_)
   subst hr
   refine wpAny_passesOwn hp (thn h4 fun _ s5 ⟨x, H5, I5, r5, y5, st5, fr5⟩ => ?_)
   have I5' := I5.pinned (stat fr5) (T.obj _ _ st5)
   refine wpAny_passesOwn hp (thn (hg _ s5 σ3 H5 x u _ I5' r5 (step x H5 y5)) fun _ s6 ⟨σ6, H6, I6, q6⟩ => ?_)
   refine wpAny_passesOwn hp (thn (hb _ s6 σ6 H6 _ I6 q6) fun f s7 q7 => ?_)
   have again : ∀ {σ7 : St} {H7 : Hp}, Inv X (pins ++ pinsAt fp s5.heap) σ7 H7 s7 -> N σ7 H7 -> ∃ m, m < n /\ ∃ i σ' H', Inv X pins σ' H' s7 /\ tn i s7.heap /\ (∀ b ∈ fp, H' b = none) /\ W i m σ' H' := fun {σ7 H7} I7 n7 => by
    obtain ⟨m', hm, w7⟩ := hN σ7 H7 n7
    refine ⟨m', hm, i + 1, σ7, H7, I7.unpinned, T.keep _ _ _ st5 fun b hb o e => (I7.pin (b, o) (List.mem_append_right _ (List.mem_append_right _ (mem_pinsAt hb e)))).1, fun b hb => ?_, w7⟩
    obtain ⟨o, e, d⟩ := T.obj _ _ st5 b hb
    exact (I7.pin (b, o) (List.mem_append_right _ (List.mem_append_right _ (mem_pinsAt hb e)))).2.1
   cases f with
   | next => obtain ⟨σ7, H7, I7, n7⟩ := q7; exact again I7 n7
   | cont => obtain ⟨σ7, H7, I7, n7⟩ := q7; exact again I7 n7
   | brk => obtain ⟨σ7, H7, I7, q7⟩ := q7; exact ⟨σ7, H7, I7.unpinned, q7⟩
   | ret v => obtain ⟨x7, σ7, H7, I7, r7, q7⟩ := q7; exact ⟨x7, σ7, H7, I7.unpinned, r7, q7⟩
end
end L2
namespace L2
open PySem PySem.Spec PyProof.Rows
noncomputable abbrev R2 := V -> V -> Hp -> VK -> Prop
noncomputable def OpR (X : Cx) (f : Value -> Value -> Sem Value) (r : R2) : Prop :=
 ∀ (pins : List (Addr × Obj)) (s : Shared) (σ : St) (H : Hp) (x y : V) (v u : Value) (Q : VK), Inv X pins σ H s -> RelV x v -> RelV y u -> r x y H Q ->
  wpAny (model X.prog X.w) X.A (f v u) (EP X pins σ Q) X.xe s
noncomputable def UnR (X : Cx) (f : Value -> Sem Value) (r : V -> Hp -> VK -> Prop) : Prop :=
 ∀ (pins : List (Addr × Obj)) (s : Shared) (σ : St) (H : Hp) (x : V) (v : Value) (Q : VK), Inv X pins σ H s -> RelV x v -> r x H Q ->
  wpAny (model X.prog X.w) X.A (f v) (EP X pins σ Q) X.xe s
noncomputable def CallR (X : Cx) (f : Value) (r : List V -> Hp -> VK -> Prop) : Prop :=
 ∀ (pins : List (Addr × Obj)) (s : Shared) (σ : St) (H : Hp) (xs : List V) (us : List Value) (Q : VK), Inv X pins σ H s -> Vals xs us -> r xs H Q ->
  wpAny (model X.prog X.w) X.A (call f us) (EP X pins σ Q) X.xe s
noncomputable def tOp (r : R2) (ta tb : TE) : TE := fun σ H Q => ta σ H fun x H1 => tb σ H1 fun y H2 => r x y H2 Q
noncomputable def tUn (r : V -> Hp -> VK -> Prop) (ta : TE) : TE := fun σ H Q => ta σ H fun x H1 => r x H1 Q
noncomputable def rI (C : Int -> Int -> Prop) (g : Int -> Int -> V) : R2 := fun x y H Q => ∃ i j, x = .int i /\ y = .int j /\ C i j /\ Q (g i j) H
noncomputable def rI0 (g : Int -> Int -> V) : R2 := fun x y H Q => ∃ i j, x = .int i /\ y = .int j /\ Q (g i j) H
noncomputable def rU (g : Int -> V) : V -> Hp -> VK -> Prop := fun x H Q => ∃ i, x = .int i /\ Q (g i) H
section
variable {X : Cx} {a b c : Expr} {ta tb tc : TE} {pos : Pos}
theorem binT (ha : PE X a ta) (hb : PE X b tb) {pins : List (Addr × Obj)} {s : Shared} {σ : St} {H : Hp} {R : V -> V -> Hp -> Prop} (I : Inv X pins σ H s)
  (h : ta σ H fun x H1 => tb σ H1 fun y H2 => R x y H2) {Q : Value -> Shared -> Prop} {f : Value -> Value -> Sem Value}
  (hf : ∀ v u s2 x y H2, Inv X pins σ H2 s2 -> RelV x v -> RelV y u -> R x y H2 -> wpAny (model X.prog X.w) X.A (f v u) Q X.xe s2) :
  wpAny (model X.prog X.w) X.A (eval a X.env) (fun v s₁ => wpAny (model X.prog X.w) X.A (eval b X.env) (fun u s₂ => wpAny (model X.prog X.w) X.A (f v u) Q X.xe s₂) X.xe s₁) X.xe s := by
 refine thn (ha pins s σ H _ I h) fun v s1 ⟨x, H1, I1, r1, q1⟩ => ?_
 refine thn (hb pins s1 σ H1 _ I1 q1) fun u s2 ⟨y, H2, I2, r2, q2⟩ => ?_
 exact hf v u s2 x y H2 I2 r1 r2 q2
theorem pe_op {op : Operator} {r : R2} (ho : OpR X (binaryOp op) r) (ha : PE X a ta) (hb : PE X b tb) : PE X (.BinOp a op b pos) (tOp r ta tb) := by
 intro pins s σ H Q I h
 exact wpAny_BinOp (binT ha hb I h fun v u s2 x y H2 I2 rx ry q => ho pins s2 σ H2 x y v u Q I2 rx ry q)
theorem pe_un {op : UnaryOp} {r : V -> Hp -> VK -> Prop} (ho : UnR X (unaryOp op) r) (ha : PE X a ta) : PE X (.UnaryOp op a pos) (tUn r ta) := by
 intro pins s σ H Q I h
 exact UnaryOp_ (thn (ha pins s σ H _ I h) fun v s1 ⟨x, H1, I1, r1, q1⟩ => ho pins s1 σ H1 x v Q I1 r1 q1)
theorem opI {f : Value -> Value -> Sem Value} {C : Int -> Int -> Prop} {g : Int -> Int -> Int}
  (rule : ∀ (i j : Int) (t u : Tok) (s : Shared) (Q : Value -> Shared -> Prop) (E : Value -> Shared -> Prop), C i j -> Q (.int (g i j) s.toks) { s with toks := s.toks + 1 } -> wpAny (model X.prog X.w) X.A (f (.int i t) (.int j u)) Q E s) :
  OpR X f (rI C fun i j => .int (g i j)) := by
 intro pins s σ H x y v u Q I rx ry h
 obtain ⟨i, j, rfl, rfl, hc, q⟩ := h
 obtain ⟨t, rfl⟩ := rx
 obtain ⟨t', rfl⟩ := ry
 exact rule i j t t' s _ _ hc ⟨.int (g i j), H, I.tok _, ⟨_, rfl⟩, q⟩
theorem opI0 {f : Value -> Value -> Sem Value} {g : Int -> Int -> Int}
  (rule : ∀ (i j : Int) (t u : Tok) (s : Shared) (Q : Value -> Shared -> Prop) (E : Value -> Shared -> Prop), Q (.int (g i j) s.toks) { s with toks := s.toks + 1 } -> wpAny (model X.prog X.w) X.A (f (.int i t) (.int j u)) Q E s) :
  OpR X f (rI0 fun i j => .int (g i j)) := by
 intro pins s σ H x y v u Q I rx ry h
 obtain ⟨i, j, rfl, rfl, q⟩ := h
 obtain ⟨t, rfl⟩ := rx
 obtain ⟨t', rfl⟩ := ry
 exact rule i j t t' s _ _ ⟨.int (g i j), H, I.tok _, ⟨_, rfl⟩, q⟩
theorem opB0 {f : Value -> Value -> Sem Value} {g : Int -> Int -> Bool}
  (rule : ∀ (i j : Int) (t u : Tok) (s : Shared) (Q : Value -> Shared -> Prop) (E : Value -> Shared -> Prop), Q (.bool (g i j)) s -> wpAny (model X.prog X.w) X.A (f (.int i t) (.int j u)) Q E s) :
  OpR X f (rI0 fun i j => .bl (g i j)) := by
 intro pins s σ H x y v u Q I rx ry h
 obtain ⟨i, j, rfl, rfl, q⟩ := h
 obtain ⟨t, rfl⟩ := rx
 obtain ⟨t', rfl⟩ := ry
 exact rule i j t t' s _ _ ⟨.bl (g i j), H, I, rfl, q⟩
noncomputable def CDiv (i j : Int) : Prop := 0 < j /\ j < 1073741824
noncomputable def CPow (i j : Int) : Prop := 0 <= j /\ j <= 1000000 /\ i.natAbs < 2 ^ 64
noncomputable def CMul (i j : Int) : Prop := (-(2 ^ 64) < i /\ i < 2 ^ 64) \/ (-(2 ^ 64) < j /\ j < 2 ^ 64)
theorem CMul.ok {i j : Int} (h : CMul i j) : IntMulOk i j := by
 rcases h with ⟨h1, h2⟩ | ⟨h1, h2⟩
 . exact .of_left (intBits_le_64 h1 h2)
 . exact .of_right (intBits_le_64 h1 h2)
theorem op_add : OpR X (binaryOp .Add) (rI0 fun i j => .int (i + j)) := opI0 fun _ _ _ _ _ _ _ q => add_int q
theorem op_sub : OpR X (binaryOp .Sub) (rI0 fun i j => .int (i - j)) := opI0 fun _ _ _ _ _ _ _ q => sub_int q
theorem op_modN : OpR X (binaryOp .Mod) (rI (fun _ j => j ≠ 0) fun i j => .int (i.fmod j)) := opI fun _ _ _ _ _ _ _ hc q => mod_int' hc q
theorem op_pow : OpR X (binaryOp .Pow) (rI CPow fun i j => .int (i ^ j.toNat)) := opI fun _ _ _ _ _ _ _ hc q => pow_int_small hc.1 hc.2.1 hc.2.2 q
theorem unI {f : Value -> Sem Value} {g : Int -> Int}
  (rule : ∀ (i : Int) (t : Tok) (s : Shared) (Q : Value -> Shared -> Prop) (E : Value -> Shared -> Prop), Q (.int (g i) s.toks) { s with toks := s.toks + 1 } -> wpAny (model X.prog X.w) X.A (f (.int i t)) Q E s) :
  UnR X f (rU fun i => .int (g i)) := by
 intro pins s σ H x v Q I rx h
 obtain ⟨i, rfl, q⟩ := h
 obtain ⟨t, rfl⟩ := rx
 exact rule i t s _ _ ⟨.int (g i), H, I.tok _, ⟨_, rfl⟩, q⟩
theorem un_neg : UnR X (unaryOp .USub) (rU fun i => .int (-i)) := unI fun _ _ _ _ _ q => neg_int q
end
noncomputable def scal : V -> V -> Bool
 | .non, .non => true | .non, .int _ => true | .int _, .non => true | .non, .bl _ => true | .bl _, .non => true | .non, .str _ => true | .str _, .non => true
 | .int _, .int _ => true | .bl _, .bl _ => true | .str _, .str _ => true | .byt _, .byt _ => true
 | .int _, .str _ => true | .str _, .int _ => true | .bl _, .str _ => true | .str _, .bl _ => true
 | _, _ => false
noncomputable def rEq : R2 := fun x y H Q => scal x y = true /\ Q (.bl (decide (x = y))) H
noncomputable def rNe : R2 := fun x y H Q => scal x y = true /\ Q (.bl (!decide (x = y))) H
theorem dec_int {i j : Int} : decide (V.int i = V.int j) = (i == j) := by
 rw [Bool.eq_iff_iff]
 simp
theorem dec_bl {i j : Bool} : decide (V.bl i = V.bl j) = (i == j) := by
 rw [Bool.eq_iff_iff]
 simp
theorem dec_str {i j : Str} : decide (V.str i = V.str j) = (i == j) := by
 rw [Bool.eq_iff_iff]
 simp
theorem dec_byt {i j : Array UInt8} : decide (V.byt i = V.byt j) = (i.toList == j.toList) := by
 rw [Bool.eq_iff_iff]
 cases i
 cases j
 simp
section
variable {X : Cx} {a b c : Expr} {ta tb tc : TE} {pos : Pos}
theorem fin_bl {pins : List (Addr × Obj)} {σ : St} {H : Hp} {s : Shared} {Q : VK} {k k' : Bool} (I : Inv X pins σ H s) (q : Q (.bl k) H) (e : k = k') : EP X pins σ Q (.bool k') s := by
 subst e
 exact ⟨.bl k, H, I, rfl, q⟩
theorem op_eq : OpR X (compareOp .Eq) rEq := by
 intro pins s σ H x y v u Q I rx ry h
 obtain ⟨hs, q⟩ := h
 cases x with
 | non =>
  cases rx
  cases y with
  | non => cases ry; exact PySem.EqNone.eq_none_none (fin_bl I q (by simp))
  | bl j => cases ry; exact PySem.EqNone.eq_none_bool (fin_bl I q (by simp))
  | int j => obtain ⟨t', rfl⟩ := ry; exact PySem.EqNone.eq_none_int (fin_bl I q (by simp))
  | str j => obtain ⟨t', rfl⟩ := ry; exact PySem.EqNone.eq_none_str (fin_bl I q (by simp))
  | _ => exact absurd (show false = true from hs) Bool.false_ne_true
 | bl i =>
  cases rx
  cases y with
  | non => cases ry; exact PySem.EqNone.eq_bool_none (fin_bl I q (by simp))
  | bl j => cases ry; exact eq_bool (fin_bl I q dec_bl)
  | str j => obtain ⟨t', rfl⟩ := ry; exact PySem.EqMixed.eq_bool_str (fin_bl I q (by simp))
  | _ => exact absurd (show false = true from hs) Bool.false_ne_true
 | int i =>
  obtain ⟨t, rfl⟩ := rx
  cases y with
  | non => cases ry; exact PySem.EqNone.eq_int_none (fin_bl I q (by simp))
  | int j => obtain ⟨t', rfl⟩ := ry; exact eq_int (fin_bl I q dec_int)
  | str j => obtain ⟨t', rfl⟩ := ry; exact PySem.EqMixed.eq_int_str (fin_bl I q (by simp))
  | _ => exact absurd (show false = true from hs) Bool.false_ne_true
 | str i =>
  obtain ⟨t, rfl⟩ := rx
  cases y with
  | non => cases ry; exact PySem.EqNone.eq_str_none (fin_bl I q (by simp))
  | bl j => cases ry; exact PySem.EqMixed.eq_str_bool (fin_bl I q (by simp))
  | int j => obtain ⟨t', rfl⟩ := ry; exact PySem.EqMixed.eq_str_int (fin_bl I q (by simp))
  | str j => obtain ⟨t', rfl⟩ := ry; exact eq_str (fin_bl I q dec_str)
  | _ => exact absurd (show false = true from hs) Bool.false_ne_true
 | byt i =>
  obtain ⟨t, rfl⟩ := rx
  cases y with
  | byt j => obtain ⟨t', rfl⟩ := ry; exact PySem.W.eq_bytes (fin_bl I q dec_byt)
  | _ => exact absurd (show false = true from hs) Bool.false_ne_true
 | _ => cases y <;> exact absurd (show false = true from hs) Bool.false_ne_true
theorem op_ne : OpR X (compareOp .NotEq) rNe := by
 intro pins s σ H x y v u Q I rx ry h
 obtain ⟨hs, q⟩ := h
 cases x with
 | non =>
  cases rx
  cases y with
  | non => cases ry; exact PySem.EqNone.ne_none_none (fin_bl I q (by simp))
  | bl j => cases ry; exact PySem.EqNone.ne_none_bool (fin_bl I q (by simp))
  | int j => obtain ⟨t', rfl⟩ := ry; exact PySem.EqNone.ne_none_int (fin_bl I q (by simp))
  | str j => obtain ⟨t', rfl⟩ := ry; exact PySem.EqNone.ne_none_str (fin_bl I q (by simp))
  | _ => exact absurd (show false = true from hs) Bool.false_ne_true
 | bl i =>
  cases rx
  cases y with
  | non => cases ry; exact PySem.EqNone.ne_bool_none (fin_bl I q (by simp))
  | bl j => cases ry; exact ne_bool (fin_bl I q (congrArg not dec_bl))
  | str j => obtain ⟨t', rfl⟩ := ry; exact PySem.EqMixed.ne_bool_str (fin_bl I q (by simp))
  | _ => exact absurd (show false = true from hs) Bool.false_ne_true
 | int i =>
  obtain ⟨t, rfl⟩ := rx
  cases y with
  | non => cases ry; exact PySem.EqNone.ne_int_none (fin_bl I q (by simp))
  | int j => obtain ⟨t', rfl⟩ := ry; exact ne_int (fin_bl I q (congrArg not dec_int))
  | str j => obtain ⟨t', rfl⟩ := ry; exact PySem.EqMixed.ne_int_str (fin_bl I q (by simp))
  | _ => exact absurd (show false = true from hs) Bool.false_ne_true
 | str i =>
  obtain ⟨t, rfl⟩ := rx
  cases y with
  | non => cases ry; exact PySem.EqNone.ne_str_none (fin_bl I q (by simp))
  | bl j => cases ry; exact PySem.EqMixed.ne_str_bool (fin_bl I q (by simp))
  | int j => obtain ⟨t', rfl⟩ := ry; exact PySem.EqMixed.ne_str_int (fin_bl I q (by simp))
  | str j => obtain ⟨t', rfl⟩ := ry; exact ne_str (fin_bl I q (congrArg not dec_str))
  | _ => exact absurd (show false = true from hs) Bool.false_ne_true
 | byt i =>
  obtain ⟨t, rfl⟩ := rx
  cases y with
  | byt j => obtain ⟨t', rfl⟩ := ry; exact PySem.W.ne_bytes (fin_bl I q (congrArg not dec_byt))
  | _ => exact absurd (show false = true from hs) Bool.false_ne_true
 | _ => cases y <;> exact absurd (show false = true from hs) Bool.false_ne_true
theorem op_lt : OpR X (compareOp .Lt) (rI0 fun i j => .bl (decide (i < j))) := opB0 fun _ _ _ _ _ _ _ q => lt_int q
theorem op_le : OpR X (compareOp .LtE) (rI0 fun i j => .bl (decide (i <= j))) := opB0 fun _ _ _ _ _ _ _ q => le_int q
theorem op_gt : OpR X (compareOp .Gt) (rI0 fun i j => .bl (decide (j < i))) := opB0 fun _ _ _ _ _ _ _ q => gt_int q
theorem op_ge : OpR X (compareOp .GtE) (rI0 fun i j => .bl (decide (j <= i))) := opB0 fun _ _ _ _ _ _ _ q => ge_int q
theorem op_in_str : OpR X (compareOp .In) (fun x y H Q => ∃ i j, x = .str i /\ y = .str j /\ Q (.bl (!(Builtin.Str.occurrences j i 0 j.length 1).isEmpty)) H) := by
 intro pins s σ H x y v u Q I rx ry h
 obtain ⟨i, j, rfl, rfl, q⟩ := h
 obtain ⟨t, rfl⟩ := rx
 obtain ⟨t', rfl⟩ := ry
 exact in_str (fin_bl I q rfl)
theorem op_isN : OpR X (compareOp .Is) (fun x y H Q => y = .non /\ Q (.bl (decide (x = .non))) H) := by
 intro pins s σ H x y v u Q I rx ry h
 obtain ⟨rfl, q⟩ := h
 cases ry
 refine is_none_gen (fin_bl I q ?_)
 cases x <;> first
  | (cases rx; rfl)
  | (obtain ⟨t, rfl⟩ := rx; rfl)
theorem OpR.or {f : Value -> Value -> Sem Value} {r r' : R2} (h : OpR X f r) (h' : OpR X f r') : OpR X f (fun x y H Q => r x y H Q \/ r' x y H Q) := by
 intro pins s σ H x y v u Q I rx ry q
 rcases q with q | q
 . exact h pins s σ H x y v u Q I rx ry q
 . exact h' pins s σ H x y v u Q I rx ry q
theorem nomark (b : Expr) {op : CmpOp} (h : op ≠ .In := by decide) (h2 : op ≠ .NotIn := by decide) : behindInMarks op b = false := by
 have e1 : (op == CmpOp.In) = false := by cases op <;> first | rfl | exact absurd rfl h
 have e2 : (op == CmpOp.NotIn) = false := by cases op <;> first | rfl | exact absurd rfl h2
 cases b <;> simp [behindInMarks, e1, e2]
theorem pe_cmpR {op : CmpOp} {r : R2} (ho : OpR X (compareOp op) r) (ha : PE X a ta) (hb : PE X b tb) (hm : behindInMarks op b = false) : PE X (.Compare a [op] [b] pos) (tOp r ta tb) := by
 intro pins s σ H Q I h
 exact wpAny_Compare1 (binT ha hb I h fun v u s2 x y H2 I2 rx ry q => ho pins s2 σ H2 x y v u Q I2 rx ry q) hm
noncomputable def tTest (t : TE) : TT := fun σ H Q => t σ H fun x H' => ∃ k, x = .bl k /\ Q k H'
theorem pt_cmpR {op : CmpOp} {r : R2} (ho : OpR X (compareOp op) r) (ha : PE X a ta) (hb : PE X b tb) (hm : behindInMarks op b = false) : PT X (.Compare a [op] [b] pos) (tTest (tOp r ta tb)) := by
 intro pins s σ H Q I h
 refine wpAny_isTrue_Compare1 (thn (ha pins s σ H _ I h) fun v s1 ⟨x, H1, I1, r1, q1⟩ => thn (hb pins s1 σ H1 _ I1 q1) fun u s2 ⟨y, H2, I2, r2, q2⟩ =>
  thn (ho pins s2 σ H2 x y v u _ I2 r1 r2 q2) fun c s3 ⟨z, H3, I3, r3, k, e, q3⟩ => ?_) hm
 subst e
 cases r3
 exact wpAny_truthy_bool ⟨H3, I3, q3⟩
theorem line63 : (sizeLine : Nat) < 2 ^ 63 := by rw [sizeLine_eq]; decide
theorem op_add_str : OpR X (binaryOp .Add) (fun x y H Q => ∃ i j, x = .str i /\ y = .str j /\ i.length + j.length <= sizeLine /\ Q (.str (i ++ j)) H) := by
 intro pins s σ H x y v u Q I rx ry h
 obtain ⟨i, j, rfl, rfl, hz, q⟩ := h
 obtain ⟨t, rfl⟩ := rx
 obtain ⟨t', rfl⟩ := ry
 exact add_str (fun t' tk => ⟨.str (i ++ j), H, I.tok _, ⟨_, rfl⟩, q⟩) hz
theorem vals1 {x : V} {us : List Value} (r : Vals [x] us) : ∃ u, us = [u] /\ RelV x u := by
 cases r with
 | cons r1 r2 => cases r2; exact ⟨_, rfl, r1⟩
theorem vals2 {x y : V} {us : List Value} (r : Vals [x, y] us) : ∃ u w', us = [u, w'] /\ RelV x u /\ RelV y w' := by
 cases r with
 | cons r1 r2 =>
  cases r2 with
  | cons r3 r4 => cases r4; exact ⟨_, _, rfl, r1, r3⟩
theorem call_abs : CallR X (.builtin "abs") (fun xs H Q => ∃ i, xs = [.int i] /\ Q (.int (if i < 0 then -i else i)) H) := by
 intro pins s σ H xs us Q I r h
 obtain ⟨i, rfl, q⟩ := h
 obtain ⟨u, rfl, t, rfl⟩ := vals1 r
 exact call_abs_int fun u tk => ⟨.int (if i < 0 then -i else i), H, I.tok _, ⟨_, rfl⟩, q⟩
theorem call_int1 : CallR X (.type "int") (fun xs H Q => (∃ i, xs = [.int i] /\ Q (.int i) H) \/ ∃ k, xs = [.bl k] /\ Q (.int (if k then 1 else 0)) H) := by
 intro pins s σ H xs us Q I r h
 rcases h with ⟨i, rfl, q⟩ | ⟨k, rfl, q⟩
 . obtain ⟨u, rfl, t, rfl⟩ := vals1 r
   exact call_int_int ⟨.int i, H, I, ⟨_, rfl⟩, q⟩
 . obtain ⟨u, rfl, r1⟩ := vals1 r
   cases r1
   exact call_int_bool ⟨.int (if k then 1 else 0), H, I.tok _, ⟨_, rfl⟩, q⟩
theorem call_str_int : CallR X (.type "str") (fun xs H Q => ∃ i, xs = [.int i] /\ i.natAbs.log2 < 1920 /\ Q (.str (toString i)) H) := by
 intro pins s σ H xs us Q I r h
 obtain ⟨i, rfl, hz, q⟩ := h
 obtain ⟨u, rfl, t, rfl⟩ := vals1 r
 exact PySem.P.str_of_int hz ⟨.str _, H, I.tok _, ⟨_, rfl⟩, q⟩
end
end L2
namespace L2
open PySem PySem.Spec PyProof.Rows
structure ObjM (h : Heap) (x dx C : Addr) (mA : Str -> Option Value) : Prop where
 obj : h.get? x = some (PySem.W.instObj C dx)
 ns : h.Ns1 dx mA
 ne : dx ≠ x
section
variable {prog : Program} {w : World} {A : Around} {E : Value -> Shared -> Prop} {s : Shared} {K : PySem.W.Frag} {x dx C f : Addr} {mA : Str -> Option Value} {name : Str} {v : Value}
end
theorem RelO.some_of {v : V} {o : Option Value} (r : RelO (some v) o) : ∃ u, o = some u /\ RelV v u := by
 cases o with
 | none => exact (show False from r).elim
 | some u => exact ⟨u, rfl, r⟩
theorem handed_of {v : V} {u : Value} (r : RelV v u) : PySem.W.handedIn u = true := by
 cases v with
 | non => cases (show u = Value.none from r); rfl
 | bl b => cases (show u = Value.bool b from r); rfl
 | int i => obtain ⟨t, e⟩ := (show ∃ t, u = Value.int i t from r); cases e; rfl
 | str x => obtain ⟨t, e⟩ := (show ∃ t, u = Value.str x t from r); cases e; rfl
 | byt b => obtain ⟨t, e⟩ := (show ∃ t, u = Value.bytes b t from r); cases e; rfl
 | flt b => obtain ⟨t, e⟩ := (show ∃ t, u = Value.float b t from r); cases e; rfl
 | ref a => cases (show u = Value.ref a from r); rfl
 | ty n => cases (show u = Value.type n from r); rfl
section
variable {P : Program} {w : World} {H H' : Hp} {h h' : Heap} {a C dx : Addr} {fs fs' : List (Str × V)}
end
structure Cls (K : PySem.W.Frag) (C : Addr) : Prop where
 pg : PySem.W.plainGet K C Str.empty = true
 hd : PySem.W.hasDictIn K C = true
 po : PySem.W.plainOver K C = true
 sa : PySem.W.findIn K (.ref C) "__setattr__" = some (some (.builtin "object.__setattr__"))
structure Con (K : PySem.W.Frag) (C : Addr) (f : Str) (v : V) (u : Value) : Prop where
 at_ : PySem.W.findIn K (.ref C) f = some (some u)
 rel : RelV v u
 get : PySem.W.specialIn K u "__get__" = some none
 cp : PySem.W.copiedNames.contains f = false
structure Meth (K : PySem.W.Frag) (C : Addr) (m : Str) (f : Addr) : Prop where
 at_ : PySem.W.findIn K (.ref C) m = some (some (.ref f))
 fn : PySem.W.isFn K (.ref f) = true
 kp : PySem.W.keepIn K (.ref f) = true
section
variable {X : Cx} {pins : List (Addr × Obj)} {σ : St} {H : Hp} {s : Shared} {a C dx : Addr} {fs : List (Str × V)} {f : Str} {v : V} {A : Around} {E : Value -> Shared -> Prop}
theorem attr_of {prog : Program} {w : World} {env : Env} {e : Expr} {f : Str} {pos : Pos} {s : Shared} {Q : Value -> Shared -> Prop} (hb : attributeBase e f env (eval e env) = eval e env)
  (h : wpAny (model prog w) A (eval e env) (fun o s₁ => wpAny (model prog w) A (getAttr o f true) Q E s₁) E s) : wpAny (model prog w) A (eval (.Attribute e f pos) env) Q E s :=
 Attribute_any_ h (by rw [arm_eval_Attribute, hb])
end
section
variable {X : Cx} {o e value : Expr} {f : Str} {pos pos' tpos : Pos} {ta tv : TE}
end
section
variable {X : Cx} {pins : List (Addr × Obj)} {σ : St} {H : Hp} {s : Shared} {A : Around} {E : Value -> Shared -> Prop} {Q : Value -> Shared -> Prop} {c : Value} {b : Bool}
inductive TyOf (K : PySem.W.Frag) (H : Hp) : V -> Value -> Prop where
 | non : TyOf K H .non (.type "NoneType")
 | bl (x : Bool) : TyOf K H (.bl x) (.type "bool")
 | int (i : Int) : TyOf K H (.int i) (.type "int")
 | str (x : Str) : TyOf K H (.str x) (.type "str")
 | flt (x : UInt64) : TyOf K H (.flt x) (.type "float")
 | lst {a : Addr} {xs : List V} (e : H a = some (.lst xs)) : TyOf K H (.ref a) (.type "list")
 | frz {a : Addr} {o : Obj} {xs : List V} (e : H a = some (.frz o (.lst xs))) : TyOf K H (.ref a) (.type "list")
 | tup {a : Addr} {xs : List V} (e : H a = some (.tup xs)) : TyOf K H (.ref a) (.type "tuple")
 | dK {a : Addr} {kvs : List (Key × V)} (e : H a = some (.dK kvs)) : TyOf K H (.ref a) (.type "dict")
 | dT {a : Addr} {kvs : List (List Key × V)} (e : H a = some (.dT kvs)) : TyOf K H (.ref a) (.type "dict")
 | ins {a C dx : Addr} {fs : List (Str × V)} (e : H a = some (.ins C dx fs)) (cl : Cls K C) (ha : PySem.W.findIn K (.ref C) "__class__" = some (some (.builtin "object.__class__")))
   (hn : PySem.W.specialIn K (.builtin "object.__class__") "__get__" = some (some (.builtin "getset_descriptor.__get__"))) (htk : PySem.W.takesIn K (.builtin "object.__class__") = some true)
   (hm : PySem.W.mroIn K C (.type "object") = some true) : TyOf K H (.ref a) (.ref C)
end
end L2
namespace L2
open PySem PySem.Spec PyProof.Rows
structure Room (k : Nat) (A : Around) : Prop where
 hd : A.handled = none
 dp : A.depth + 3 * k + 5 < recursionLimit
 un : A.units + 16 * k + 200 < cLine
theorem Room.mono {j k : Nat} {A : Around} (r : Room k A) (h : j <= k) : Room j A := ⟨r.hd, by have := r.dp; omega, by have := r.un; omega⟩
theorem Room.deeper {k : Nat} {A : Around} (r : Room (k + 1) A) (env : Env) : Room k (A.deeper env) :=
 ⟨r.hd, by have := r.dp; show A.depth + 1 + 3 * k + 5 < _; omega, by have := r.un; show A.units + 3 + 16 * k + 200 < _; omega⟩
theorem make_depth {A : Around} {C : Addr} {us : List Value} {kw : List (Str × Value)} : (A.under (.builtin "type.__call__" ⟨.ref C :: us, kw⟩)).depth = A.depth + 1 := by
 first | rfl | simp [Around.under, Code.weight, Code.isCreation, Code.isGuard, Code.isCaller, Code.frames, Code.isFrame, guardIds]
theorem make_units {A : Around} {C : Addr} {us : List Value} {kw : List (Str × Value)} : (A.under (.builtin "type.__call__" ⟨.ref C :: us, kw⟩)).units = A.units + 1 := by
 first | rfl | simp [Around.under, Code.cUnits, Code.frames, Code.isFrame]
theorem Room.make {k : Nat} {A : Around} (r : Room (k + 1) A) (C : Addr) (us : List Value) (kw : List (Str × Value)) : Room k (A.under (.builtin "type.__call__" ⟨.ref C :: us, kw⟩)) :=
 ⟨r.hd, by have := r.dp; rw [make_depth]; omega, by have := r.un; rw [make_units]; omega⟩
theorem Room.depth {k : Nat} {A : Around} (r : Room k A) : A.depth < recursionLimit := by have := r.dp; omega
theorem Room.units {k : Nat} {A : Around} (r : Room k A) : A.units + 64 < cLine := by have := r.un; omega
noncomputable def tNil : TA := fun _ H Q => Q [] H
noncomputable def tCons (ta : TE) (tr : TA) : TA := fun σ H Q => ta σ H fun x H1 => tr σ H1 fun xs H2 => Q (x :: xs) H2
section
variable {X : Cx} {e : Expr} {es : List Expr} {te : TE} {t : TA} {pos : Pos}
theorem pa_nil : PA X [] tNil := fun _ _ _ _ H Q I h => Calls.spliced_nil ⟨[], H, I, .nil, h⟩
theorem pa_cons (ha : PE X e te) (hr : PA X es t) (hs : starEach (e :: es) X.env = (false, eval e X.env) :: starEach es X.env := by rfl) : PA X (e :: es) (tCons te t) := by
 intro pos pins s σ H Q I h
 rw [hs]
 show wpAny _ _ (spliced ((false, eval e X.env) :: backTo pos (starEach es X.env))) _ _ s
 refine Calls.spliced_cons (thn (ha pins s σ H _ I h) fun u s1 ⟨x, H1, I1, r1, q1⟩ => ?_)
 exact thn (hr pos pins s1 σ H1 _ I1 q1) fun us s2 ⟨xs, H2, I2, r2, q2⟩ => ⟨x :: xs, H2, I2, .cons r1 r2, q2⟩
noncomputable def tTup (t : TA) : TE := fun σ H Q => t σ H fun xs H1 => xs.length <= sizeLine /\ ∀ p, H1 p = none -> Q (.ref p) (upd H1 p (.tup xs))
noncomputable def tLst (t : TA) : TE := fun σ H Q => t σ H fun xs H1 => xs.length <= sizeLine /\ ∀ p, H1 p = none -> Q (.ref p) (upd H1 p (.lst xs))
theorem pe_tup {x1} (h : PA X es t) : PE X (.Tuple es x1 pos) (tTup t) := by
 intro pins s σ H Q I hq
 refine wpAny_Tuple_spliced (thn (h pos pins s σ H _ I hq) fun us s1 ⟨xs, H1, I1, r, z, q⟩ => ⟨by rw [<- r.length]; exact z, ?_⟩)
 have hf : H1 s1.heap.objs.size = none := I1.hok.fresh (Nat.le_refl _)
 refine ⟨.ref s1.heap.objs.size, upd H1 s1.heap.objs.size (.tup xs), I1.laid (t' := s1.toks) (fun b u e => Heap.get?_push_of_some _ e) (Nat.le_refl _) ?_, rfl, q _ hf⟩
 exact ⟨z, us, r, ⟨_, Heap.get?_push_size _ rfl, rfl, _, rfl⟩⟩
theorem pe_lst (h : PA X es t) : PE X (.List es pos) (tLst t) := by
 intro pins s σ H Q I hq
 refine wpAny_List_spliced (thn (h pos pins s σ H _ I hq) fun us s1 ⟨xs, H1, I1, r, z, q⟩ => ⟨by rw [<- r.length]; exact z, ?_⟩)
 have hf : H1 s1.heap.objs.size = none := I1.hok.fresh (Nat.le_refl _)
 refine ⟨.ref s1.heap.objs.size, upd H1 s1.heap.objs.size (.lst xs), I1.laid (t' := s1.toks) (fun b u e => Heap.get?_push_of_some _ e) (Nat.le_refl _) ?_, rfl, q _ hf⟩
 exact ⟨z, us, 0, r, Heap.get?_push_size _ rfl⟩
end
noncomputable abbrev Sp := List V -> Hp -> VK -> XK -> Prop
noncomputable abbrev CXT := List Env -> Hp -> Shared -> XK -> Value -> Shared -> Prop
structure Env0 (P : Program) (w : World) (K : PySem.W.Frag) (mg : Str -> Option Value) (base : Heap) (A : Around) (outer : List Env) (s : Shared) (H : Hp) : Prop where
 frames : A.frames = some outer
 mod : Mod K mg base
 bs : ∀ b o, base.get? b = some o -> s.heap.get? b = some o /\ H b = none
 bsz : base.objs.size <= s.heap.objs.size
 funs : s.heap.FunFrames base outer
 frf : ∀ b ∈ frs outer, H b = none
 hok : HOk P w H s.heap
 bare : AllBare s.gens
noncomputable def CE (outer : List Env) (P : Program) (w : World) (H : Hp) (s : Shared) (Q : VK) (u : Value) (s' : Shared) : Prop :=
 ∃ v H', s'.os = s.os /\ AllBare s'.gens /\ Un (frs outer) [] H H' s.heap s'.heap /\ HOk P w H' s'.heap /\ RelV v u /\ Q v H'
noncomputable def CR (CX : CXT) (outer : List Env) (P : Program) (w : World) (H : Hp) (s : Shared) (Q : VK) (E : XK) (r : Result) (s' : Shared) : Prop :=
 match r with
 | .ok (.ret u) => CE outer P w H s Q u s'
 | .ok _ => False
 | .error e => CX outer H s E e s'
structure FnOk (P : Program) (w : World) (K : PySem.W.Frag) (mg : Str -> Option Value) (base : Heap) (CX : CXT) (k : Nat) (f : Addr) (fd : FuncData) (ps : List Str) (sp : Sp) : Prop where
 len : ∀ vs H Q E, sp vs H Q E -> vs.length = ps.length
 run : ∀ (A : Around) (outer : List Env) (s : Shared) (H : Hp) (args : Args) (us : List Value) (vs : List V) (Q : VK) (E : XK), Room k A -> Env0 P w K mg base A outer s H -> BindsTo s fd args (ps.zip us) -> Vals vs us -> sp vs H Q E ->
  codeAny (model P w) A (.call (.ref f) args) (CR CX outer P w H s Q E) s
theorem FnOk.imp {P : Program} {w : World} {K : PySem.W.Frag} {mg : Str -> Option Value} {base : Heap} {CX : CXT} {k : Nat} {f : Addr} {fd : FuncData} {ps : List Str} {sp sp' : Sp} (F : FnOk P w K mg base CX k f fd ps sp)
  (h : ∀ vs H Q E, sp' vs H Q E -> sp vs H Q E) : FnOk P w K mg base CX k f fd ps sp' :=
 ⟨fun vs H Q E q => F.len vs H Q E (h _ _ _ _ q), fun A outer s H args us vs Q E hr he hb hv hs => F.run A outer s H args us vs Q E hr he hb hv (h _ _ _ _ hs)⟩
theorem Env0.make {P : Program} {w : World} {K : PySem.W.Frag} {mg : Str -> Option Value} {base : Heap} {A : Around} {outer : List Env} {s : Shared} {H : Hp} (e : Env0 P w K mg base A outer s H) (C : Addr) (us : List Value) (kw : List (Str × Value)) :
  Env0 P w K mg base (A.under (.builtin "type.__call__" ⟨.ref C :: us, kw⟩)) outer s H := ⟨by first | exact e.frames | (simpa [Around.under, Code.envs, Code.isFrame, pushEnvs] using e.frames), e.mod, e.bs, e.bsz, e.funs, e.frf, e.hok, e.bare⟩
section
variable {X : Cx} {pins : List (Addr × Obj)} {σ : St} {H : Hp} {s s' : Shared}
theorem Inv.env0 (I : Inv X pins σ H s) : Env0 X.prog X.w X.K X.mg X.base X.A X.stack s H :=
 ⟨I.ok.frames, I.ok.mod, I.bs, Nat.le_trans I.ok.bsz I.sz, I.stack, I.stkFree, I.hok, I.bare⟩
theorem Inv.after {Q : VK} {u : Value} (I : Inv X pins σ H s) (h : CE X.stack X.prog X.w H s Q u s') : EP X pins σ Q u s' := by
 obtain ⟨v, H', os, bare, un, hok, r, q⟩ := h
 obtain ⟨hh, g, d, t, os'⟩ := s'
 obtain rfl : os' = s.os := os
 exact ⟨v, H', I.call (h' := hh) (g' := g) (d' := d) (t' := t) (ch := []) un hok bare (fun b z => absurd z (by simp)), r, q⟩
end
noncomputable def tCall (sp : Sp) (dvs : List V) (E : XK) (t : TA) : TE := fun σ H Q => t σ H fun vs H1 => sp (vs ++ dvs) H1 Q E
noncomputable def Binds (K : PySem.W.Frag) (fd : FuncData) (ps : List Str) (ds : List Value) : Prop :=
 ∀ (s : Shared) (us : List Value), K.In s.heap -> (us ++ ds).length = ps.length -> BindsTo s fd ⟨us, []⟩ (ps.zip (us ++ ds))
theorem Binds.all {K : PySem.W.Frag} {fd : FuncData} {ps : List Str} (h : ∀ us : List Value, us.length = ps.length -> bindArgs fd ⟨us, []⟩ = pure (ps.zip us)) : Binds K fd ps [] := fun s us _ hl => by
 rw [List.append_nil] at hl ⊢
 exact .of_eq (h us hl)
noncomputable def Passes (CX : CXT) (X : Cx) (E : XK) : Prop := ∀ (pins : List (Addr × Obj)) (σ : St) (H : Hp) (s : Shared) (e : Value) (s' : Shared), Inv X pins σ H s -> CX X.stack H s E e s' -> X.xe e s'
section
variable {X : Cx} {CX : CXT} {k : Nat} {f C : Addr} {fd : FuncData} {ps : List Str} {sp : Sp} {dvs : List V} {ds : List Value} {E : XK} {x m : Str} {p pos apos : Pos} {e o : Expr} {es : List Expr} {ta : TE} {t : TA}
theorem run_fn {pins : List (Addr × Obj)} {σ : St} {H : Hp} {s : Shared} {Q : VK} {us : List Value} {vs : List V} (F : FnOk X.prog X.w X.K X.mg X.base CX k f fd ps sp) (hr : Room k X.A) (hb : Binds X.K fd ps ds) (hd : Vals dvs ds) (hx : Passes CX X E)
  (I : Inv X pins σ H s) (r : Vals vs us) (h : sp (vs ++ dvs) H Q E) : wpAny (model X.prog X.w) X.A (call (.ref f) us) (EP X pins σ Q) X.xe s := by
 have r2 : Vals (vs ++ dvs) (us ++ ds) := r.append hd
 have hl : (us ++ ds).length = ps.length := by rw [<- r2.length]; exact F.len _ _ _ _ h
 refine wpAny_call (codeAny_mono (F.run X.A X.stack s H ⟨us, []⟩ (us ++ ds) (vs ++ dvs) Q E hr I.env0 (hb s us I.kIn hl) r2 h) fun r s' hq => ?_)
 cases r with
 | error e => exact hx pins σ H s e s' I hq
 | ok fl =>
  cases fl with
  | ret u => exact I.after hq
  | next => exact False.elim hq
  | brk => exact False.elim hq
  | cont => exact False.elim hq
theorem pe_call (F : FnOk X.prog X.w X.K X.mg X.base CX k f fd ps sp) (hr : Room k X.A) (hg : Gl X x) (hm : X.mg x = some (.ref f)) (hk : PySem.W.keepIn X.K (.ref f) = true) (hb : Binds X.K fd ps ds) (hd : Vals dvs ds) (hx : Passes CX X E)
  (ha : PA X (e :: es) t) (hdb : (x == ("__debug__" : Str)) = false := by decide) (he : starEach (e :: es) X.env = (false, eval e X.env) :: starEach es X.env := by rfl) (hpl : (backTo pos (starEach es X.env)).any (·.1) = false := by rfl) :
  PE X (.Call (.Name x p) (e :: es) [] pos) (tCall sp dvs E t) := by
 intro pins s σ H Q I h
 refine wpAny_Call_Name_kw (ld_glob I hg hm ?_ hdb)
 refine PySem.W.callWith_K (h₀ := X.base) I.ok.mod.kin hk (thn (ha pos pins s σ H _ I h) fun us s1 ⟨vs, H1, I1, r, q⟩ => ⟨I1.kIn, ?_⟩) he hpl
 exact run_fn F hr hb hd hx I1 r q
structure Mk (K : PySem.W.Frag) (C f : Addr) : Prop where
 makes : PySem.W.makesIn K C = true
 init : PySem.W.findIn K (.ref C) "__init__" = some (some (.ref f))
 fn : PySem.W.isFn K (.ref f) = true
 kp : PySem.W.keepIn K (.ref C) = true
end
section
variable {X : Cx} {CX : CXT} {k : Nat} {f C : Addr} {fd : FuncData} {ps ks : List Str} {sp : Sp} {E : XK} {x m : Str} {p pos apos kpos : Pos} {e o : Expr} {es : List Expr} {kws : List Keyword} {te ta : TE} {t tk : TA} {nm : Option Str}
structure KBinds (K : PySem.W.Frag) (fd : FuncData) (ps ks : List Str) (g : List Value -> List Value -> List Value) (gV : List V -> List V -> List V) : Prop where
 to : ∀ (s : Shared) (us ws : List Value), K.In s.heap -> (g us ws).length = ps.length -> BindsTo s fd ⟨us, ks.zip ws⟩ (ps.zip (g us ws))
 rel : ∀ {vs : List V} {us : List Value} {zs : List V} {ws : List Value}, Vals vs us -> Vals zs ws -> Vals (gV vs zs) (g us ws)
variable {g : List Value -> List Value -> List Value} {gV : List V -> List V -> List V}
end
structure FnScope (N P : List Str) (sc : Scope) : Prop where
 kind : sc.kind = .function
 co : sc.isCoroutine = false
 gen : sc.isGenerator = false
 nd : N.Nodup
 pre : N.take P.length = P
 par : ∀ x ∈ P, sc.names.lookup x = some .local \/ sc.names.lookup x = some .cell
 nofree : ∀ y ∈ sc.names, y.2 ≠ .free
theorem bindL_out {kindOf : Str -> Option NameKind} {x : Str} : ∀ {binds : List (Str × Value)} {m : Str -> Option Value}, (∀ v, (x, v) ∉ binds) -> bindL kindOf binds m x = m x
 | [], _, _ => rfl
 | (n, v) :: r, m, h => by
  unfold bindL
  rw [bindL_out fun w hw => h w (List.mem_cons_of_mem _ hw)]
  split
  . have : x ≠ n := by rintro rfl; exact h v List.mem_cons_self
    simp [this]
  . rfl
theorem bindC_out {kindOf : Str -> Option NameKind} {x : Str} : ∀ {binds : List (Str × Value)} {m : Str -> Option Value}, (∀ v, (x, v) ∉ binds) -> bindC kindOf binds m x = m x
 | [], _, _ => rfl
 | (n, v) :: r, m, h => by
  unfold bindC
  rw [bindC_out fun w hw => h w (List.mem_cons_of_mem _ hw)]
  split
  . rfl
  . have : x ≠ n := by rintro rfl; exact h v List.mem_cons_self
    simp [this]
theorem bindL_get {kindOf : Str -> Option NameKind} {x : Str} {v : Value} : ∀ {P : List Str} {vs : List Value} {i : Nat} {m : Str -> Option Value}, P.Nodup -> P[i]? = some x -> vs[i]? = some v -> kindOf x = some .local ->
  bindL kindOf (P.zip vs) m x = some v
 | [], _, _, _, _, h, _, _ => by simp at h
 | _ :: _, [], _, _, _, _, h, _ => by simp at h
 | p :: P, w :: vs, 0, m, nd, h1, h2, hk => by
  simp at h1 h2; subst h1; subst h2
  show bindL kindOf ((p, w) :: P.zip vs) m p = _
  unfold bindL
  rw [bindL_out fun v hv => (List.nodup_cons.mp nd).1 (List.of_mem_zip hv).1, if_pos hk]
  simp
 | p :: P, w :: vs, i + 1, m, nd, h1, h2, hk => by
  show bindL kindOf ((p, w) :: P.zip vs) m x = _
  unfold bindL
  exact bindL_get (i := i) (List.nodup_cons.mp nd).2 (by simpa using h1) (by simpa using h2) hk
theorem bindC_get {kindOf : Str -> Option NameKind} {x : Str} {v : Value} : ∀ {P : List Str} {vs : List Value} {i : Nat} {m : Str -> Option Value}, P.Nodup -> P[i]? = some x -> vs[i]? = some v -> kindOf x ≠ some .local ->
  bindC kindOf (P.zip vs) m x = some v
 | [], _, _, _, _, h, _, _ => by simp at h
 | _ :: _, [], _, _, _, _, h, _ => by simp at h
 | p :: P, w :: vs, 0, m, nd, h1, h2, hk => by
  simp at h1 h2; subst h1; subst h2
  show bindC kindOf ((p, w) :: P.zip vs) m p = _
  unfold bindC
  rw [bindC_out fun v hv => (List.nodup_cons.mp nd).1 (List.of_mem_zip hv).1, if_neg hk]
  simp
 | p :: P, w :: vs, i + 1, m, nd, h1, h2, hk => by
  show bindC kindOf ((p, w) :: P.zip vs) m x = _
  unfold bindC
  exact bindC_get (i := i) (List.nodup_cons.mp nd).2 (by simpa using h1) (by simpa using h2) hk
noncomputable def start (N : List Str) (vs : List V) : St := vs.map some ++ List.replicate (N.length - vs.length) none
noncomputable def cxOf (CX : CXT) (P : Program) (w : World) (K : PySem.W.Frag) (mg : Str -> Option Value) (base : Heap) (N : List Str) (qual : Str) (scope : Scope) (f : Addr) (cd : Value) (A : Around) (outer : List Env) (s : Shared) (H : Hp) (E : XK) : Cx where
 prog := P
 w := w
 K := K
 mg := mg
 base := base
 A := A.deeper (envOfC qual scope s.heap.objs.size f cd)
 N := N
 s₀ := s
 H₀ := H
 env := envOfC qual scope s.heap.objs.size f cd
 outer := outer
 stack := envOfC qual scope s.heap.objs.size f cd :: outer
 ex := []
 calm := true
 fn := fun _ => true
 pn := []
 xe := fun e s' => wpAny (model P w) (A.deeper (envOfC qual scope s.heap.objs.size f cd)) (leaving (envOfC qual scope s.heap.objs.size f cd) e) (fun _ s'' => CX outer H s E e s'') (fun e' s'' => CX outer H s E e' s'') s'
theorem cell_has {sc : Scope} {n : Nat} {x : Str} (h : sc.names.lookup x = some .cell) : ∃ c, (cellsFrom n sc.names []).lookup x = some c := by
 have q := PySem.W.cellsFrom_some sc.names n [] (.inl h)
 exact Option.isSome_iff_exists.mp q
theorem inv_start {CX : CXT} {P : Program} {w : World} {K : PySem.W.Frag} {mg : Str -> Option Value} {base : Heap} {N ps : List Str} {qual : Str} {scope : Scope} {f : Addr} {cd : Value} {A : Around} {outer : List Env} {s s1 : Shared} {H : Hp} {E : XK} {us : List Value} {vs : List V}
  (S : FnScope N ps scope) (hd : A.handled = none) (e0 : Env0 P w K mg base A outer s H) (hl : vs.length = ps.length) (r : Vals vs us)
  (x : InCallC s s.heap.objs.size (bindL (envOfC qual scope s.heap.objs.size f cd).kindOf (ps.zip us) fun _ => none) (cellsFrom (s.heap.objs.size + 1) scope.names []) (bindC (envOfC qual scope s.heap.objs.size f cd).kindOf (ps.zip us) fun _ => none) s1) :
  Inv (cxOf CX P w K mg base N qual scope f cd A outer s H E) [] (start N vs) H s1 := by
 have hpl : ps.length <= N.length := by have := congrArg List.length S.pre; rw [List.length_take] at this; omega
 obtain ⟨h1, tk, rfl, hk⟩ := x.done
 have noA : ∀ b : Addr, b ∉ (cxOf CX P w K mg base N qual scope f cd A outer s H E).ex := fun b z => absurd (show b ∈ ([] : List Addr) from z) (by simp)
 refine ⟨⟨e0.mod, S.kind, rfl, rfl, Nat.le_refl _, fun y z c h1 h2 => ?_, fun y hy => ?_, fun y c _ h => ?_, fun _ => hd, Around.frames_deeper e0.frames, .inr ⟨rfl, rfl⟩, fun b z => absurd z (noA b), e0.bs, e0.bsz, fun b _ _ => noA b, fun b z => absurd z (noA b), e0.funs, e0.frf⟩,
  rfl, e0.bare, Un.kept hk, ⟨_, x.toInCall.ns, fun i y v h1 h2 h3 => ?_⟩, fun y c h => ⟨_, x.cell y c h⟩, e0.hok.fresh (Nat.le_refl _), fun y c h => ?_, fun p hp => absurd (show p ∈ ([] : List (Addr × Obj)) from hp) (by simp), e0.hok.kept hk, ?_⟩
 . exact name_of_addr x.apart (PySem.mem_of_lookup h1) (PySem.mem_of_lookup h2)
 . have hy : scope.names.lookup y = some .cell \/ scope.names.lookup y = some .free := hy
   rcases hy with hy | hy
   . exact cell_has hy
   . exact absurd rfl (S.nofree _ (PySem.mem_of_lookup hy))
 . exact Nat.le_of_lt (x.above y c (PySem.mem_of_lookup h))
 . have hi : i < vs.length := by
     unfold start at h2
     by_cases hi : i < vs.length
     . exact hi
     . rw [List.getElem?_append_right (by simpa using hi)] at h2
       rw [List.getElem?_replicate] at h2
       split at h2 <;> cases h2
   have ha : vs[i]? = some v := by
    unfold start at h2
    rw [List.getElem?_append_left (by simpa using hi), List.getElem?_map] at h2
    cases e : vs[i]? with
    | none => rw [e] at h2; cases h2
    | some a => rw [e] at h2; cases h2; rfl
   obtain ⟨u, hu, rv⟩ := r.get ha
   have hp : ps[i]? = some y := by
    rw [<- S.pre, List.getElem?_take_of_lt (by omega)]; exact h1
   have ndP : ps.Nodup := by rw [<- S.pre]; exact S.nd.sublist (List.take_sublist _ _)
   refine ⟨u, rv, ?_⟩
   rcases S.par y (List.mem_of_getElem? hp) with k | k
   . exact .inl ⟨k, bindL_get ndP hp hu k⟩
   . obtain ⟨c, e⟩ := cell_has (n := s.heap.objs.size + 1) k
     refine .inr ⟨.inl k, c, e, ?_⟩
     have q := x.cell y c e
     rw [bindC_get ndP hp hu (by show scope.names.lookup y ≠ _; rw [k]; decide)] at q
     exact q
 . exact e0.hok.fresh (Nat.le_of_lt (x.above y c (PySem.mem_of_lookup h)))
 . unfold start
   show _ = N.length
   rw [List.length_append, List.length_map, List.length_replicate]
   omega
theorem fn_of {CX : CXT} {P : Program} {w : World} {K : PySem.W.Frag} {mg : Str -> Option Value} {base : Heap} {k : Nat} {f : Addr} {name qual : Str} {params : Arguments} {body : List Stmt} {scope : Scope} {dV kV doc pm cdv ct oc : Value} {an od : Option Addr}
  {osl : Array (Option Value)} {N ps : List Str} {sp : Sp} (lk : K.lookup f = some ⟨oc, od, .func (PySem.W.fnOf name qual params body scope dV kV doc pm an cdv ct), osl⟩) (hcd : PySem.W.codeIn K cdv qual = true) (S : FnScope N ps scope)
  (len : ∀ vs H Q E, sp vs H Q E -> vs.length = ps.length)
  (hbody : ∀ (A : Around) (outer : List Env) (s : Shared) (H : Hp) (vs : List V) (Q : VK) (E : XK), Room k (A.deeper (envOfC qual scope s.heap.objs.size f cdv)) -> sp vs H Q E ->
   ∃ t, PSs (cxOf CX P w K mg base N qual scope f cdv A outer s H E) body t /\ t { nx := fun _ H' => Q .non H', rt := Q } (start N vs) H) :
  FnOk P w K mg base CX (k + 1) f (PySem.W.fnOf name qual params body scope dV kV doc pm an cdv ct) ps sp := by
 refine ⟨len, fun A outer s H args us vs Q E hr e0 hb r hsp => ?_⟩
 have hl := len _ _ _ _ hsp
 have KX : K.In s.heap := e0.mod.kin.keeps fun b o e => (e0.bs b o e).1
 have lim : s.heap.NoLimit := e0.mod.nolimit.keeps fun b o e => (e0.bs b o e).1
 have hkind : ∀ y ∈ ps.zip us, scope.names.lookup y.1 = some .local \/ (scope.names.lookup y.1 = some .cell /\ ((cellsFrom (s.heap.objs.size + 1) scope.names []).lookup y.1).isSome = true) := fun ⟨n, v⟩ hy => by
  rcases S.par n (List.of_mem_zip hy).1 with q | q
  . exact .inl q
  . exact .inr ⟨q, PySem.W.cellsFrom_some _ _ _ (.inl q)⟩
 refine codeAny_call_function hr.depth (KX _ _ lk) rfl S.co S.gen rfl (PySem.W.codeRec_of KX hcd) (hb _ _ _ _ ?_)
 refine wpAny_newFunctionEnv_cells S.kind hkind fun env he s1 x => ?_
 subst he
 refine ⟨lim.keeps x.toInCall.keep, codeAny_func ?_⟩
 obtain ⟨t, ht, hq⟩ := hbody A outer s H vs Q E (hr.deeper _) hsp
 have I : Inv (cxOf CX P w K mg base N qual scope f cdv A outer s H E) [] (start N vs) H s1 := inv_start S hr.hd e0 hl r x
 refine wpAny_mono (ht [] s1 (start N vs) H _ I hq) (fun fl s' hs => ?_) fun e s' hs => hs
 have fin : ∀ {σ' : St} {H' : Hp} {v : V} {u : Value}, Inv (cxOf CX P w K mg base N qual scope f cdv A outer s H E) [] σ' H' s' -> RelV v u -> Q v H' -> CE outer P w H s Q u s' :=
  fun {σ' H' v u} J rv q => ⟨v, H', J.os, J.bare, J.base, J.hok, rv, q⟩
 cases fl with
 | ret u =>
  obtain ⟨v, σ', H', J, rv, q⟩ := hs
  exact fin J rv q
 | next =>
  obtain ⟨σ', H', J, q⟩ := hs
  exact fin (v := V.non) (u := Value.none) J rfl q
 | brk =>
  obtain ⟨_, _, _, q⟩ := hs
  exact False.elim q
 | cont =>
  obtain ⟨_, _, _, q⟩ := hs
  exact False.elim q
end L2
namespace L2
open PySem PySem.Spec PyProof.Rows
section
variable {X : Cx} {x : Str} {p pos : Pos} {e : Expr} {es : List Expr} {t : TA} {id T : String} {r : List V -> Hp -> VK -> Prop}
noncomputable def tCB (r : List V -> Hp -> VK -> Prop) (t : TA) : TE := fun σ H Q => t σ H fun vs H1 => r vs H1 Q
theorem pe_callB (hc : CallR X (.builtin id) r) (hg : Gl X x) (hm : X.mg x = none) (hv : bootBuiltins x = some (.builtin id)) (ha : PA X (e :: es) t) (hn : x ≠ "__name__" := by decide) (hdb : (x == ("__debug__" : Str)) = false := by decide)
  (he : starEach (e :: es) X.env = (false, eval e X.env) :: starEach es X.env := by rfl) (hpl : (backTo pos (starEach es X.env)).any (·.1) = false := by rfl) : PE X (.Call (.Name x p) (e :: es) [] pos) (tCB r t) := by
 intro pins s σ H Q I h
 refine wpAny_Call_Name_kw (ld_blt I hg hm hv ?_ hn hdb)
 exact PyProof.Rows.callWith_builtin1 (thn (ha pos pins s σ H _ I h) fun us s1 ⟨vs, H1, I1, r1, q1⟩ => hc pins s1 σ H1 vs us Q I1 r1 q1) he hpl
theorem pe_callTy (hc : CallR X (.type T) r) (hg : Gl X x) (hm : X.mg x = none) (hv : bootBuiltins x = some (.type T)) (ha : PA X (e :: es) t) (hn : x ≠ "__name__" := by decide) (hdb : (x == ("__debug__" : Str)) = false := by decide)
  (he : starEach (e :: es) X.env = (false, eval e X.env) :: starEach es X.env := by rfl) (hpl : (backTo pos (starEach es X.env)).any (·.1) = false := by rfl) : PE X (.Call (.Name x p) (e :: es) [] pos) (tCB r t) := by
 intro pins s σ H Q I h
 refine wpAny_Call_Name_kw (ld_blt I hg hm hv ?_ hn hdb)
 exact PyProof.Rows.callWith_type1 (thn (ha pos pins s σ H _ I h) fun us s1 ⟨vs, H1, I1, r1, q1⟩ => hc pins s1 σ H1 vs us Q I1 r1 q1) he hpl
end
end L2
namespace HT
open PySem PyProof.Rows
section
open PySem.SeqAt
open PySem.AutoSeq1 (wpAny_loadPart')
open PySem.MeetsSeq PySem.MeetsSeq2 PySem.MeetsSeq3
end
section
variable {prog : Program} {w : World} {A : Around} {E : Value -> Shared -> Prop} {s : Shared}
theorem cat_tup {t b : Addr} {vs ws : List Value} {Q : Value -> Shared -> Prop} (ht : IsTup s.heap t vs.toArray) (hb : IsTup s.heap b ws.toArray) (hv : vs ≠ [])
  (h1 : ws = [] -> Q (.ref t) s) (h2 : ws ≠ [] -> Q (.ref s.heap.objs.size) { s with heap := s.heap.push { cls := .type "tuple", data := .seq (vs ++ ws).toArray } })
  (hsz : vs.length + ws.length <= sizeLine) : wpAny (model prog w) A (binaryOp .Add (.ref t) (.ref b)) Q E s := by
 obtain ⟨⟨cls, dd, data, sl⟩, ho, hc, n, hd⟩ := id ht
 obtain ⟨⟨cls2, dd2, data2, sl2⟩, ho2, hc2, n2, hd2⟩ := id hb
 simp only at hc hd hc2 hd2
 subst hc hd hc2 hd2
 have e : vs.toArray ++ ws.toArray = (vs ++ ws).toArray := by simp
 by_cases hw : ws = []
 . exact concat_meets ⟨_, ho, rfl⟩ ⟨_, ho2, rfl⟩ noFill_tuple_add seq_tuple_add PySem.F.slot_tuple_add PySem.F.entry_tuple_add (PySem.F.args_tuple_add_2 _ _)
     (tuple_addW1 t b vs.toArray ws.toArray n n2 dd dd2 sl sl2 (by simpa using hv) (by simp [hw])) ⟨ho, ho2, h1 hw⟩
 . refine concat_meets ⟨_, ho, rfl⟩ ⟨_, ho2, rfl⟩ noFill_tuple_add seq_tuple_add PySem.F.slot_tuple_add PySem.F.entry_tuple_add (PySem.F.args_tuple_add_2 _ _)
     (tuple_addW2 t b vs.toArray ws.toArray n n2 dd dd2 sl sl2 (by simpa using hv) (by simpa using hw) (by rw [List.size_toArray, List.size_toArray]; exact hsz)) ⟨ho, ho2, ?_⟩
   rw [e]
   exact h2 hw
noncomputable def sIx (n d : Nat) : Option Int -> Nat
 | none => d
 | some v => if v < 0 then (v + (n : Int)).toNat else min v.toNat n
theorem sIx_le (n d : Nat) (hd : d <= n) (o : Option Int) : sIx n d o <= n := by
 cases o with
 | none => exact hd
 | some v =>
  show (if v < 0 then (v + (n : Int)).toNat else min v.toNat n) <= n
  by_cases hv : v < 0
  . rw [if_pos hv]; omega
  . rw [if_neg hv]; exact Nat.min_le_right _ _
theorem clip_eq (v : Int) (n d : Nat) : (if v < 0 then max (v + (n : Int)) 0 else min v (n : Int)) = ((sIx n d (some v) : Nat) : Int) := by
 show (if v < 0 then max (v + (n : Int)) 0 else min v (n : Int)) = (((if v < 0 then (v + (n : Int)).toNat else min v.toNat n) : Nat) : Int)
 by_cases hv : v < 0
 . simp only [if_pos hv]; omega
 . simp only [if_neg hv]; omega
theorem adjust_gen (lo hi : Option Int) (n : Nat) : Builtin.Slice.sliceAdjust lo hi 1 (n : Int) = (((sIx n 0 lo : Nat) : Int), ((sIx n n hi : Nat) : Int)) := by
 have h1 : ¬ ((1 : Int) < 0) := by omega
 unfold Builtin.Slice.sliceAdjust
 simp only [h1, if_false]
 refine Prod.ext ?_ ?_
 . cases lo with
   | none => rfl
   | some v => exact clip_eq v n 0
 . cases hi with
   | none => rfl
   | some v => exact clip_eq v n n
theorem places_gen (i j : Nat) : Builtin.Slice.slicePlaces (i : Int) (j : Int) 1 = j - i := by
 unfold Builtin.Slice.slicePlaces
 have h1 : (1 : Int) > 0 := by omega
 simp only [h1, if_true, Int.ediv_one]
 split <;> omega
theorem slicePart_ {v : Value} {o : Option Int} {Q : Option Int -> Shared -> Prop} (p : IsPart v o) (h : Q o s) : wpAny (model prog w) A (Builtin.Slice.slicePartIndex v) Q E s := by
 cases p with
 | none => exact slicePart_none h
 | int i t => exact slicePart_int h
theorem sliceApplied_gen {sl : Addr} {vl vu : Value} {lo hi : Option Int} {n : Nat} {Q : Int × Int × Nat -> Shared -> Prop} (hs : s.heap.IsSliceOf sl vl vu .none) (pl : IsPart vl lo) (pu : IsPart vu hi)
  (h : Q (((sIx n 0 lo : Nat) : Int), 1, sIx n n hi - sIx n 0 lo) s) : wpAny (model prog w) A (Builtin.Slice.sliceApplied (.ref sl) (pure (n : Int))) Q E s := by
 obtain ⟨os, hos, hcs, hds⟩ := id hs
 unfold Builtin.Slice.sliceApplied Builtin.Slice.sliceFields
 refine wpAny_bind (wpAny_bind (wpAny_field hos hds (x := vl) rfl (wpAny_bind (wpAny_field hos hds (x := vu) rfl (wpAny_bind (wpAny_field hos hds (x := .none) rfl (wpAny_pure ?_)))))))
 refine wpAny_bind (slicePart_none ?_)
 show wpAny _ _ (if ((1 : Int) == 0) = true then _ else _) _ _ s
 rw [if_neg (by decide)]
 refine wpAny_bind (slicePart_ pl (wpAny_bind (slicePart_ pu (wpAny_bind (wpAny_pure ?_)))))
 show wpAny _ _ (match Builtin.Slice.sliceAdjust lo hi 1 (n : Int) with | (lo, hi) => pure (lo, (1 : Int), Builtin.Slice.slicePlaces lo hi 1)) _ _ s
 rw [adjust_gen lo hi n]
 show wpAny _ _ (pure (((sIx n 0 lo : Nat) : Int), (1 : Int), Builtin.Slice.slicePlaces ((sIx n 0 lo : Nat) : Int) ((sIx n n hi : Nat) : Int) 1)) _ _ s
 rw [places_gen]
 exact wpAny_pure h
theorem pick_gen (xs : Array Value) (i k : Nat) : ((List.range k).filterMap fun (m : Nat) => xs[((i : Int) + (m : Int) * 1).toNat]?).toArray = ((xs.toList.drop i).take k).toArray := by
 have e : (fun (m : Nat) => xs[((i : Int) + (m : Int) * 1).toNat]?) = fun m => xs[i + m]? := by
  funext m
  have : ((i : Int) + (m : Int) * 1).toNat = i + m := by omega
  rw [this]
 rw [e]
 have := pick_run xs i k
 rw [List.filterMap_map] at this
 have e2 : ((fun x => xs[x]?) ∘ fun x => i + x) = fun m => xs[i + m]? := rfl
 rw [e2] at this
 rw [this]
theorem getItem_tuple_cut {t sl : Addr} {items : Array Value} {vl vu : Value} {lo hi : Option Int} {Q : Value -> Shared -> Prop} (ht : IsTup s.heap t items) (hs : s.heap.IsSliceOf sl vl vu .none) (pl : IsPart vl lo) (pu : IsPart vu hi)
  (hw : ¬ (sIx items.size 0 lo = 0 /\ sIx items.size items.size hi = items.size))
  (h : Q (.ref s.heap.objs.size) { s with heap := s.heap.push { cls := .type "tuple", data := .seq ((items.toList.drop (sIx items.size 0 lo)).take (sIx items.size items.size hi - sIx items.size 0 lo)).toArray } })
  (hsz : items.size <= sizeLine) : wpAny (model prog w) A (getItem (.ref t) (.ref sl)) Q E s := by
 have htake : sizeOk (.seq ((items.toList.drop (sIx items.size 0 lo)).take (sIx items.size items.size hi - sIx items.size 0 lo)).toArray) := by
  show ((items.toList.drop (sIx items.size 0 lo)).take (sIx items.size items.size hi - sIx items.size 0 lo)).toArray.size <= sizeLine
  rw [List.size_toArray, List.length_take, List.length_drop, Array.length_toList]
  omega
 have hj : sIx items.size items.size hi <= items.size := sIx_le _ _ (Nat.le_refl _) hi
 obtain ⟨os, hos, hcs, hds⟩ := id hs
 have hTs : s.TypeIs (.ref sl) "slice" := ⟨os, hos, hcs⟩
 unfold getItem
 try with_reducible refine wpAny_holding ?_
 first | refine wpAny_bind (wpAny_pure ?_) | skip
 refine wpAny_bind (wpAny_sequenceKey ht.typeIs (by decide) ?_)
 refine wpAny_bind (wpAny_callSpecial?_slot (name := Str.ofString "__getitem__") ht.typeIs PyProof.Rows.slot_tuple_getitem
  (wpAny_call_entry PyProof.Rows.slot_tuple_getitem ht.typeIs entry_tuple_getitem ?_ (args_tuple_getitem _ _)))
 show wpAny _ _ (Builtin.Tuple.tupleItemsOf (.ref t) >>= _) _ _ s
 refine wpAny_bind (tupleItemsOf_ ht ?_)
 refine wpAny_bind (wpAny_typeOf hTs ?_)
 rw [if_pos (by decide)]
 refine wpAny_bind (sliceApplied_gen hs pl pu ?_)
 have hno : ¬ ((((sIx items.size 0 lo : Nat) : Int) == 0 && (1 : Int) == 1 && (sIx items.size items.size hi - sIx items.size 0 lo) == items.size) = true) := by
  intro q
  rw [Bool.and_eq_true, Bool.and_eq_true] at q
  have q1 : ((sIx items.size 0 lo : Nat) : Int) = 0 := eq_of_beq q.1.1
  have q2 : sIx items.size items.size hi - sIx items.size 0 lo = items.size := eq_of_beq q.2
  exact hw ⟨by omega, by omega⟩
 show wpAny _ _ (if (((sIx items.size 0 lo : Nat) : Int) == 0 && (1 : Int) == 1 && (sIx items.size items.size hi - sIx items.size 0 lo) == items.size) = true then _ else _) _ _ s
 rw [if_neg hno, pick_gen]
 first
  | exact wpAny_bind (m := Builtin.Tuple.tupleExact _) (wpAny_newObj_type (wpAny_pure ⟨_, rfl, wpAny_pure h⟩) htake)
  | exact wpAny_bind (m := Builtin.Tuple.tupleExact _) (wpAny_newObj_type (wpAny_bind (wpAny_pure (wpAny_pure ⟨_, rfl, wpAny_pure h⟩))) htake)
  | exact wpAny_bind (wpAny_bind (m := Builtin.Tuple.tupleExact _) (wpAny_newObj_type (wpAny_pure (wpAny_pure ⟨_, rfl, wpAny_pure h⟩)) htake))
  | exact wpAny_bind (wpAny_bind (m := Builtin.Tuple.tupleExact _) (wpAny_newObj_type (wpAny_pure ⟨_, rfl, wpAny_pure h⟩) htake))
end
end HT
namespace L2
open PySem PySem.Spec PyProof.Rows
noncomputable abbrev TO := St -> Hp -> (Option Int -> Hp -> Prop) -> Prop
noncomputable def PO (X : Cx) (e : Option Expr) (t : TO) : Prop :=
 ∀ (pins : List (Addr × Obj)) (s : Shared) (σ : St) (H : Hp) (Q : Option Int -> Hp -> Prop), Inv X pins σ H s -> t σ H Q ->
  wpAny (model X.prog X.w) X.A (evalPart e X.env) (fun u s' => ∃ o H', Inv X pins σ H' s' /\ IsPart u o /\ Q o H') X.xe s
noncomputable def tNoPart : TO := fun _ H Q => Q none H
noncomputable def tPart (t : TE) : TO := fun σ H Q => t σ H fun x H1 => ∃ i, x = .int i /\ Q (some i) H1
section
variable {X : Cx} {e : Expr} {te : TE} {lo hi : Option Expr} {tl th : TO} {pos p2 : Pos}
theorem po_none : PO X none tNoPart := by
 intro pins s σ H Q I h
 rw [evalPart_none]
 exact wpAny_pure ⟨none, H, I, .none, h⟩
theorem po_some (h : PE X e te) : PO X (some e) (tPart te) := by
 intro pins s σ H Q I hw
 rw [evalPart_some]
 refine thn (h pins s σ H _ I hw) fun u s1 ⟨x, H1, I1, r1, q1⟩ => ?_
 obtain ⟨i, rfl, q⟩ := q1
 obtain ⟨t, rfl⟩ := r1
 exact ⟨some i, H1, I1, .int i t, q⟩
noncomputable def SlR (X : Cx) (r : V -> Option Int -> Option Int -> Hp -> VK -> Prop) : Prop :=
 ∀ (pins : List (Addr × Obj)) (s : Shared) (σ : St) (H : Hp) (x : V) (v vl vu : Value) (lo hi : Option Int) (sl : Addr) (Q : VK), Inv X pins σ H s -> RelV x v -> s.heap.IsSliceOf sl vl vu .none -> IsPart vl lo -> IsPart vu hi -> r x lo hi H Q ->
  ∃ T id, typeLookup (.type T) "__getitem__" = pure (some (.builtin id)) /\ s.TypeIs v T /\ wpAny (model X.prog X.w) X.A (getItem v (.ref sl)) (EP X pins σ Q) X.xe s
theorem SlR.or {r r' : V -> Option Int -> Option Int -> Hp -> VK -> Prop} (h : SlR X r) (h' : SlR X r') : SlR X (fun x lo hi H Q => r x lo hi H Q \/ r' x lo hi H Q) := by
 intro pins s σ H x v vl vu lo hi sl Q I rx hs pl pu q
 rcases q with q | q
 . exact h pins s σ H x v vl vu lo hi sl Q I rx hs pl pu q
 . exact h' pins s σ H x v vl vu lo hi sl Q I rx hs pl pu q
noncomputable def tSl (r : V -> Option Int -> Option Int -> Hp -> VK -> Prop) (te : TE) (tl th : TO) : TE := fun σ H Q => te σ H fun x H1 => tl σ H1 fun l H2 => th σ H2 fun u H3 => r x l u H3 Q
theorem pe_slice {r : V -> Option Int -> Option Int -> Hp -> VK -> Prop} (hr : SlR X r) (he : PE X e te) (hl : PO X lo tl) (hu : PO X hi th) : PE X (.Subscript e (.Slice lo hi none p2) pos) (tSl r te tl th) := by
 intro pins s σ H Q I h
 refine Subscript_ (thn (he pins s σ H _ I h) fun v s1 ⟨x, H1, I1, r1, q1⟩ => ?_)
 refine wpAny_Slice (thn (hl pins s1 σ H1 _ I1 q1) fun vl s2 ⟨l, H2, I2, pl, q2⟩ => thn (hu pins s2 σ H2 _ I2 q2) fun vu s3 ⟨u, H3, I3, pu, q3⟩ => ?_)
 rw [evalPart_none]
 refine wpAny_pure ?_
 have I4 : Inv X pins σ H3 { s3 with heap := s3.heap.push { cls := .type "slice", data := .fields #[vl, vu, .none] } } := I3.kept (t' := s3.toks) fun b ob q => Heap.get?_push_of_some _ q
 obtain ⟨T, id, hT, ht, hg⟩ := hr pins { s3 with heap := s3.heap.push { cls := .type "slice", data := .fields #[vl, vu, .none] } } σ H3 x v vl vu l u s3.heap.objs.size Q I4 r1 (Heap.IsSliceOf.new ..) pl pu q3
 show wpAny (model X.prog X.w) X.A (subscriptTail e (.Slice lo hi none p2) v (.ref s3.heap.objs.size)) (EP X pins σ Q) X.xe { s3 with heap := s3.heap.push { cls := .type "slice", data := .fields #[vl, vu, .none] } }
 exact tail_any (ops := [.ref s3.heap.objs.size, v]) ht hT hg (by with_unfolding_all rfl)
noncomputable def cutV (xs : List V) (lo hi : Option Int) : List V := (xs.drop (HT.sIx xs.length 0 lo)).take (HT.sIx xs.length xs.length hi - HT.sIx xs.length 0 lo)
theorem cutV_length (xs : List V) (lo hi : Option Int) : (cutV xs lo hi).length <= xs.length := by
 unfold cutV
 rw [List.length_take, List.length_drop]
 omega
noncomputable def rSlT (K : PySem.W.Frag) : V -> Option Int -> Option Int -> Hp -> VK -> Prop := fun x lo hi H Q => ∃ a xs, x = .ref a /\ SqT K H a xs /\
 ¬ (HT.sIx xs.length 0 lo = 0 /\ HT.sIx xs.length xs.length hi = xs.length) /\ ∀ p, H p = none -> Q (.ref p) (upd H p (.tup (cutV xs lo hi)))
theorem sl_tup : SlR X (rSlT X.K) := by
 intro pins s σ H x v vl vu lo hi sl Q I rx hs pl pu h
 obtain ⟨a, xs, rfl, hx, hw, q⟩ := h
 cases rx
 obtain ⟨its, r, ht, hz⟩ := I.tuple hx
 have hlen : its.toArray.size = xs.length := by rw [List.size_toArray]; exact r.length.symm
 refine ⟨"tuple", _, PyProof.Rows.slot_tuple_getitem.lookup, ht.typeIs, ?_⟩
 refine HT.getItem_tuple_cut ht hs pl pu (by rw [hlen]; exact hw) ?_ (by rw [hlen]; exact hz)
 rw [hlen]
 refine ⟨.ref s.heap.objs.size, _, I.laid (t' := s.toks) (o := .tup (cutV xs lo hi)) (fun b ob q => Heap.get?_push_of_some _ q) (Nat.le_refl _) ?_, rfl, q _ (I.hok.fresh (Nat.le_refl _))⟩
 exact ⟨Nat.le_trans (cutV_length xs lo hi) hz, _, (r.drop (HT.sIx xs.length 0 lo)).take (HT.sIx xs.length xs.length hi - HT.sIx xs.length 0 lo), IsTup.new _ _⟩
noncomputable def rCatT (K : PySem.W.Frag) : R2 := fun x y H Q => ∃ a b xs ys, x = .ref a /\ y = .ref b /\ SqT K H a xs /\ SqT K H b ys /\ xs ≠ [] /\ xs.length + ys.length <= sizeLine /\
 (ys = [] -> Q (.ref a) H) /\ (ys ≠ [] -> ∀ p, H p = none -> Q (.ref p) (upd H p (.tup (xs ++ ys))))
theorem Vals.nil_iff {xs : List V} {us : List Value} (r : Vals xs us) : us = [] ↔ xs = [] := by
 cases r with
 | nil => simp
 | cons _ _ => simp
theorem op_catT : OpR X (binaryOp .Add) (rCatT X.K) := by
 intro pins s σ H x y v u Q I rx ry h
 obtain ⟨a, b, xs, ys, rfl, rfl, ha, hb, hx, hz, q1, q2⟩ := h
 cases rx
 cases ry
 obtain ⟨its, r1, p1, _⟩ := I.tuple ha
 obtain ⟨its2, r2, p2, _⟩ := I.tuple hb
 refine HT.cat_tup p1 p2 (fun z => hx (r1.nil_iff.mp z)) (fun z => ⟨.ref a, H, I, rfl, q1 (r2.nil_iff.mp z)⟩) (fun z => ?_) (by rw [<- r1.length, <- r2.length]; exact hz)
 refine ⟨.ref s.heap.objs.size, _, I.laid (t' := s.toks) (o := .tup (xs ++ ys)) (fun b ob q => Heap.get?_push_of_some _ q) (Nat.le_refl _) ?_, rfl, q2 (fun w => z (r2.nil_iff.mpr w)) _ (I.hok.fresh (Nat.le_refl _))⟩
 exact ⟨by rw [List.length_append]; exact hz, _, r1.append r2, IsTup.new _ _⟩
end
end L2
namespace L2
open PySem PySem.Spec PyProof.Rows
noncomputable def ixN (n : Nat) (i : Int) : Option Nat := if 0 <= i then (if i < n then some i.toNat else none) else if -(n : Int) <= i then some (i + n).toNat else none
noncomputable def atI {α : Type} (xs : List α) (i : Int) : Option α := (ixN xs.length i).bind fun j => xs[j]?
theorem ixN_seq {n : Nat} {i : Int} {j : Nat} (h : ixN n i = some j) : seqIndex? i n = some j /\ j < n /\ -(n : Int) <= i /\ i < n := by
 unfold ixN at h
 by_cases h0 : 0 <= i
 . rw [if_pos h0] at h
   by_cases h1 : i < n
   . rw [if_pos h1] at h
     have e : i.toNat = j := Option.some.inj h
     exact ⟨by rw [seqIndex_of h0 h1, e], by omega, by omega, h1⟩
   . rw [if_neg h1] at h; cases h
 . rw [if_neg h0] at h
   by_cases h1 : -(n : Int) <= i
   . rw [if_pos h1] at h
     have e : (i + n).toNat = j := Option.some.inj h
     exact ⟨by rw [seqIndex_neg (by omega) h1, e], by omega, h1, by omega⟩
   . rw [if_neg h1] at h; cases h
theorem atI_get {α : Type} {xs : List α} {i : Int} {v : α} (h : atI xs i = some v) : ∃ j, seqIndex? i xs.length = some j /\ xs[j]? = some v /\ j < xs.length /\ -(xs.length : Int) <= i /\ i < xs.length := by
 unfold atI at h
 cases e : ixN xs.length i with
 | none => rw [e] at h; cases h
 | some j =>
  rw [e] at h
  obtain ⟨h1, h2, h3, h4⟩ := ixN_seq e
  exact ⟨j, h1, h, h2, h3, h4⟩
noncomputable def PlainIx (b : Expr) : Prop := ∀ o i, subscripted b false o i = operate [o, i] (getItem o i)
noncomputable def IxR (X : Cx) (r : R2) : Prop :=
 ∀ (value slice : Expr) (pins : List (Addr × Obj)) (s : Shared) (σ : St) (H : Hp) (x y : V) (v u : Value) (Q : VK), Inv X pins σ H s -> RelV x v -> RelV y u -> r x y H Q ->
  subscripted slice false v u = operate [v, u] (getItem v u) -> wpAny (model X.prog X.w) X.A (subscriptTail value slice v u) (EP X pins σ Q) X.xe s
noncomputable def MtR (X : Cx) (id : String) (r : V -> List V -> Hp -> VK -> Prop) : Prop :=
 ∀ (pins : List (Addr × Obj)) (s : Shared) (σ : St) (H : Hp) (x : V) (xs : List V) (v : Value) (us : List Value) (Q : VK), Inv X pins σ H s -> RelV x v -> Vals xs us -> r x xs H Q ->
  wpAny (model X.prog X.w) X.A (call (.builtin id) (v :: us)) (EP X pins σ Q) X.xe s
section
variable {X : Cx} {a b : Expr} {ta tb : TE} {pos : Pos}
theorem IxR.or {r r' : R2} (h : IxR X r) (h' : IxR X r') : IxR X (fun x y H Q => r x y H Q \/ r' x y H Q) := by
 intro value slice pins s σ H x y v u Q I rx ry q hs
 rcases q with q | q
 . exact h value slice pins s σ H x y v u Q I rx ry q hs
 . exact h' value slice pins s σ H x y v u Q I rx ry q hs
theorem pe_ix {r : R2} (hr : IxR X r) (ha : PE X a ta) (hb : PE X b tb) (hs : PlainIx b) : PE X (.Subscript a b pos) (tOp r ta tb) := by
 intro pins s σ H Q I h
 exact Subscript_ (binT ha hb I h fun v u s2 x y H2 I2 rx ry q => hr a b pins s2 σ H2 x y v u Q I2 rx ry q (hs _ _))
noncomputable def rIxL (K : PySem.W.Frag) : R2 := fun x y H Q => ∃ p xs i v, x = .ref p /\ y = .int i /\ SqL K H p xs /\ atI xs i = some v /\ Q v H
noncomputable def rIxT (K : PySem.W.Frag) : R2 := fun x y H Q => ∃ p xs i v, x = .ref p /\ y = .int i /\ SqT K H p xs /\ atI xs i = some v /\ Q v H
noncomputable def rIxS : R2 := fun x y H Q => ∃ z i c, x = .str z /\ y = .int i /\ z.length <= sizeLine /\ atI z.cps.toList i = some c /\ Q (.str ⟨#[c]⟩) H
theorem ix_list : IxR X (rIxL X.K) := by
 intro value slice pins s σ H x y v u Q I rx ry h hs
 obtain ⟨p, xs, i, z, rfl, rfl, hq, he, q⟩ := h
 cases rx
 obtain ⟨t, rfl⟩ := ry
 obtain ⟨its, r, pl, hz⟩ := I.list hq
 obtain ⟨j, h1, h2, h3, h4, h5⟩ := atI_get he
 obtain ⟨w, ew, rw'⟩ := r.get h2
 have hl := r.length
 have hn := line63
 have fin : EP X pins σ Q w s := ⟨z, H, I, rw', q⟩
 by_cases h0 : 0 <= i
 . have hj : i.toNat = j := by
     rw [seqIndex_of h0 h5] at h1
     exact Option.some.inj h1
   exact item_listR pl.isList h0 (by omega) (by rw [hj]; simpa using ew) fin hs
 . have hj : (i + (its.toArray.size : Int)).toNat = j := by
     rw [seqIndex_neg (by omega) h4] at h1
     rw [List.size_toArray, <- hl]
     exact Option.some.inj h1
   exact subscriptTail_builtinR (x := w) pl.isList.typeIs slot_list_getitem.lookup
    (wpAny_getItem_list_neg (Q := fun r s' => r = w /\ EP X pins σ Q r s') pl.isList (by omega) (by rw [List.size_toArray] <;> omega) (by omega) (by rw [hj]; simpa using ew) ⟨rfl, fin⟩) hs
theorem ix_tup : IxR X (rIxT X.K) := by
 intro value slice pins s σ H x y v u Q I rx ry h hs
 obtain ⟨p, xs, i, z, rfl, rfl, hq, he, q⟩ := h
 cases rx
 obtain ⟨t, rfl⟩ := ry
 obtain ⟨its, r, pl, hz⟩ := I.tuple hq
 obtain ⟨j, h1, h2, h3, h4, h5⟩ := atI_get he
 obtain ⟨w, ew, rw'⟩ := r.get h2
 have hl := r.length
 have hn := line63
 have fin : EP X pins σ Q w s := ⟨z, H, I, rw', q⟩
 exact subscriptTail_builtinR (x := w) pl.typeIs slot_tuple_getitem.lookup
  (getItem_tuple (j := j) (Q := fun r s' => r = w /\ EP X pins σ Q r s') pl (by omega) (by omega) (by rw [List.size_toArray, <- hl]; exact h1) (by simpa using ew) ⟨rfl, fin⟩) hs
theorem ix_str : IxR X rIxS := by
 intro value slice pins s σ H x y v u Q I rx ry h hs
 obtain ⟨z, i, c, rfl, rfl, hz, he, q⟩ := h
 obtain ⟨t, rfl⟩ := rx
 obtain ⟨t', rfl⟩ := ry
 obtain ⟨j, h1, h2, h3, h4, h5⟩ := atI_get he
 have hl : z.cps.toList.length = z.length := by simp [Str.length]
 rw [hl] at h1 h4 h5
 have hn := line63
 exact tail_any (typeIs_str s z t) slot_str_getitem.lookup (getItem_str (c := c) (by
  have e1 : decide (i < -(2 ^ 63 : Int)) = false := decide_eq_false (by omega)
  have e2 : decide (i >= 2 ^ 63) = false := decide_eq_false (by omega)
  rw [e1, e2, Bool.or_false]) (by rw [h1]; simpa using h2) ⟨.str ⟨#[c]⟩, H, I.tok _, ⟨_, rfl⟩, q⟩) hs
noncomputable def rIx (K : PySem.W.Frag) : R2 := fun x y H Q => rIxL K x y H Q \/ rIxT K x y H Q \/ rIxS x y H Q
theorem ix_seq : IxR X (rIx X.K) := ix_list.or (ix_tup.or ix_str)
theorem mapSeq_set (its : List Value) (n j : Nat) (u : Value) : Obj.mapSeq (·.setIfInBounds j u) { cls := .type "list", data := .seq its.toArray n } = { cls := .type "list", data := .seq (its.set j u).toArray n } := by
 simp [Obj.mapSeq]
theorem Inv.lst {pins : List (Addr × Obj)} {σ : St} {H : Hp} {s : Shared} {p : Addr} {xs : List V} (I : Inv X pins σ H s) (h : H p = some (.lst xs)) :
  ∃ (its : List Value) (n : Nat), Vals xs its /\ s.heap.get? p = some { cls := .type "list", data := .seq its.toArray n } /\ xs.length <= sizeLine := by
 obtain ⟨z, its, n, r, e⟩ := I.hok p _ h
 exact ⟨its, n, r, e, z⟩
theorem Inv.lstUpd {pins : List (Addr × Obj)} {σ : St} {H : Hp} {s : Shared} {p : Addr} {xs ys : List V} {its its' : List Value} {n n' : Nat} {f : Obj -> Obj} (I : Inv X pins σ H s) (h : H p = some (.lst xs))
  (ho : s.heap.get? p = some { cls := .type "list", data := .seq its.toArray n }) (hf : f { cls := .type "list", data := .seq its.toArray n } = { cls := .type "list", data := .seq its'.toArray n' }) (r : Vals ys its') (hz : ys.length <= sizeLine) (t : Nat) :
  Inv X pins σ (upd H p (.lst ys)) { s with heap := s.heap.update p f, toks := t } := by
 have e : (s.heap.update p f).get? p = some { cls := .type "list", data := .seq its'.toArray n' } := by
  rw [Heap.get?_update_self f ho (by rw [hf] <;> rfl), hf]
 refine I.write (x := p) (e := p) (by rw [h]; trivial) (.inl rfl) (fun b u hb q => (Heap.get?_update_other _ _ (Ne.symm hb)).trans q) ⟨_, e⟩ ?_
 exact ⟨hz, its', n', r, e⟩
noncomputable def rSetL : V -> V -> V -> Hp -> (Hp -> Prop) -> Prop := fun o i v H Q => ∃ p xs k j, o = .ref p /\ i = .int k /\ H p = some (.lst xs) /\ ixN xs.length k = some j /\ Q (upd H p (.lst (xs.set j v)))
theorem set_list : PSet X rSetL := by
 intro pins s σ H o i v ov iv u Q I ro ri rv h
 obtain ⟨p, xs, k, j, rfl, rfl, hp, hj, q⟩ := h
 cases ro
 obtain ⟨t, rfl⟩ := ri
 obtain ⟨its, n, r, ho, hz⟩ := I.lst hp
 obtain ⟨h1, h2, h3, h4⟩ := ixN_seq hj
 have hl := r.length
 have hn := line63
 have I' : Inv X pins σ (upd H p (.lst (xs.set j v))) { s with heap := s.heap.update p (Obj.mapSeq (·.setIfInBounds j u)) } :=
  I.lstUpd hp ho (mapSeq_set its n j u) (r.set rv j) (by rw [List.length_set]; exact hz) s.toks
 by_cases h0 : 0 <= k
 . have hk : k.toNat = j := by
     rw [seqIndex_of h0 h4] at h1
     exact Option.some.inj h1
   exact PySem.W.ki_setAt ho h0 (by omega) (by rw [List.size_toArray, <- hl]; exact h4) (by rw [hk]; exact ⟨_, I', q⟩)
 . have hk : (k + (its.toArray.size : Int)).toNat = j := by
     rw [seqIndex_neg (by omega) h3] at h1
     rw [List.size_toArray, <- hl]
     exact Option.some.inj h1
   exact PySem.W.ki_setBack ho (by omega) (by rw [List.size_toArray, <- hl]; exact h3) (by omega) (by rw [hk]; exact ⟨_, I', q⟩)
theorem slice_bounds (lo hi : Option Int) (n : Nat) : (sliceBounds lo hi none n).1 = ((HT.sIx n 0 lo : Nat) : Int) /\ (sliceBounds lo hi none n).2.1 = ((HT.sIx n n hi : Nat) : Int) /\ (sliceBounds lo hi none n).2.2 = 1 := by
 refine ⟨?_, ?_, rfl⟩
 . cases lo with
   | none => simp [sliceBounds, HT.sIx]
   | some i =>
    simp only [sliceBounds, HT.sIx, Option.getD_none, show (1 : Int) > 0 by decide, if_true]
    by_cases h : i < 0
    . simp only [h, if_true] <;> omega
    . simp only [h, if_false] <;> omega
 . cases hi with
   | none => simp [sliceBounds, HT.sIx]
   | some i =>
    simp only [sliceBounds, HT.sIx, Option.getD_none, show (1 : Int) > 0 by decide, if_true]
    by_cases h : i < 0
    . simp only [h, if_true] <;> omega
    . simp only [h, if_false] <;> omega
theorem slicePick_cut (its : List Value) (lo hi : Option Int) : slicePick its.toArray lo hi none = ((its.drop (HT.sIx its.length 0 lo)).take (HT.sIx its.length its.length hi - HT.sIx its.length 0 lo)).toArray := by
 obtain ⟨h1, h2, h3⟩ := slice_bounds lo hi its.toArray.size
 unfold slicePick
 rw [h1, h2, h3]
 simp only [sliceRange_one, pick_run, List.size_toArray] <;> rfl
noncomputable def rSlL (K : PySem.W.Frag) : V -> Option Int -> Option Int -> Hp -> VK -> Prop := fun x lo hi H Q => ∃ a xs, x = .ref a /\ SqL K H a xs /\ ∀ p, H p = none -> Q (.ref p) (upd H p (.lst (cutV xs lo hi)))
theorem sl_list : SlR X (rSlL X.K) := by
 intro pins s σ H x v vl vu lo hi sl Q I rx hs pl pu h
 obtain ⟨a, xs, rfl, hx, q⟩ := h
 cases rx
 obtain ⟨its, r, ht, hz⟩ := I.list hx
 have hlen := r.length
 refine ⟨"list", _, slot_list_getitem.lookup, ht.isList.typeIs, ?_⟩
 refine wpAny_getItem_list_slice ht.isList hs pl pu .none (by simp) ?_ (by rw [List.size_toArray] <;> omega)
 rw [slicePick_cut, <- hlen]
 refine ⟨.ref s.heap.objs.size, _, I.laid (t' := s.toks) (o := .lst (cutV xs lo hi)) (fun b ob q => Heap.get?_push_of_some _ q) (Nat.le_refl _) ?_, rfl, q _ (I.hok.fresh (Nat.le_refl _))⟩
 exact ⟨Nat.le_trans (cutV_length xs lo hi) hz, _, 0, (r.drop (HT.sIx xs.length 0 lo)).take (HT.sIx xs.length xs.length hi - HT.sIx xs.length 0 lo), Heap.get?_push_size _ rfl⟩
noncomputable def flatV : V -> Bool
 | .non => true
 | .bl _ => true
 | .int _ => true
 | .str _ => true
 | _ => false
noncomputable def eqV : V -> V -> Bool
 | .non, .non => true
 | .bl a, .bl b => a == b
 | .bl a, .int b => (if a then 1 else 0) == b
 | .int a, .bl b => a == (if b then 1 else 0)
 | .int a, .int b => a == b
 | .str a, .str b => a == b
 | _, _ => false
theorem eqAt_V {A : Around} {s : Shared} {y x : V} {u v : Value} (ry : RelV y u) (rx : RelV x v) (fy : flatV y = true) (fx : flatV x = true) : SeqAt.EqAt A s u v (eqV y x) := by
 cases y with
 | non =>
  cases ry
  cases x with
  | non => cases rx; exact SeqAt.EqAt.same _
  | bl b => cases rx; exact SeqAt.EqAt.none_bool b
  | int b => obtain ⟨t, rfl⟩ := rx; exact SeqAt.EqAt.none_int b t
  | str b => obtain ⟨t, rfl⟩ := rx; exact SeqAt.EqAt.none_str b t
  | _ => exact absurd (show false = true from fx) Bool.false_ne_true
 | bl a =>
  cases ry
  cases x with
  | non => cases rx; exact SeqAt.EqAt.bool_none a
  | bl b => cases rx; exact SeqAt.EqAt.bool_bool a b
  | int b => obtain ⟨t, rfl⟩ := rx; exact SeqAt.EqAt.bool_int a b t
  | str b => obtain ⟨t, rfl⟩ := rx; exact SeqAt.EqAt.bool_str a b t
  | _ => exact absurd (show false = true from fx) Bool.false_ne_true
 | int a =>
  obtain ⟨t', rfl⟩ := ry
  cases x with
  | non => cases rx; exact SeqAt.EqAt.int_none a t'
  | bl b => cases rx; exact SeqAt.EqAt.int_bool a t' b
  | int b => obtain ⟨t, rfl⟩ := rx; exact SeqAt.EqAt.int_int a t' b t
  | str b => obtain ⟨t, rfl⟩ := rx; exact SeqAt.EqAt.int_str a t' b t
  | _ => exact absurd (show false = true from fx) Bool.false_ne_true
 | str a =>
  obtain ⟨t', rfl⟩ := ry
  cases x with
  | non => cases rx; exact SeqAt.EqAt.str_none a t'
  | bl b => cases rx; exact SeqAt.EqAt.str_bool a t' b
  | int b => obtain ⟨t, rfl⟩ := rx; exact SeqAt.EqAt.str_int a t' b t
  | str b => obtain ⟨t, rfl⟩ := rx; exact SeqAt.EqAt.str_str a t' b t
  | _ => exact absurd (show false = true from fx) Bool.false_ne_true
 | _ => exact absurd (show false = true from fy) Bool.false_ne_true
noncomputable def eqU (x : V) (u : Value) : Bool := match u with
 | .none => eqV .non x
 | .bool b => eqV (.bl b) x
 | .int i _ => eqV (.int i) x
 | .str z _ => eqV (.str z) x
 | _ => false
theorem eqU_of {x y : V} {u : Value} (r : RelV y u) (f : flatV y = true) : eqU x u = eqV y x := by
 cases y with
 | non => cases r; rfl
 | bl b => cases r; rfl
 | int i => obtain ⟨t, rfl⟩ := r; rfl
 | str z => obtain ⟨t, rfl⟩ := r; rfl
 | _ => exact absurd (show false = true from f) Bool.false_ne_true
theorem any_eqU {x : V} : ∀ {xs : List V} {us : List Value}, Vals xs us -> xs.all flatV = true -> us.any (eqU x) = xs.any fun y => eqV y x
 | _, _, .nil, _ => rfl
 | y :: xs, u :: us, .cons r t, f => by
  rw [List.all_cons, Bool.and_eq_true] at f
  rw [List.any_cons, List.any_cons, eqU_of r f.1, any_eqU t f.2]
theorem mem_eqAt {A : Around} {s : Shared} {x : V} {v : Value} (rx : RelV x v) (fx : flatV x = true) : ∀ {xs : List V} {us : List Value}, Vals xs us -> xs.all flatV = true -> ∀ u ∈ us, SeqAt.EqAt A s u v (eqU x u)
 | _, _, .nil, _ => fun u hu => by cases hu
 | y :: xs, u :: us, .cons r t, f => fun u' hu => by
  rw [List.all_cons, Bool.and_eq_true] at f
  rcases List.mem_cons.mp hu with rfl | hu
  . rw [eqU_of r f.1]; exact eqAt_V r rx f.1 fx
  . exact mem_eqAt rx fx t f.2 u' hu
noncomputable def inV (x : V) (xs : List V) : Bool := xs.any fun y => eqV y x
noncomputable def rIn (K : PySem.W.Frag) (neg : Bool) : R2 := fun x y H Q => ∃ p xs, y = .ref p /\ (SqL K H p xs \/ SqT K H p xs) /\ flatV x = true /\ xs.all flatV = true /\ Q (.bl (if neg then !inV x xs else inV x xs)) H
theorem op_in_seq : OpR X (compareOp .In) (rIn X.K false) := by
 intro pins s σ H x y v u Q I rx ry h
 obtain ⟨p, xs, rfl, hq, fx, fs, q⟩ := h
 cases ry
 rcases hq with hq | hq
 . obtain ⟨its, r, pl, hz⟩ := I.list hq
   refine SeqAt.in_listAt (eqU x) pl.isList (fun w hw => mem_eqAt rx fx r fs w (by simpa using hw)) ⟨.bl _, H, I, rfl, ?_⟩
   rw [show its.toArray.any (eqU x) = its.any (eqU x) by simp, any_eqU r fs]
   exact q
 . obtain ⟨its, r, pl, hz⟩ := I.tuple hq
   refine SeqAt.in_tupleAt (eqU x) pl (fun w hw => mem_eqAt rx fx r fs w (by simpa using hw)) ⟨.bl _, H, I, rfl, ?_⟩
   rw [show its.toArray.any (eqU x) = its.any (eqU x) by simp, any_eqU r fs]
   exact q
theorem op_notIn_seq : OpR X (compareOp .NotIn) (rIn X.K true) := by
 intro pins s σ H x y v u Q I rx ry h
 obtain ⟨p, xs, rfl, hq, fx, fs, q⟩ := h
 cases ry
 rcases hq with hq | hq
 . obtain ⟨its, r, pl, hz⟩ := I.list hq
   refine SeqAt.notIn_listAt (eqU x) pl.isList (fun w hw => mem_eqAt rx fx r fs w (by simpa using hw)) ⟨.bl _, H, I, rfl, ?_⟩
   rw [show its.toArray.any (eqU x) = its.any (eqU x) by simp, any_eqU r fs]
   exact q
 . obtain ⟨its, r, pl, hz⟩ := I.tuple hq
   refine SeqAt.notIn_tupleAt (eqU x) pl (fun w hw => mem_eqAt rx fx r fs w (by simpa using hw)) ⟨.bl _, H, I, rfl, ?_⟩
   rw [show its.toArray.any (eqU x) = its.any (eqU x) by simp, any_eqU r fs]
   exact q
theorem op_notIn_str : OpR X (compareOp .NotIn) (fun x y H Q => ∃ i j, x = .str i /\ y = .str j /\ Q (.bl (!(!(Builtin.Str.occurrences j i 0 j.length 1).isEmpty))) H) := by
 intro pins s σ H x y v u Q I rx ry h
 obtain ⟨i, j, rfl, rfl, q⟩ := h
 obtain ⟨t, rfl⟩ := rx
 obtain ⟨t', rfl⟩ := ry
 exact notIn_str ⟨.bl _, H, I, rfl, q⟩
theorem call_len_seq : CallR X (.builtin "len") (fun xs H Q => ∃ p ys, xs = [.ref p] /\ (SqL X.K H p ys \/ SqT X.K H p ys) /\ Q (.int ys.length) H) := by
 intro pins s σ H xs us Q I r h
 obtain ⟨p, ys, rfl, hq, q⟩ := h
 obtain ⟨u, rfl, rx⟩ := vals1 r
 cases rx
 have hn := line63
 rcases hq with hq | hq
 . obtain ⟨its, r', pl, hz⟩ := I.list hq
   have hlen := r'.length
   exact Calls.call_len_list pl.isList (by simp only [List.size_toArray] <;> omega) ⟨.int ys.length, H, I.tok _, ⟨s.toks + 1, by rw [List.size_toArray, hlen]⟩, q⟩
 . obtain ⟨its, r', pl, hz⟩ := I.tuple hq
   have hlen := r'.length
   exact len_tuple pl (by simp only [List.size_toArray] <;> omega) ⟨.int ys.length, H, I.tok _, ⟨s.toks + 1, by rw [List.size_toArray, hlen]⟩, q⟩
theorem call_len_str : CallR X (.builtin "len") (fun xs H Q => ∃ z, xs = [.str z] /\ z.length <= sizeLine /\ Q (.int z.length) H) := by
 intro pins s σ H xs us Q I r h
 obtain ⟨z, rfl, hz, q⟩ := h
 obtain ⟨u, rfl, t, rfl⟩ := vals1 r
 have hn := line63
 exact len_str (by omega) ⟨.int z.length, H, I.tok _, ⟨_, rfl⟩, q⟩
theorem CallR.or {f : Value} {r r' : List V -> Hp -> VK -> Prop} (h : CallR X f r) (h' : CallR X f r') : CallR X f (fun xs H Q => r xs H Q \/ r' xs H Q) := by
 intro pins s σ H xs us Q I rs q
 rcases q with q | q
 . exact h pins s σ H xs us Q I rs q
 . exact h' pins s σ H xs us Q I rs q
theorem call_tuple_of : CallR X (.type "tuple") (fun xs H Q => ∃ p ys, xs = [.ref p] /\ ((SqL X.K H p ys /\ ∀ l, H l = none -> Q (.ref l) (upd H l (.tup ys))) \/ (SqT X.K H p ys /\ Q (.ref p) H))) := by
 intro pins s σ H xs us Q I r h
 obtain ⟨p, ys, rfl, h⟩ := h
 obtain ⟨u, rfl, rx⟩ := vals1 r
 cases rx
 rcases h with ⟨hq, q⟩ | ⟨hq, q⟩
 . obtain ⟨its, r', pl, hz⟩ := I.list hq
   have hlen := r'.length
   refine call_tuple_list pl.isList (fun h' kp => ?_) (by simp only [List.size_toArray] <;> omega)
   have I1 : Inv X pins σ H { s with heap := h' } := I.kept (t' := s.toks) kp
   have I2 : Inv X pins σ (upd H h'.objs.size (.tup ys)) { s with heap := h'.push { cls := .type "tuple", data := .seq its.toArray } } :=
    I1.laid (t' := s.toks) (fun b o e => Heap.get?_push_of_some _ e) (Nat.le_refl _) (show ObjOk X.prog X.w _ _ _ (.tup ys) from ⟨hz, its, r', IsTup.new _ _⟩)
   exact ⟨.ref h'.objs.size, _, I2, rfl, q _ (I1.hok.fresh (Nat.le_refl _))⟩
 . obtain ⟨its, r', pl, hz⟩ := I.tuple hq
   exact call_tuple_same pl ⟨.ref p, H, I, rfl, q⟩
noncomputable def tyV (K : PySem.W.Frag) (T : String) (x : V) (H : Hp) : Prop := match x with
 | .str _ => T = "str"
 | .int _ => T = "int"
 | .ref p => (T = "list" /\ ∃ xs, SqL K H p xs) \/ (T = "tuple" /\ ∃ o, K.lookup p = some o /\ o.cls = .type "tuple" /\ o.dict = none) \/
   (T = "dict" /\ ((∃ kvs, H p = some (.dK kvs)) \/ ∃ kvs, H p = some (.dT kvs))) \/ (T = "set" /\ ∃ S n, H p = some (.set S n))
 | _ => False
theorem tyV_is {pins : List (Addr × Obj)} {σ : St} {H : Hp} {s : Shared} {T : String} {x : V} {v : Value} (I : Inv X pins σ H s) (r : RelV x v) (ty : tyV X.K T x H) :
  s.TypeIs v T /\ ∀ a, v = .ref a -> ∃ ob, s.heap.get? a = some ob /\ ob.dict = none := by
 cases x with
 | str z =>
  obtain ⟨t, rfl⟩ := r
  cases (show T = "str" from ty)
  exact ⟨typeIs_str s z t, fun _ e => nomatch e⟩
 | int i =>
  obtain ⟨t, rfl⟩ := r
  cases (show T = "int" from ty)
  exact ⟨typeIs_int s i t, fun _ e => nomatch e⟩
 | ref p =>
  cases r
  rcases ty with ⟨rfl, xs, hq⟩ | ⟨rfl, o, hk, hc, hd⟩ | ⟨rfl, hk⟩ | ⟨rfl, S, n, hk⟩
  . obtain ⟨its, _, pl, _⟩ := I.list hq
    refine ⟨pl.isList.typeIs, fun a e => ?_⟩
    cases e
    obtain ⟨o, n, e, c, hd, _⟩ := pl
    exact ⟨o, e, hd⟩
  . refine ⟨⟨o, I.kIn p o hk, hc⟩, fun a e => ?_⟩
    cases e
    exact ⟨o, I.kIn _ o hk, hd⟩
  . have z : ∃ o, s.heap.get? p = some o /\ o.ExactDict := by
      rcases hk with ⟨kvs, hk⟩ | ⟨kvs, hk⟩
      . obtain ⟨_, _, _, _, o, _, _, e, ex, _⟩ := I.hok p _ hk
        exact ⟨o, e, ex⟩
      . obtain ⟨_, _, _, _, o, _, _, e, ex, _⟩ := I.hok p _ hk
        exact ⟨o, e, ex⟩
    obtain ⟨o, e, ex⟩ := z
    refine ⟨⟨o, e, ex.1⟩, fun a e2 => ?_⟩
    cases e2
    exact ⟨o, e, ex.2.1⟩
  . obtain ⟨o, _, _, _, e, ex, _⟩ := I.hok p _ hk
    refine ⟨⟨o, e, ex.1⟩, fun a e2 => ?_⟩
    cases e2
    exact ⟨o, e, ex.2.1⟩
 | _ => exact False.elim ty
noncomputable def tBM0 (K : PySem.W.Frag) (T : String) (r : V -> List V -> Hp -> VK -> Prop) (to : TE) : TE := fun σ H Q => to σ H fun x H1 => tyV K T x H1 /\ r x [] H1 Q
noncomputable def tBM (K : PySem.W.Frag) (T : String) (r : V -> List V -> Hp -> VK -> Prop) (to : TE) (t : TA) : TE := fun σ H Q => to σ H fun x H1 => tyV K T x H1 /\ t σ H1 fun xs H2 => r x xs H2 Q
variable {o e : Expr} {es : List Expr} {to : TE} {t : TA} {name : Str} {apos cpos : Pos} {T id : String} {r : V -> List V -> Hp -> VK -> Prop}
theorem pe_bm0 (pa : PlainAttrs T) (slot : Slot T name id) (hty : typeOf (.builtin id) = pure (.type "method_descriptor")) (hm : MtR X id r) (ho : PE X o to)
  (hbase : attributeBase o name X.env (eval o X.env) = eval o X.env := by rfl) (hline : (apos.endLine == cpos.line) = true := by rfl) : PE X (.Call (.Attribute o name apos) [] [] cpos) (tBM0 X.K T r to) := by
 intro pins s σ H Q I h
 refine wpAny_Call_method0_late hbase hline (thn (ho pins s σ H _ I h) fun v s1 ⟨x, H1, I1, r1, ty, q1⟩ => ?_)
 obtain ⟨h1, h2⟩ := tyV_is I1 r1 ty
 exact ⟨T, id, pa, slot, hty, h1, h2, Calls.callWith_builtin rfl (PySem.evalArgs_none (hm pins s1 σ H1 x [] v [] Q I1 r1 .nil q1))⟩
theorem pe_bm (pa : PlainAttrs T) (slot : Slot T name id) (hty : typeOf (.builtin id) = pure (.type "method_descriptor")) (hm : MtR X id r) (ho : PE X o to) (ha : PA X (e :: es) t)
  (hbase : attributeBase o name X.env (eval o X.env) = eval o X.env := by rfl)
  (hfew : ((backTo cpos (starEach (e :: es) X.env)).all (fun x => !x.1) && (backToKw cpos (keywordEach [] X.env)).all (fun x => x.1.isSome)
   && decide ((e :: es).length + ([] : List Keyword).length + (if ([] : List Keyword).isEmpty then 0 else 1) < 30)) = true := by rfl)
  (hline : (apos.endLine == cpos.line) = true := by rfl) (hs : starEach (e :: es) X.env = (false, eval e X.env) :: starEach es X.env := by rfl) (hplain : (backTo cpos (starEach es X.env)).any (·.1) = false := by rfl) :
  PE X (.Call (.Attribute o name apos) (e :: es) [] cpos) (tBM X.K T r to t) := by
 intro pins s σ H Q I h
 refine wpAny_Call_method_late hbase hfew hline rfl (thn (ho pins s σ H _ I h) fun v s1 ⟨x, H1, I1, r1, ty, q1⟩ => ?_)
 obtain ⟨h1, h2⟩ := tyV_is I1 r1 ty
 refine ⟨T, id, pa, slot, hty, h1, h2, ?_⟩
 have hA := ha cpos pins s1 σ H1 _ I1 q1
 rw [hs] at hA ⊢
 refine Calls.callWith_builtin (by show (false || (backTo cpos (starEach es X.env)).any (·.1)) = false; rw [hplain] <;> rfl) (Calls.evalArgs_plain ?_)
 exact thn hA fun us s2 ⟨vs, H2, I2, r2, q2⟩ => hm pins s2 σ H2 x vs v us Q I2 r1 r2 q2
/- xs.append(e), list.index on a module's tuple .. are MtR facts of 06m -/
end
end L2
namespace L2
open PySem PySem.Spec PyProof.Rows
noncomputable def MtM (X : Cx) (id : String) (r : V -> List V -> Hp -> VK -> Prop) : Prop :=
 ∀ (pins : List (Addr × Obj)) (s : Shared) (σ : St) (H : Hp) (x : V) (xs : List V) (v : Value) (us : List Value) (Q : VK), Inv X pins σ H s -> RelV x v -> Vals xs us -> r x xs H Q ->
  wpAny (model X.prog X.w) X.A (call (.builtin id) (v :: us)) (EP X pins σ Q) X.xe s
theorem Vals.one : ∀ {x : V} {us : List Value}, Vals [x] us -> ∃ u, us = [u] /\ RelV x u
 | _, _, .cons r .nil => ⟨_, rfl, r⟩
theorem Vals.zero : ∀ {us : List Value}, Vals [] us -> us = []
 | _, .nil => rfl
theorem Vals.eraseIdx : ∀ {xs : List V} {us : List Value} (i : Nat), Vals xs us -> Vals (xs.eraseIdx i) (us.eraseIdx i)
 | _, _, _, .nil => .nil
 | _, _, 0, .cons _ t => t
 | _, _, i + 1, .cons r t => .cons r (Vals.eraseIdx i t)
theorem Vals.reverse {xs : List V} {us : List Value} (h : Vals xs us) : Vals xs.reverse us.reverse := by
 induction h with
 | nil => exact .nil
 | cons r t ih => rw [List.reverse_cons, List.reverse_cons]; exact Vals.append ih (.cons r .nil)
theorem len_erase {α : Type} : ∀ (l : List α) (i : Nat), (l.eraseIdx i).length <= l.length
 | [], _ => Nat.le_refl _
 | _ :: _, 0 => Nat.le_succ _
 | _ :: r, i + 1 => Nat.succ_le_succ (len_erase r i)
section
variable {X : Cx} {pins : List (Addr × Obj)} {σ : St} {H : Hp} {s : Shared} {l b : Addr} {xs ys zs : List V}
theorem Inv.lset {its its' : List Value} {n : Nat} {f : Array Value -> Array Value} {t' : Nat} (I : Inv X pins σ H s) (hH : H l = some (.lst xs))
  (e : s.heap.get? l = some { cls := .type "list", data := .seq its.toArray n }) (hf : f its.toArray = its'.toArray) (hv : Vals ys its') (hz : ys.length <= sizeLine) :
  Inv X pins σ (upd H l (.lst ys)) { s with heap := s.heap.update l (Obj.mapSeq f), toks := t' } := by
 have q := PySem.IsL.update e f
 rw [hf] at q
 refine I.write (x := l) (e := l) (by rw [hH]; exact trivial) (.inl rfl) (fun b' u hb hu => (Heap.get?_update_other s.heap (Obj.mapSeq f) (Ne.symm hb)).trans hu) ⟨_, q⟩ ?_
 exact ⟨hz, its', _, hv, q⟩
theorem Inv.lnew {its : List Value} {t' : Nat} (I : Inv X pins σ H s) (hv : Vals ys its) (hz : ys.length <= sizeLine) :
  Inv X pins σ (upd H s.heap.objs.size (.lst ys)) { s with heap := s.heap.push { cls := .type "list", data := .seq its.toArray }, toks := t' } :=
 I.laid (fun _ _ q => Heap.get?_push_of_some _ q) (Nat.le_refl _) ⟨hz, its, 0, hv, Heap.get?_push_size _ rfl⟩
theorem Inv.fresh (I : Inv X pins σ H s) : H s.heap.objs.size = none := I.hok.fresh (Nat.le_refl _)
theorem Inv.lstM (I : Inv X pins σ H s) (hH : H l = some (.lst xs)) : xs.length <= sizeLine /\ ∃ (its : List Value) (n : Nat), Vals xs its /\ xs.length = its.length /\ s.heap.get? l = some { cls := .type "list", data := .seq its.toArray n } := by
 obtain ⟨z, its, n, r, e⟩ := I.hok l _ hH
 exact ⟨z, its, n, r, r.length, e⟩
theorem notLongL {n : Nat} (h : n <= sizeLine) : Builtin.List.listTooLong n = false := by
 unfold Builtin.List.listTooLong
 exact decide_eq_false (by omega)
end
section
variable {X : Cx}
noncomputable def rAppend : V -> List V -> Hp -> VK -> Prop := fun x vs H Q => ∃ l xs y, x = .ref l /\ vs = [y] /\ H l = some (.lst xs) /\ xs.length < sizeLine /\ Q .non (upd H l (.lst (xs ++ [y])))
theorem mt_append : MtM X "list.append" rAppend := by
 intro pins s σ H x vs v us Q I rx rv h
 obtain ⟨l, xs, y, rfl, rfl, hH, hz, q⟩ := h
 cases rx
 obtain ⟨u, rfl, ru⟩ := rv.one
 obtain ⟨z, its, n, r, hl, e⟩ := I.lstM hH
 refine call_meets F.slot_list_append ⟨_, e, rfl⟩ F.entry_list_append (F.args_list_append_2 _ _) (PySem.list_append l its.toArray n u (by rw [List.size_toArray]; omega)) ⟨e, ?_⟩
 refine ⟨.non, _, I.lset (its' := its ++ [u]) hH e (by simp) (r.append (.cons ru .nil)) ?_, rfl, q⟩
 rw [List.length_append, List.length_singleton]
 omega
noncomputable def rExtend : V -> List V -> Hp -> VK -> Prop := fun x vs H Q => ∃ l b xs zs, x = .ref l /\ vs = [.ref b] /\ H l = some (.lst xs) /\ H b = some (.lst zs) /\ xs.length + zs.length <= sizeLine /\ Q .non (upd H l (.lst (xs ++ zs)))
theorem mt_extend : MtM X "list.extend" rExtend := by
 intro pins s σ H x vs v us Q I rx rv h
 obtain ⟨l, b, xs, zs, rfl, rfl, hH, hB, hz, q⟩ := h
 cases rx
 obtain ⟨u, rfl, ru⟩ := rv.one
 cases ru
 obtain ⟨z, its, n, r, hl, e⟩ := I.lstM hH
 obtain ⟨z2, its2, n2, r2, hl2, e2⟩ := I.lstM hB
 have hsz : its.toArray.size + its2.toArray.size <= sizeLine := by rw [List.size_toArray, List.size_toArray]; omega
 have hlong : ¬ (!its.toArray.isEmpty && Builtin.List.listTooLong (its.toArray.size + its2.toArray.size)) = true := by
  rw [notLongL hsz, Bool.and_false]
  exact Bool.false_ne_true
 refine call_meets F.slot_list_extend ⟨_, e, rfl⟩ F.entry_list_extend (F.args_list_extend_2 _ _)
  (AutoSeq1.list_extend_list_list_0 l its.toArray n b its2.toArray n2 hlong (by rw [List.size_toArray]; omega) (by omega)) ⟨e, e2, ?_⟩
 refine ⟨.non, _, I.lset (its' := its ++ its2) hH e (by simp) (r.append r2) ?_, rfl, q⟩
 rw [List.length_append]
 omega
noncomputable def rPopAt : V -> List V -> Hp -> VK -> Prop := fun x vs H Q => ∃ l xs i k y, x = .ref l /\ vs = [.int i] /\ H l = some (.lst xs) /\ -(2 ^ 63) <= i /\ i < 2 ^ 63 /\ seqIndex? i xs.length = some k /\ xs[k]? = some y /\ Q y (upd H l (.lst (xs.eraseIdx k)))
theorem mt_popAt : MtM X "list.pop" rPopAt := by
 intro pins s σ H x vs v us Q I rx rv h
 obtain ⟨l, xs, i, k, y, rfl, rfl, hH, h1, h2, hk, hy, q⟩ := h
 cases rx
 obtain ⟨u, rfl, ru⟩ := rv.one
 obtain ⟨t, rfl⟩ := ru
 obtain ⟨z, its, n, r, hl, e⟩ := I.lstM hH
 obtain ⟨w, hw, rw'⟩ := r.get hy
 refine call_meets F.slot_list_pop ⟨_, e, rfl⟩ F.entry_list_pop (F.args_list_pop_2 _ _)
  (MeetsSeq.list_pop_at l its.toArray n i t k w (fitsIndex_both h1 h2) (by rw [List.size_toArray, <- hl]; exact hk) (by rw [<- Array.getElem?_toList]; exact hw) (by rw [List.size_toArray]; omega)) ⟨e, ?_⟩
 refine ⟨y, _, I.lset (its' := its.eraseIdx k) hH e ?_ (r.eraseIdx k) ?_, rw', q⟩
 . show its.toArray.eraseIdxIfInBounds k = (its.eraseIdx k).toArray
   rw [List.eraseIdxIfInBounds_toArray]
 . have := len_erase xs k
   omega
noncomputable def rReverse : V -> List V -> Hp -> VK -> Prop := fun x vs H Q => ∃ l xs, x = .ref l /\ vs = [] /\ H l = some (.lst xs) /\ Q .non (upd H l (.lst xs.reverse))
theorem mt_reverse : MtM X "list.reverse" rReverse := by
 intro pins s σ H x vs v us Q I rx rv h
 obtain ⟨l, xs, rfl, rfl, hH, q⟩ := h
 cases rx
 have hus := rv.zero
 subst hus
 obtain ⟨z, its, n, r, hl, e⟩ := I.lstM hH
 refine call_meets F.slot_list_reverse ⟨_, e, rfl⟩ F.entry_list_reverse (F.args_list_reverse_1 _) (AutoSeq1.list_reverse_list_0 l its.toArray n (by rw [List.size_toArray]; omega)) ⟨e, ?_⟩
 refine ⟨.non, _, I.lset (its' := its.reverse) hH e (by simp) r.reverse ?_, rfl, q⟩
 rw [List.length_reverse]
 omega
end
section
variable {prog : Program} {w : World} {A : Around} {E : Value -> Shared -> Prop} {s : Shared}
end
section
variable {X : Cx}
end
end L2
namespace Att
open PySem PySem.W PySem.Calls PyProof.Rows
theorem ints_of_wellAll {P : Params} {h : Heap} : ∀ (ns : List Int) (vs : List Value), WellAll P h vs (ns.map WData.int) -> IntsAre vs ns := by
 intro ns
 induction ns with
 | nil =>
  intro vs w
  rw [List.map_nil] at w
  cases w
  exact .nil
 | cons n ns ih =>
  intro vs w
  rw [List.map_cons] at w
  cases w with
  | cons a b =>
   cases a
   exact .cons _ _ (ih _ b)
theorem script_of {l : OpenLaw} {n : Nat} (hn : l.most = some n) {P : Params} {h : Heap} {args : List WData} {vals : List Value}
  (hpre : l.row.toRowW.claim.pre args = true) (hwl : WellAll P h vals args) :
  ∃ a vs ns, vals = [Value.ref a] /\ args = [WData.list (ns.map WData.int)] /\ h.get? a = some { cls := .type "list", data := .seq vs.toArray } /\ IntsAre vs ns /\ ns.length <= n := by
 have hsh : WShape.hasAll [] args [.list .int] = true := (pre_splitW hpre).1
 have hc : l.pre.holds [] { args := args } = true := (pre_splitW hpre).2
 obtain ⟨d, r, rfl, h1, h2⟩ := hasAllW_cons hsh
 obtain rfl := hasAllW_nil h2
 obtain ⟨xs, rfl, h3⟩ := hasW_list h1
 obtain ⟨ns, rfl⟩ := items_int h3
 have hlen : ns.length <= n := by
  unfold OpenLaw.pre at hc
  have h4 : (WTm.not (.lt (.lit (.int (n : Int))) (.len (.arg 0)))).holds [] { args := [.list (ns.map .int)] } = true := by
   have h4 := (holds_andW hc).1
   rw [hn] at h4
   exact h4
  have h5 := condW_of h4 (w_not (w_lt w_lit (w_len_list (w_arg rfl))))
  rw [List.length_map] at h5
  refine Nat.le_of_not_lt fun q => ?_
  have q' : (n : Int) < ((ns.length : Nat) : Int) := by omega
  first
   | (rw [decide_eq_true q'] at h5; exact absurd h5 (by decide))
   | (simp at h5; omega)
 cases hwl with
 | cons w1 w2 =>
  cases w2
  cases w1 with
  | list ho hall => exact ⟨_, _, ns, rfl, rfl, ho, ints_of_wellAll ns _ hall, hlen⟩
theorem post_true (l : OpenLaw) (args : List WData) : l.row.toRowW.claim.post args (.bool true) args = true :=
 postW_of (r := l.row.toRowW) (X := (true == true))
  (show WShape.has [] (.bool true) .bool = true by first | rfl | decide | simp [WShape.has, WShape.arms, WShape.armsAll])
  (show (WTm.eq .res (.lit (.bool true))).value [] { args := args, res := some (.bool true), after := args } = some (.bool (true == true)) from w_eq_bool (w_res rfl) w_lit) rfl
theorem attach_call {l : OpenLaw} {n : Nat} {q : Program} {loose : List Str} {XP : (Str -> Option Value) -> Heap -> Prop} {YP : World -> Heap -> Prop} {d : DefRec}
  (hn : l.most = some n) (hdf : d.params.defaults = [])
  (call : ∀ (w : World) (s₀ s₁ : Shared) (mg mb : Str -> Option Value) (fa : Addr) (o : Obj) (pm cd doc : Value) (a : Addr) (vs : List Value) (ns : List Int),
   Ground q loose [] XP w s₀ mg mb s₁.heap -> YP w s₁.heap ->
   s₁.heap.get? fa = some o -> o.data = .func (docDef d.name d.params d.body d.scope pm cd doc) -> s₁.heap.CodeRec cd d.name -> mg d.name = some (.ref fa) ->
   s₁.heap.get? a = some { cls := .type "list", data := .seq vs.toArray } -> IntsAre vs ns -> ns.length <= n -> s₁.gens = #[] ->
   codeAny (model l.prog w) callerA (.call (.ref fa) ⟨[.ref a], []⟩) (fun r s' => r = .ok (.ret (.bool true)) /\ OldK s₁.heap s'.heap /\ s'.os = s₁.os /\ AllBare s'.gens) s₁) :
  WalkO q loose XP YP l.row.toRowW d [] (fun f vs => PySem.call f vs) := by
 intro w s₀ s₁ mg mb G Y fa o pm cd doc dV kV ho hd hcd hD hmg hg args vals as hpre hlay hrd hwl hlo
 obtain rfl : dV = .none := Dflts.none hD hdf
 obtain rfl : kV = .none := Dflts.noKw hD
 obtain ⟨a, vs, ns, rfl, rfl, hobj, hints, hlen⟩ := script_of hn hpre hwl
 refine enter_call (codeAny_mono (call w s₀ s₁ mg mb fa o pm cd doc a vs ns G Y ho (fd_plain hd) hcd hmg hobj hints hlen hg) fun r s' hq => ?_)
 obtain ⟨rfl, h2, h3, h4⟩ := hq
 exact ⟨.inl ⟨.bool true, .bool true, [], rfl, fun _ => rfl, .bool true, post_true l _, fun _ => ⟨List.Pairwise.nil, fun _ hm => (nomatch hm)⟩⟩, h2, h3, h4⟩
section
variable {prog : Program} {w : World} {A : Around} {E : Value -> Shared -> Prop} {s : Shared} {K : Frag}
end
end Att
namespace L2
open PySem PySem.Spec PyProof.Rows
theorem vals_ints : ∀ {vs : List Value} {ns : List Int}, IntsAre vs ns -> Vals (ns.map V.int) vs
 | _, _, .nil => .nil
 | _, _, .cons n t h => .cons ⟨t, rfl⟩ (vals_ints h)
noncomputable def Only (H : Hp) : Prop := ∀ b, H b = none \/ ∃ o xs, H b = some (.frz o (.lst xs))
theorem law_call {P : Program} {w : World} {K : PySem.W.Frag} {mg mb : Str -> Option Value} {CX : CXT} {k : Nat} {fa a : Addr} {fd : FuncData} {x : Str} {sp : Sp} {s₁ : Shared} {vs : List Value} {ns : List Int}
  (KX : K.In s₁.heap) (hns : s₁.heap.Ns mainGlobals mg) (hb : s₁.heap.Ns builtinsNs mb) (hbb : ∀ x : Str, x ≠ "__name__" -> mb x = bootBuiltins x) (hlim : s₁.heap.NoLimit) (hg : s₁.gens = #[])
  (ha : s₁.heap.get? a = some { cls := .type "list", data := .seq vs.toArray }) (hi : IntsAre vs ns) (hl : ns.length <= sizeLine) (hr : Room k callerA)
  (F : ∀ base : Heap, K.In base -> base.Ns mainGlobals mg -> FnOk P w K mg base CX k fa fd [x] sp) (hbind : ∀ (s : Shared) (u : Value), BindsTo s fd ⟨[u], []⟩ [(x, u)])
  (hsp : ∀ H : Hp, Only H -> SqL K H a (ns.map V.int) -> sp [.ref a] H (fun v _ => v = .bl true) fun _ _ _ => False)
  (hCX : ∀ H e s', CX [] H s₁ (fun _ _ _ => False) e s' -> False) :
  codeAny (model P w) callerA (.call (.ref fa) ⟨[.ref a], []⟩) (fun r s' => r = .ok (.ret (.bool true)) /\ OldK s₁.heap s'.heap /\ s'.os = s₁.os /\ AllBare s'.gens) s₁ := by
 have rv := vals_ints hi
 have lenV := hi.length
 have core : ∀ H : Hp, Only H -> SqL K H a (ns.map V.int) -> HOk P w H s₁.heap -> (∀ b, H b ≠ none -> b = a) -> (H a ≠ none -> K.lookup a = none) ->
   codeAny (model P w) callerA (.call (.ref fa) ⟨[.ref a], []⟩) (fun r s' => r = .ok (.ret (.bool true)) /\ OldK s₁.heap s'.heap /\ s'.os = s₁.os /\ AllBare s'.gens) s₁ := by
  intro H hO hS hok hA hK
  have base_of : ∀ {b : Addr} {o : Obj}, s₁.heap.get? b = some o -> H b = none -> (hidT s₁.heap H).get? b = some o := fun e n => hidT_get e n
  have noA : ∀ {b : Addr} {o : Obj} {es : Array DictEntry} {ep : Nat}, s₁.heap.get? b = some o -> o.data = .dict es ep -> H b = none := fun {b o es ep} e d => by
   cases q : H b with
   | none => rfl
   | some u =>
    have e' : b = a := hA b (by rw [q]; simp)
    subst e'
    rw [ha] at e; cases e
    have d' : Data.seq vs.toArray _ = Data.dict es ep := d
    cases d'
  have nsK : ∀ {b : Addr} {m : Str -> Option Value}, s₁.heap.Ns b m -> (hidT s₁.heap H).Ns b m := fun {b m} ⟨o, es, ep, e, d, r⟩ => ⟨o, es, ep, base_of e (noA e d), d, r⟩
  have hKb : K.In (hidT s₁.heap H) := fun b o e => base_of (KX b o e) (by
   cases q : H b with
   | none => rfl
   | some u =>
    have e' : b = a := hA b (by rw [q]; simp)
    subst e'
    rw [hK (by rw [q]; simp)] at e; cases e)
  have hM : Mod K mg (hidT s₁.heap H) := ⟨hKb, nsK hns, ⟨mb, nsK hb, hbb⟩, let ⟨mc, h1, h2⟩ := hlim; ⟨mc, nsK h1, h2⟩⟩
  have e0 : Env0 P w K mg (hidT s₁.heap H) callerA [] s₁ H := ⟨rfl, hM, fun b o e => of_hidT e, Nat.le_of_eq (hidT_size _ _), trivial, fun b hb => absurd (show b ∈ ([] : List Addr) from hb) (by simp), hok, .of_eq hg⟩
  refine codeAny_mono ((F _ hKb (nsK hns)).run callerA [] s₁ H ⟨[.ref a], []⟩ [.ref a] [.ref a] _ _ hr e0 (hbind s₁ (.ref a)) (.cons rfl .nil) (hsp H hO hS)) fun r s' h => ?_
  cases r with
  | error e => exact (hCX H e s' h).elim
  | ok fl =>
   cases fl with
   | next => exact False.elim h
   | brk => exact False.elim h
   | cont => exact False.elim h
   | ret u =>
    obtain ⟨v, H', os, bare, un, hok', r', q⟩ := h
    have q' : v = .bl true := q
    subst q'
    obtain rfl : u = Value.bool true := r'
    refine ⟨rfl, OldK.of_keep fun b o e => ?_, os, bare⟩
    cases q : H b with
    | none => exact un.keep b o e q (by intro z; exact absurd (show b ∈ ([] : List Addr) from z) (by simp)) (by simp)
    | some u =>
     rcases hO b with z | ⟨ob, xs, z⟩
     . rw [q] at z; cases z
     . have z2 := un.frzs b ob _ z
       obtain ⟨e1, _⟩ := hok b _ z
       obtain ⟨e2, _⟩ := hok' b _ z2
       rw [e] at e1; cases e1
       exact e2
 cases hk : K.lookup a with
 | some o =>
  have e := KX a o hk
  rw [ha] at e
  cases e
  refine core (fun _ => none) (fun _ => .inl rfl) (.inr ⟨_, vs.toArray, _, hk, rfl, rfl, rfl, by rw [List.size_toArray, lenV]; exact hl, by simpa using rv⟩) (fun b u z => by have z' : (none : Option HO) = some u := z; cases z') (fun b z => absurd rfl z) fun z => absurd rfl z
 | none =>
  refine core (fun b => if b = a then some (.frz { cls := .type "list", data := .seq vs.toArray } (.lst (ns.map V.int))) else none) (fun b => ?_) (.inl (.inr ⟨{ cls := .type "list", data := .seq vs.toArray }, if_pos rfl⟩)) (fun b u z => ?_) (fun b z => ?_) fun _ => hk
  . by_cases hb : b = a
    . exact .inr ⟨_, _, if_pos hb⟩
    . exact .inl (if_neg hb)
  . by_cases hb : b = a
    . have z' := (if_pos hb).symm.trans z
      cases z'
      subst hb
      exact ⟨ha, by rw [List.length_map]; exact hl, vs, _, rv, ha⟩
    . have z' := (if_neg hb).symm.trans z
      cases z'
  . by_cases hb : b = a
    . exact hb
    . exact absurd (if_neg hb) z
end L2
namespace L2
open PySem PySem.Spec PyProof.Rows
noncomputable abbrev KOf {K : PySem.W.Frag} {h : Heap} (_ : K.In h) : PySem.W.Frag := K
theorem walk_of {l : PySem.W.OpenLaw} {n k : Nat} {q : Program} {loose : List Str} {XP : (Str -> Option Value) -> Heap -> Prop} {YP : World -> Heap -> Prop} {d : DefRec} {K : Params -> PySem.W.Frag} {CX : World -> CXT} {sp : World -> Sp} {x : Str}
  (hn : l.most = some n) (hn2 : n <= sizeLine) (hdf : d.params.defaults = []) (hr : Room k callerA)
  (hY : ∀ (w : World) (h : Heap), YP w h -> (K w.params).In h)
  (F : ∀ (w : World) (mg : Str -> Option Value) (fa : Addr) (h : Heap), (K w.params).In h -> h.Ns mainGlobals mg -> mg d.name = some (.ref fa) ->
   ∃ fd : FuncData, (∀ (s : Shared) (u : Value), BindsTo s fd ⟨[u], []⟩ [(x, u)]) /\
    ∀ base : Heap, (K w.params).In base -> base.Ns mainGlobals mg -> FnOk l.prog w (K w.params) mg base (CX w) k fa fd [x] (sp w))
  (hsp : ∀ (w : World) (H : Hp) (a : Addr) (ns : List Int), ns.length <= n -> Only H -> SqL (K w.params) H a (ns.map V.int) -> sp w [.ref a] H (fun v _ => v = .bl true) fun _ _ _ => False)
  (hCX : ∀ (w : World) (H : Hp) (s : Shared) (e : Value) (s' : Shared), CX w [] H s (fun _ _ _ => False) e s' -> False) :
  PySem.W.WalkO q loose XP YP l.row.toRowW d [] (fun f vs => PySem.call f vs) := by
 refine Att.attach_call hn hdf fun w s₀ s₁ mg mb fa o pm cd doc a vs ns G Y ho hd hcd hmg hobj hints hlen hg => ?_
 have KX := hY w _ Y
 obtain ⟨fd, hb, hF⟩ := F w mg fa _ KX G.T.g hmg
 exact law_call KX G.T.g G.T.b G.T.builtins G.T.nolimit hg hobj hints (Nat.le_trans hlen hn2) hr hF hb (fun H hO hS => hsp w H a ns hlen hO hS) fun H e s' => hCX w H s₁ e s'
end L2
/- THE LAST THEOREM (shape; LID, My.* are yours):
   My.Adr: a structure of the addresses that your layer names (classes, functions); My.Txt K t: a structure (Prop) of the equations over K;
   My.txt_mk : {K} {implicit addresses ..} (e1 : nsIn K mainGlobals "law" = some (some (.ref f))) (e2 : K.lookup f = some ⟨oc, od, .func (fnOf "law" "law" params body scope dV kV doc pm an cdv ct), sl⟩) (e3 : codeIn K cdv "law" = true) .. : ∃ t, My.Txt K t
set_option maxRecDepth 100000 in
set_option maxHeartbeats 0 in
theorem PySem.Challenge.cw_LID_holds : PySem.Challenge.rw_LID.Holds := by
 w_on; o_law; k_head; (case hw => w_witness2)
 k_fill
 refine L2.walk_of (l := PySem.Challenge.rw_LID) (n := 63) (k := 40) (x := "script") (CX := fun w => ..) (sp := fun _ => My.sp_law) rfl (by decide) rfl ⟨rfl, by decide, by decide⟩ (fun w h Y => PySem.W.kIn_of Y) ?F ?S ?C
 case F =>
  intro w mg fa h KX G hmg
  have T : ∃ t, My.Txt (L2.KOf KX) t := by
   dsimp only [L2.KOf]                          -- K must stand as «<heap const> w.params» for k_is
   refine' My.txt_mk ?e1 ?e2 ?e3 ..
   (case e1 => PySem.W.k_is)                    -- in the order: a name -> its address -> its object -> its parts
   (case e2 => PySem.W.k_is)
   ..
  obtain ⟨t, T⟩ := T
  have e0 := hmg.symm.trans (PySem.W.mg_of KX G T.law)
  cases e0                                       -- fa is the law's own address
  exact ⟨_, fun s u => .of_eq rfl, fun base kb nb => My.law_fn T kb nb⟩     -- if «.of_eq rfl» comes too early: refine' ⟨_, ?b, fun base kb nb => My.law_fn T kb nb⟩; exact fun s u => .of_eq rfl
 case S => exact fun w H a ns hl hO hS => ..
 case C => exact ..
(the tactic k_is has no namespace: write k_is) -/
namespace L2
open PySem PySem.Spec PyProof.Rows
noncomputable def inClass (s : Stmt) (j : Nat) : Stmt := match s with
 | .ClassDef _ _ _ body _ _ _ _ _ _ _ => body.getD j (.Pass ⟨0, 0, 0, 0⟩)
 | _ => .Pass ⟨0, 0, 0, 0⟩
noncomputable def defArgs (s : Stmt) : Arguments := match s with
 | .FunctionDef _ a _ _ _ _ _ _ _ _ => a
 | _ => { posonlyargs := [], args := [], vararg := none, kwonlyargs := [], kw_defaults := [], kwarg := none, defaults := [] }
noncomputable def defBody (s : Stmt) : List Stmt := match s with
 | .FunctionDef _ _ b _ _ _ _ _ _ _ => b
 | _ => []
noncomputable def defScope (s : Stmt) : Scope := match s with
 | .FunctionDef _ _ _ _ _ _ sc _ _ _ => sc
 | _ => { kind := .function, names := [], isGenerator := false, isCoroutine := false }
noncomputable abbrev CX0 : CXT := fun _ _ _ _ _ _ => False
noncomputable abbrev E0 : XK := fun _ _ _ => False
theorem pass0 {X : Cx} : Passes CX0 X E0 := fun _ _ _ _ _ _ _ h => h.elim
structure Fun (K : PySem.W.Frag) (x qual : Str) (st : Stmt) (f : Addr) (fd : FuncData) : Prop where
 ex : ∃ (oc : Value) (od : Option Addr) (kV doc pm : Value) (an : Option Addr) (cdv ct : Value) (osl : Array (Option Value)),
  fd = PySem.W.fnOf x qual (defArgs st) (defBody st) (defScope st) .none kV doc pm an cdv ct /\ K.lookup f = some ⟨oc, od, .func fd, osl⟩ /\ PySem.W.codeIn K cdv qual = true
 kp : PySem.W.keepIn K (.ref f) = true
section
variable {P : Program} {w : World} {K : PySem.W.Frag} {mg : Str -> Option Value} {base : Heap}
theorem Fun.ok {x qual : Str} {st : Stmt} {f : Addr} {fd : FuncData} {N ps : List Str} {k : Nat} {sp : Sp} (F : Fun K x qual st f fd) (S : FnScope N ps (defScope st)) (len : ∀ vs H Q E, sp vs H Q E -> vs.length = ps.length)
  (hbody : ∀ (cdv : Value) (A : Around) (outer : List Env) (s : Shared) (H : Hp) (vs : List V) (Q : VK) (E : XK), Room k (A.deeper (envOfC qual (defScope st) s.heap.objs.size f cdv)) -> sp vs H Q E ->
   ∃ t, PSs (cxOf CX0 P w K mg base N qual (defScope st) f cdv A outer s H E).nox (defBody st) t /\ t { nx := fun _ H' => Q .non H', rt := Q } (start N vs) H) : FnOk P w K mg base CX0 (k + 1) f fd ps sp := by
 obtain ⟨oc, od, kV, doc, pm, an, cdv, ct, osl, rfl, lk, hcd⟩ := F.ex
 refine fn_of lk hcd S len fun A outer s H vs Q E hr hsp => ?_
 obtain ⟨t, h, q⟩ := hbody cdv A outer s H vs Q E hr hsp
 exact ⟨t, h.nox, q⟩
theorem Fun.binds {x qual : Str} {st : Stmt} {f : Addr} {fd : FuncData} {ps : List Str} (F : Fun K x qual st f fd)
  (h : ∀ (kV doc pm : Value) (an : Option Addr) (cdv ct : Value) (us : List Value), us.length = ps.length -> bindArgs (PySem.W.fnOf x qual (defArgs st) (defBody st) (defScope st) .none kV doc pm an cdv ct) ⟨us, []⟩ = pure (ps.zip us)) : Binds K fd ps [] := by
 obtain ⟨oc, od, kV, doc, pm, an, cdv, ct, osl, rfl, lk, hcd⟩ := F.ex
 exact .all (h kV doc pm an cdv ct)
theorem fun_mk {x qual : Str} {st : Stmt} {f : Addr} {oc : Value} {od an : Option Addr} {osl : Array (Option Value)} {kV doc pm cdv ct : Value} (l : K.lookup f = some ⟨oc, od, .func (PySem.W.fnOf x qual (defArgs st) (defBody st) (defScope st) .none kV doc pm an cdv ct), osl⟩)
  (c : PySem.W.codeIn K cdv qual = true) (k : PySem.W.keepIn K (.ref f) = true) : Fun K x qual st f (PySem.W.fnOf x qual (defArgs st) (defBody st) (defScope st) .none kV doc pm an cdv ct) := ⟨⟨oc, od, kV, doc, pm, an, cdv, ct, osl, rfl, l, c⟩, k⟩
end
section
variable {X : Cx}
theorem pv (i : Nat) {x : Str} {pos : Pos} (hN : X.N[i]? = some x := by rfl) (hv : Vis X.env.scope x := by first | exact Or.inl rfl | exact Or.inr (Or.inl rfl) | exact Or.inr (Or.inr rfl)) (hd : (x == ("__debug__" : Str)) = false := by decide)
  (hcd : (x == ("__classdict__" : Str)) = false := by decide) : PE X (.Name x pos) (tVar i) := pe_var hN hv hd hcd
end
noncomputable def Same (H H' : Hp) : Prop := ∀ b o, H b = some o -> H' b = some o
theorem Same.refl (H : Hp) : Same H H := fun _ _ h => h
theorem Same.trans {H H1 H2 : Hp} (a : Same H H1) (b : Same H1 H2) : Same H H2 := fun c o h => b c o (a c o h)
theorem Same.free {H H' : Hp} (e : Same H H') {l : Addr} (h : H' l = Option.none) : H l = Option.none := by
 cases q : H l with
 | none => rfl
 | some o =>
  rw [e l o q] at h
  cases h
theorem Same.seq {K : PySem.W.Frag} {H H' : Hp} {a : Addr} {xs : List V} (e : Same H H') (h : SqL K H a xs) : SqL K H' a xs := by
 rcases h with (h | ⟨o, h⟩) | h
 . exact .inl (.inl (e _ _ h))
 . exact .inl (.inr ⟨o, e _ _ h⟩)
 . exact .inr h
end L2
namespace L2
open PySem PySem.Spec PyProof.Rows
theorem closure_go (env : Env) : ∀ (names : List (Str × NameKind)) (acc : List (Str × Addr)), (∀ y ∈ names, y.2 = .free -> ∃ c, env.cells.lookup y.1 = some c) -> (∀ x c, acc.lookup x = some c -> env.cells.lookup x = some c) ->
  ∃ cl, (forIn names acc fun y (cs : List (Str × Addr)) => if (y.2 == .free) = true then (do let c <- cellOf env y.1; pure (ForInStep.yield ((y.1, c) :: cs))) else pure (ForInStep.yield cs) : Sem (List (Str × Addr))) = pure cl /\
   (∀ x c, cl.lookup x = some c -> env.cells.lookup x = some c) /\ (∀ y ∈ names, y.2 = .free -> (cl.lookup y.1).isSome = true) /\ (∀ x, (acc.lookup x).isSome = true -> (cl.lookup x).isSome = true)
 | [], acc, _, ha => ⟨acc, by simp only [List.forIn_nil], ha, (fun _ h => nomatch h), (fun _ h => h)⟩
 | (n, k) :: r, acc, h, ha => by
  have hr : ∀ y ∈ r, y.2 = .free -> ∃ c, env.cells.lookup y.1 = some c := fun y hy => h y (List.mem_cons_of_mem _ hy)
  by_cases hk : k = .free
  . subst hk
    obtain ⟨c, hc⟩ := h (n, .free) List.mem_cons_self rfl
    have ha' : ∀ x c', ((n, c) :: acc).lookup x = some c' -> env.cells.lookup x = some c' := fun x c' e => by
     rw [List.lookup_cons] at e
     cases hx : x == n with
     | true =>
      rw [hx] at e
      cases e
      rw [eq_of_beq hx]
      exact hc
     | false =>
      rw [hx] at e
      exact ha x c' e
    obtain ⟨cl, e1, e2, e3, e4⟩ := closure_go env r ((n, c) :: acc) hr ha'
    have up : ∀ x, (((n, c) :: acc).lookup x).isSome = true -> (cl.lookup x).isSome = true := e4
    refine ⟨cl, ?_, e2, fun y hy hf => ?_, fun x hx => up x ?_⟩
    . rw [List.forIn_cons]
      have ec : cellOf env n = pure c := by unfold cellOf; rw [hc]
      simp only [beq_self_eq_true, if_true, ec]
      exact e1
    . rcases List.mem_cons.mp hy with rfl | hy
      . exact up n (by rw [List.lookup_cons]; simp)
      . exact e3 y hy hf
    . rw [List.lookup_cons]
      cases x == n <;> simp [hx]
  . obtain ⟨cl, e1, e2, e3, e4⟩ := closure_go env r acc hr ha
    refine ⟨cl, ?_, e2, fun y hy hf => ?_, e4⟩
    . rw [List.forIn_cons]
      have hb : (k == NameKind.free) = false := by simpa using hk
      simp only [hb, Bool.false_eq_true, if_false]
      exact e1
    . rcases List.mem_cons.mp hy with rfl | hy
      . exact absurd hf hk
      . exact e3 y hy hf
theorem closure_of {scope : Scope} {env : Env} (h : ∀ y ∈ scope.names, y.2 = .free -> ∃ c, env.cells.lookup y.1 = some c) :
  ∃ cl, closureFor scope env = pure cl /\ (∀ x c, cl.lookup x = some c -> env.cells.lookup x = some c) /\ (∀ y ∈ scope.names, y.2 = .free -> (cl.lookup y.1).isSome = true) := by
 obtain ⟨cl, e1, e2, e3, _⟩ := closure_go env scope.names [] h (fun x c e => by simp at e)
 refine ⟨cl, ?_, e2, e3⟩
 show ((forIn scope.names [] fun y (cs : List (Str × Addr)) => if (y.2 == .free) = true then (do let c <- cellOf env y.1; pure (ForInStep.yield ((y.1, c) :: cs))) else pure (ForInStep.yield cs) : Sem (List (Str × Addr))) >>= pure) = _
 rw [e1]
 rfl
theorem relabel_free {env : Env} : ∀ {names : List (Str × NameKind)} {x : Str}, (∀ y ∈ names, y.2 ≠ .cell) ->
  ((names.map fun (n, k) => if (k == NameKind.free && env.scope.kind == .function && env.kindOf n == some .cell) then (n, NameKind.cell) else (n, k)).lookup x = some .cell \/
   (names.map fun (n, k) => if (k == NameKind.free && env.scope.kind == .function && env.kindOf n == some .cell) then (n, NameKind.cell) else (n, k)).lookup x = some .free) ->
  (x, NameKind.free) ∈ names
 | [], _, _, h => by simp at h
 | (n, k) :: r, x, hc, h => by
  have ih := @relabel_free env r x (fun y hy => hc y (List.mem_cons_of_mem _ hy))
  have hk := hc (n, k) List.mem_cons_self
  by_cases hx : (x == n) = true
  . have e : x = n := eq_of_beq hx
    subst e
    by_cases hf : k = .free
    . subst hf; exact List.mem_cons_self
    . exfalso
      have hb : (k == NameKind.free) = false := by simpa using hf
      simp only [List.map_cons, hb, Bool.false_and, Bool.false_eq_true, if_false, List.lookup_cons, beq_self_eq_true] at h
      rcases h with h | h
      . exact hk (Option.some.inj h)
      . exact hf (Option.some.inj h)
  . have hx' : (x == n) = false := by simpa using hx
    refine List.mem_cons_of_mem _ (ih ?_)
    rw [List.map_cons] at h
    have hd : ∀ (k' : NameKind) (l : List (Str × NameKind)), List.lookup x ((n, k') :: l) = List.lookup x l := fun k' l => by rw [List.lookup_cons, hx']
    by_cases hc2 : (k == NameKind.free && env.scope.kind == .function && env.kindOf n == some .cell) = true
    . have e : (if (k == NameKind.free && env.scope.kind == .function && env.kindOf n == some .cell) = true then (n, NameKind.cell) else (n, k)) = (n, NameKind.cell) := if_pos hc2
      simp only [e, hd] at h
      exact h
    . have e : (if (k == NameKind.free && env.scope.kind == .function && env.kindOf n == some .cell) = true then (n, NameKind.cell) else (n, k)) = (n, k) := if_neg hc2
      simp only [e, hd] at h
      exact h
noncomputable def blk (X : Cx) (bs nb : List Str) (scope : Scope) (cl : List (Str × Addr)) (C : Addr) (fp : List Addr) (s : Shared) (H : Hp) (pins : List (Addr × Obj)) : Cx where
 prog := X.prog
 w := X.w
 K := X.K
 mg := X.mg
 base := X.base
 A := X.A
 N := bs ++ nb
 s₀ := s
 H₀ := H
 env := compEnvC scope cl C X.env
 outer := X.stack
 stack := X.stack
 ex := fp
 fn := fun _ => false
 calm := X.calm
 pn := X.pn ++ pins
 xe := fun _ _ => False
structure BlkOk (X : Cx) (bs nb : List Str) (scope : Scope) : Prop where
 kind : scope.kind = .function
 nocell : ∀ y ∈ scope.names, y.2 ≠ .cell
 names : ∀ y ∈ scope.names, y.2 = .local -> scope.names.lookup y.1 = some .local
 vis : ∀ y ∈ scope.names, y.2 = .free -> X.env.scope.names.lookup y.1 = some .cell \/ X.env.scope.names.lookup y.1 = some .free
 apart : ∀ x ∈ nb, ∀ y ∈ scope.names, y.1 = x -> y.2 ≠ .local
 len : nb.length = X.N.length
 nms : ∀ (j : Nat) (x : Str), nb[j]? = some x -> X.N[j]? = some x \/ ∀ y ∈ scope.names, y.1 ≠ x
noncomputable def blkChk (N nb : List Str) (fsc sc : Scope) : Bool :=
 (decide (nb.length = N.length) && (nb.zip N).all fun p => decide (p.1 = p.2) || sc.names.all fun y => !decide (y.1 = p.1)) && ((decide (sc.kind = .function) && sc.names.all fun y => !decide (y.2 = .cell)) && (sc.names.all fun y => !decide (y.2 = .local) || decide (sc.names.lookup y.1 = some .local)) &&
  (sc.names.all fun y => !decide (y.2 = .free) || (decide (fsc.names.lookup y.1 = some .cell) || decide (fsc.names.lookup y.1 = some .free))) && nb.all fun x => sc.names.all fun y => !decide (y.1 = x) || !decide (y.2 = .local))
theorem blk_of {X : Cx} {bs nb : List Str} {scope : Scope} (h : blkChk X.N nb X.env.scope scope = true) : BlkOk X bs nb scope := by
 unfold blkChk at h
 simp only [Bool.and_eq_true, List.all_eq_true, Bool.or_eq_true, Bool.not_eq_true', decide_eq_true_eq, decide_eq_false_iff_not] at h
 obtain ⟨⟨h6, h7⟩, ⟨⟨⟨h1, h2⟩, h3⟩, h4⟩, h5⟩ := h
 refine ⟨h1, h2, fun y hy e => ?_, fun y hy e => ?_, fun x hx y hy e1 e2 => ?_, h6, fun j x hj => ?_⟩
 . rcases h3 y hy with q | q
   . exact absurd e q
   . exact q
 . rcases h4 y hy with q | q
   . exact absurd e q
   . exact q
 . rcases h5 x hx y hy with q | q
   . exact q e1
   . exact q e2
 . have hl : j < nb.length := (List.getElem?_eq_some_iff.mp hj).1
   have hN : X.N[j]? = some (X.N[j]'(by omega)) := List.getElem?_eq_getElem _
   have hz : (nb.zip X.N)[j]? = some (x, X.N[j]'(by omega)) := List.getElem?_zip_eq_some.mpr ⟨hj, hN⟩
   rcases h7 _ (List.mem_of_getElem? hz) with q | q
   . left; rw [hN]; exact congrArg some q.symm
   . right; exact q
section
variable {X : Cx} {bs nb : List Str} {scope : Scope} {cl : List (Str × Addr)} {C : Addr} {fp : List Addr} {pins : List (Addr × Obj)} {σ : St} {H : Hp} {s : Shared}
theorem blk_ok (I : Inv X pins σ H s) (B : BlkOk X bs nb scope) (c1 : ∀ x c, cl.lookup x = some c -> X.env.cells.lookup x = some c) (c2 : ∀ y ∈ scope.names, y.2 = .free -> (cl.lookup y.1).isSome = true)
  (hC : s.heap.objs.size <= C) (hf : ∀ b ∈ fp, FpOk X pins H b) (hlt : ∀ b ∈ fp, b < s.heap.objs.size) : (blk X bs nb scope cl C fp s H pins).Ok where
 mod := I.ok.mod
 kind := B.kind
 glob := I.ok.glob
 blt := I.ok.blt
 above := hC
 inj := fun x y c h1 h2 => I.ok.inj x y c (c1 x c h1) (c1 y c h2)
 has := fun x hx => by
  have hm := relabel_free (env := X.env) B.nocell hx
  exact Option.isSome_iff_exists.mp (c2 (x, .free) hm rfl)
 cab := fun x c h => absurd h (by intro z; cases z)
 hd := I.ok.hd
 frames := I.ok.frames
 stk := .inl rfl
 exf := fun b hb => ⟨Nat.ne_of_lt (Nat.lt_of_lt_of_le (hlt b hb) hC), fun x c e => (hf b hb).2.2.2.2.1 x c (c1 x c e)⟩
 bs := I.bs
 bsz := Nat.le_trans I.ok.bsz I.sz
 noex := fun b o e hb => by
  rcases (hf b hb).2.2.2.1 with z | z
  . exact I.ok.noex b o e z
  . exact absurd (Nat.lt_of_lt_of_le (Heap.lt_size e) (Nat.le_trans I.ok.bsz z)) (Nat.lt_irrefl _)
 exfs := fun b hb hs => by
  rcases List.mem_cons.mp (I.stkSub b hs) with z | z
  . exact (hf b hb).2.1 z
  . exact (hf b hb).2.2.1 z
 funs := I.stack
 frf := I.stkFree
noncomputable def blkSt (bs : List Str) (σ : St) : St := List.replicate bs.length none ++ σ
theorem blk_inv {h' : Heap} {t' : Nat} {m : Str -> Option Value} (I : Inv X pins σ H s) (B : BlkOk X bs nb scope) (c1 : ∀ x c, cl.lookup x = some c -> X.env.cells.lookup x = some c) (c2 : ∀ y ∈ scope.names, y.2 = .free -> (cl.lookup y.1).isSome = true)
  (hC : s.heap.objs.size <= C) (hf : ∀ b ∈ fp, FpOk X pins H b) (hlt : ∀ b ∈ fp, b < s.heap.objs.size)
  (k : ∀ b u, s.heap.get? b = some u -> h'.get? b = some u) (hn : h'.Ns C m) : Inv (blk X bs nb scope cl C fp s H pins) [] (blkSt bs σ) H { s with heap := h', toks := t' } := by
 refine ⟨blk_ok I B c1 c2 hC hf hlt, rfl, I.bare, Un.kept k, ⟨m, hn, fun i x v e1 e2 e3 => ?_⟩, fun x c e => ?_, I.hok.fresh hC, fun x c e => I.freeC x c (c1 x c e), fun p hp => ?_, I.hok.kept k, ?_⟩
 . have e1' : (bs ++ nb)[i]? = some x := e1
   unfold blkSt at e2
   by_cases hi : i < bs.length
   . rw [List.getElem?_append_left (by simpa using hi), List.getElem?_replicate, if_pos hi] at e2
     cases e2
   . rw [List.getElem?_append_right (by simpa using hi), List.length_replicate] at e2
     rw [List.getElem?_append_right (by simpa using hi)] at e1'
     have hxN : x ∈ nb := List.mem_of_getElem? e1'
     have hm : (x, NameKind.free) ∈ scope.names := by
      rcases e3 with e3 | e3
      . exfalso
        have e3' : ((scope.names.map fun (n, k) => if (k == NameKind.free && X.env.scope.kind == .function && X.env.kindOf n == some .cell) then (n, NameKind.cell) else (n, k))).lookup x = some .local := e3
        obtain ⟨⟨n, kd⟩, hy, he⟩ := List.mem_map.mp (PySem.mem_of_lookup e3')
        by_cases hcc : (kd == NameKind.free && X.env.scope.kind == .function && X.env.kindOf n == some .cell) = true
        . simp only [hcc, if_true] at he
          cases he
        . simp only [hcc, if_false] at he
          cases he
          exact B.apart x hxN (x, .local) hy rfl rfl
      . exact relabel_free (env := X.env) B.nocell e3
     have hv : Vis X.env.scope x := .inr (B.vis _ hm rfl)
     have e1' : X.N[i - bs.length]? = some x := (B.nms _ x e1').resolve_right fun z => z _ hm rfl
     obtain ⟨m0, _, hl⟩ := I.loc
     obtain ⟨u, r, l⟩ := hl _ x v e1' e2 hv
     refine ⟨u, r, ?_⟩
     have hkx : (blk X bs nb scope cl C fp s H pins).env.kindOf x = some .cell \/ (blk X bs nb scope cl C fp s H pins).env.kindOf x = some .free := by
      rcases e3 with e3 | e3
      . exfalso
        have e3' : ((scope.names.map fun (n, k) => if (k == NameKind.free && X.env.scope.kind == .function && X.env.kindOf n == some .cell) then (n, NameKind.cell) else (n, k))).lookup x = some .local := e3
        obtain ⟨⟨n, kd⟩, hy, he⟩ := List.mem_map.mp (PySem.mem_of_lookup e3')
        by_cases hcc : (kd == NameKind.free && X.env.scope.kind == .function && X.env.kindOf n == some .cell) = true
        . simp only [hcc, if_true] at he
          cases he
        . simp only [hcc, if_false] at he
          cases he
          exact B.apart x hxN (x, .local) hy rfl rfl
      . exact e3
     rcases l with ⟨hk, _⟩ | ⟨_, c, hc, hcell⟩
     . exfalso
       have hk' : X.env.scope.names.lookup x = some .local := hk
       rcases B.vis _ hm rfl with z | z
       . rw [show X.env.scope.names.lookup x = some .cell from z] at hk'; cases hk'
       . rw [show X.env.scope.names.lookup x = some .free from z] at hk'; cases hk'
     . obtain ⟨c', hc'⟩ := Option.isSome_iff_exists.mp (c2 _ hm rfl)
       have : c' = c := Option.some.inj ((c1 _ _ hc').symm.trans hc)
       subst this
       obtain ⟨o, ho, hd⟩ := hcell
       exact .inr ⟨hkx, c', hc', o, k _ _ ho, hd⟩
 . obtain ⟨v, o, ho, hd⟩ := I.cell x c (c1 x c e)
   exact ⟨v, o, k _ _ ho, hd⟩
 . have hp' : p ∈ X.pn ++ pins := by simpa [blk] using hp
   obtain ⟨e, n, ne, nf, d⟩ := I.pin p hp'
   refine ⟨k _ _ e, n, Nat.ne_of_lt (Nat.lt_of_lt_of_le (Heap.lt_size e) hC), fun z => ?_, d⟩
   rcases List.mem_cons.mp (I.stkSub _ z) with z | z
   . exact ne z
   . exact nf z
 . unfold blkSt
   show _ = (bs ++ nb).length
   rw [List.length_append, List.length_append, List.length_replicate, I.len, B.len]
theorem Inv.track {D : Addr} {o : HO} (I : Inv X pins σ H s) (hn : H D = none) (hL : D ≠ X.env.locals) (h1 : D ∈ X.ex \/ X.s₀.heap.objs.size <= D) (h2 : ∀ x c, X.env.cells.lookup x = some c -> c ≠ D) (h3 : ∀ p ∈ X.pn ++ pins, p.1 ≠ D)
  (new : ObjOk X.prog X.w (upd H D o) s.heap D o) : Inv X pins σ (upd H D o) s := by
 have hup : ∀ b u, H b = some u -> upd H D o b = some u := fun b u e => by rw [upd_ne (ne_of_none e hn)]; exact e
 have := I.step (H' := upd H D o) (h' := s.heap) (g' := s.gens) (d' := s.drawn) (t' := s.toks) (ch := [D]) (fun b hb => ?_) (fun b ob _ _ _ e _ => e) (fun b ob _ _ _ e _ => ⟨ob.slots, e⟩) (fun b ob hc e n => ?_) (fun b ob _ e => ⟨ob, e⟩)
  (fun b xs e => hup b _ e) (fun b ob u e => hup b _ e) (fun b ps e => ⟨#[], by rw [hup b _ e]; simp⟩) (fun m hm => hm) (fun b u e => ?_) I.bare
 . exact this
 . have e : b = D := by simpa using hb
   subst e
   exact ⟨h1, hL, h2, h3⟩
 . rw [upd_ne (by simpa using hc)]; exact n
 . by_cases hb : b = D
   . subst hb
     rw [upd_same] at e
     cases e
     exact new
   . rw [upd_ne hb] at e
     exact (I.hok b u e).stay (fun _ _ _ q => q) (fun c q => hup c _ q) fun c xs q => hup c _ q
end
noncomputable def PIfs (X : Cx) (ifs : List Expr) (t : TT) : Prop :=
 ∀ (pins : List (Addr × Obj)) (s : Shared) (σ : St) (H : Hp) (Q : Bool -> Hp -> Prop) (E : Value -> Shared -> Prop), (∀ e s', X.xe e s' -> E e s') -> Inv X pins σ H s -> t σ H Q ->
  wpAny (model X.prog X.w) X.A (forIn ifs true fun c r => if r = true then do let ok <- isTrue c X.env (eval c X.env); pure (ForInStep.yield ok) else pure (ForInStep.yield r)) (TP X pins σ Q) E s
noncomputable def tIfs0 : TT := fun _ H Q => Q true H
theorem pifs_nil {X : Cx} : PIfs X [] tIfs0 := fun _ _ _ H _ _ _ I h => wpAny_tests_nil ⟨H, I, h⟩
theorem pifs_one {X : Cx} {c : Expr} {t : TT} (h : PT X c t) : PIfs X [c] t := fun pins s σ H Q E hE I q => wpAny_tests_one (wpAny_mono (h pins s σ H Q I q) (fun _ _ z => z) hE)
section
variable {prog : Program} {w : World} {A : Around} {R : Result -> Shared -> Prop} {s : Shared}
theorem compLoop_go {elt target iter : Expr} {ifs : List Expr} {scope : Scope} {pos : Pos} {it acc : Value} {env : Env} (I : Nat -> Shared -> Prop)
  (turn : ∀ n s, I n s -> wpAny (model prog w) A (pyNext it) (fun r s₁ => match r with
   | none => R (.ok .next) s₁
   | some v => wpAny (model prog w) A (letOwnedTupleGo target it v) (fun _ s₀ => wpAny (model prog w) A (assign target env v) (fun _ s₂ =>
     wpAny (model prog w) A (forIn ifs true fun c r => if r = true then do let ok <- isTrue c env (eval c env); pure (ForInStep.yield ok) else pure (ForInStep.yield r)) (fun ok s₃ =>
      if ok = true then wpAny (model prog w) A (eval elt env) (fun x s₄ =>
       wpAny (model prog w) A (call (.builtin "list.append") [acc, x]) (fun _ s₅ => ∃ m, m < n /\ I m s₅) (notedBy (model prog w) A env fun e s' => R (.error e) s') s₄) (notedBy (model prog w) A env fun e s' => R (.error e) s') s₃
      else ∃ m, m < n /\ I m s₃) (notedBy (model prog w) A env fun e s' => R (.error e) s') s₂) (notedBy (model prog w) A env fun e s' => R (.error e) s') s₀) (notedBy (model prog w) A env fun e s' => R (.error e) s') s₁) (notedBy (model prog w) A env fun e s' => R (.error e) s') s)
  (n : Nat) (h : I n s) :
  codeAny (model prog w) A (.compLoop (.ListComp elt [⟨target, iter, ifs, 0⟩] scope pos) 0 it acc env) R s := by
 refine codeAny_loop rfl I (fun n s hI => ?_) n h
 show wpAny _ A ((compTurn (.ListComp elt [⟨target, iter, ifs, 0⟩] scope pos) 0 it acc env).onRaise (fun x => do noteFrame x env; theTreesLotGoes x)) _ _ s
 refine wpAny_noted ?_
 rw [compTurn_list]
 refine wpAny_bind (wpAny_standAt (wpAny_bind (wpAny_mono (turn n s hI) (fun r s₁ h₁ => ?_) fun _ _ h' => h')))
 cases r with
 | none => exact wpAny_pure h₁
 | some v =>
  refine wpAny_bind (wpAny_mono h₁ (fun _ s₀ h₀ => ?_) fun _ _ h' => h')
  refine wpAny_bind (wpAny_mono h₀ (fun _ s₂ h₂ => wpAny_bind (wpAny_mono h₂ (fun ok s₃ h₃ => ?_) fun _ _ h' => h')) fun _ _ h' => h')
  cases ok with
  | false => exact wpAny_pure ⟨rfl, h₃⟩
  | true =>
   exact wpAny_bind (wpAny_bind (wpAny_mono h₃ (fun x s₄ h₄ => wpAny_bind (wpAny_mono h₄ (fun _ s₅ h₅ => wpAny_pure (wpAny_pure ⟨rfl, h₅⟩)) fun _ _ h' => h')) fun _ _ h' => h'))
end
noncomputable def GOwn (n : Nat) (g : TG) : Prop := ∀ x σ H Q, g x σ H Q -> g x σ H fun σ2 H2 => Q σ2 H2 /\ σ2.length = σ.length /\ ∀ j, n <= j -> σ2[j]? = σ[j]?
theorem gown_name {n i : Nat} (h : i < n := by decide) : GOwn n (gName i) := fun x σ H Q q => ⟨q, by simp, fun j hj => by rw [List.getElem?_set_ne (by omega)]⟩
noncomputable def cWalk (J : It) (bs : List Str) (g : TG) (tt : TT) (te : TE) (σ : St) (Q : VK) (H1 : Hp) : Prop := ∃ (n : Nat) (W : Nat -> List V -> Hp -> Prop), n <= sizeLine /\ W 0 [] H1 /\ ∀ i ys H, W i ys H ->
 ((J.stop i H /\ ∀ p, H p = none -> Q (.ref p) (upd H p (.lst ys))) \/ (J.go i H /\ i < n /\ ∀ x H', J.yld i H x H' -> g x (blkSt bs σ) H' fun σ2 H2 => tt σ2 H2 fun b H3 => if b = true then te σ2 H3 (fun y H4 => W (i + 1) (ys ++ [y]) H4) else W (i + 1) ys H3))
noncomputable def tComp (bs : List Str) (wi : TI) (g : TG) (tt : TT) (te : TE) : TE := fun σ H Q => wi σ H fun J H1 => cWalk J bs g tt te σ Q H1
theorem Vals.snoc {xs : List V} {us : List Value} {x : V} {u : Value} (r : Vals xs us) (h : RelV x u) : Vals (xs ++ [x]) (us ++ [u]) := r.append (.cons h .nil)
theorem wp_comp {X : Cx} {bs nb : List Str} {elt tg iter : Expr} {ifs : List Expr} {scope : Scope} {pos : Pos} {wi : TI} {g : TG} {tt : TT} {te : TE} {use : Option (Value -> Sem Unit)} {R : Value -> Shared -> Prop} (hc : X.calm = true) (B : BlkOk X bs nb scope) (hi : PI X tg iter wi)
  (go : GOwn bs.length g) (hg : ∀ cl C fp s H pins, PG (blk X bs nb scope cl C fp s H pins) tg g) (ht : ∀ cl C fp s H pins, PIfs (blk X bs nb scope cl C fp s H pins) ifs tt) (he : ∀ cl C fp s H pins, PE (blk X bs nb scope cl C fp s H pins) elt te)
  (hs : ∀ x, foldedSetIterable iter X.env x = pure x) (pins : List (Addr × Obj)) (s : Shared) (σ : St) (H : Hp) (Q : VK) (I : Inv X pins σ H s) (h : tComp bs wi g tt te σ H Q)
  (hfin : ∀ (D C : Addr) (s' : Shared) (H' : Hp) (f : Flow), Inv X pins σ H' s' -> Q (.ref D) H' -> FpOk X pins H' C -> (∃ m, s'.heap.Ns C m) -> compPost (model X.prog X.w) X.A X.xe use R (.ref D) C (.ok f) s') :
  wpAny (model X.prog X.w) X.A (comprehension (.ListComp elt [⟨tg, iter, ifs, 0⟩] scope pos) scope X.env (firstIterPos [⟨tg, iter, ifs, 0⟩] pos) (newList []) (firstAsync [⟨tg, iter, ifs, 0⟩]) (firstIter [⟨tg, iter, ifs, 0⟩] X.env) use) R X.xe s := by
 obtain ⟨cl, hcl, c1, c2⟩ := closure_of (scope := scope) (env := X.env) (fun y hy hf => I.ok.has y.1 (B.vis y hy hf))
 refine wpAny_comprehension_free (use := use) rfl hs hcl B.kind B.names (thn (hi pins s σ H _ I h) fun v s1 h1 => thn h1 fun itv s2 h2 => ?_)
 obtain ⟨it, fp, tn, J, H2, e, I2, T, st2, f2, n, W, hn, w0, turn⟩ := h2
 subst e
 have hlt : ∀ b ∈ fp, b < s2.heap.objs.size := fun b hb => by obtain ⟨o, e, _⟩ := T.obj _ _ st2 b hb; exact Heap.lt_size e
 refine wpAny_newObj_type (wpAny_newFunctionEnv B.nocell (by intro y hy; simp at hy) (fun h₁ hns₁ hsb₁ => ?_) B.kind)
 dsimp only at hns₁ hsb₁ ⊢
 generalize hH2 : s2.heap.push { cls := .type "list", dict := none, data := .seq ([] : List Value).toArray } = G2 at hns₁ hsb₁ ⊢
 have hCs : G2.objs.size = s2.heap.objs.size + 1 := by rw [<- hH2, Heap.size_push]
 have hDC : s2.heap.objs.size ≠ G2.objs.size := by rw [hCs]; exact Nat.ne_of_lt (Nat.lt_succ_self _)
 have hCle : s2.heap.objs.size <= G2.objs.size := by rw [hCs]; exact Nat.le_succ _
 have old : ∀ b o, s2.heap.get? b = some o -> h₁.get? b = some o := fun b o e =>
  hsb₁.extBut b o (by rw [hCs]; exact Nat.ne_of_lt (Nat.lt_succ_of_lt (Heap.lt_size e))) (Heap.get?_push_of_some _ (hH2 ▸ Heap.get?_push_of_some _ e))
 have hacc : h₁.get? s2.heap.objs.size = some { cls := .type "list", data := .seq ([] : List Value).toArray 0 } := hsb₁.extBut _ _ hDC (Heap.get?_push_of_some _ (hH2 ▸ Heap.get?_push_size _ rfl))
 have hDn : ∀ b ∈ fp, b ≠ s2.heap.objs.size := fun b hb => Nat.ne_of_lt (hlt b hb)
 have J0 := blk_inv (bs := bs) (t' := s2.toks + ([] : List (Str × Value)).length) I2 B c1 c2 hCle f2 hlt old hns₁
 generalize hX : blk X bs nb scope cl G2.objs.size fp s2 H2 pins = X' at J0
 have fpB : ∀ {H' : Hp} {pl : List (Addr × Obj)}, (∀ b ∈ fp, H' b = none) -> (∀ p ∈ pl, p.1 ∉ fp) -> ∀ b ∈ fp, FpOk X' pl H' b := fun {H' pl} hz hp b hb => by
  subst hX
  refine ⟨hz b hb, Nat.ne_of_lt (Nat.lt_of_lt_of_le (hlt b hb) hCle), J0.ok.exfs b hb, .inl hb, fun x c e => (f2 b hb).2.2.2.2.1 x c (c1 x c e), fun p hq => ?_⟩
  rcases List.mem_append.mp hq with z | z
  . exact (f2 b hb).2.2.2.2.2 p z
  . intro e; exact hp p z (e ▸ hb)
 have Dfs : s2.heap.objs.size ∉ X'.fs := fun hb => by
  subst hX
  rcases List.mem_cons.mp (I2.stkSub _ hb) with z | z
  . exact absurd I2.lt (by rw [<- z]; exact Nat.lt_irrefl _)
  . exact I2.nofs (Nat.le_refl _) z
 have Dcell : ∀ x c, X.env.cells.lookup x = some c -> c ≠ s2.heap.objs.size := fun x c e z => by
  obtain ⟨v, q⟩ := I2.cell x c e
  exact absurd q.lt (by rw [z]; exact Nat.lt_irrefl _)
 have Dpin : ∀ p ∈ X.pn ++ pins, p.1 ≠ s2.heap.objs.size := fun p hp => Nat.ne_of_lt (Heap.lt_size (I2.pin p hp).1)
 have Dloc : s2.heap.objs.size ≠ X'.env.locals := by subst hX; exact hDC
 have pinD : ∀ {σ' : St} {H' : Hp} {s' : Shared} {o : Obj}, Inv X' [] σ' H' s' -> s'.heap.get? s2.heap.objs.size = some o -> H' s2.heap.objs.size = none -> (∀ v, o.data ≠ .cell v) -> Inv X' [(s2.heap.objs.size, o)] σ' H' s' := fun {σ' H' s' o} I' e hz hd =>
  I'.pins_of fun p hp => by
   have ep : p = (s2.heap.objs.size, o) := by simpa using hp
   subst ep
   exact ⟨e, hz, Dloc, Dfs, hd⟩
 have loop : ∀ s₃ : Shared, s₃ = { s2 with heap := h₁, toks := s2.toks + ([] : List (Str × Value)).length } ->
   codeAny (model X.prog X.w) X.A (.compLoop (.ListComp elt [⟨tg, iter, ifs, 0⟩] scope pos) 0 (.ref it) (.ref s2.heap.objs.size) (compEnvC scope cl G2.objs.size X.env))
    (compPost (model X.prog X.w) X.A X.xe use R (.ref s2.heap.objs.size) G2.objs.size) s₃ := by
  rintro s₃ rfl
  refine compLoop_go (fun k s' => ∃ (i : Nat) (ys : List V) (us : List Value) (z : Nat) (H' : Hp), k = n - i + 1 /\ i <= n /\ us.length <= i /\ Vals ys us /\ Inv X' [(s2.heap.objs.size, { cls := .type "list", data := .seq us.toArray z })] (blkSt bs σ) H' s' /\ tn i s'.heap /\ (∀ b ∈ fp, H' b = none) /\ W i ys H') ?_ (n - 0 + 1)
   ⟨0, [], [], 0, H2, rfl, Nat.zero_le _, Nat.le_refl _, .nil, pinD J0 hacc (I2.hok.fresh (Nat.le_refl _)) (fun v z => by cases z), T.keep _ _ _ st2 fun b _ o e => old b o e, fun b hb => (f2 b hb).1, w0⟩
  rintro k s3 ⟨i, ys, us, z, H3, rfl, hin, hul, rv, I3, st3, fr3, w3⟩
  have npl : ∀ p ∈ ([(s2.heap.objs.size, { cls := .type "list", data := .seq us.toArray z })] : List (Addr × Obj)), p.1 ∉ fp := fun p hp hm => by
   have ep : p = (s2.heap.objs.size, { cls := .type "list", data := .seq us.toArray z }) := by simpa using hp
   subst ep
   exact hDn _ hm rfl
  have eP : X'.prog = X.prog := by subst hX; rfl
  have eW : X'.w = X.w := by subst hX; rfl
  have eK : X'.K = X.K := by subst hX; rfl
  have eA : X'.A = X.A := by subst hX; rfl
  have eC : X'.calm = true := by subst hX; exact hc
  rcases turn i ys H3 w3 with ⟨stop, fin⟩ | ⟨gon, hlt', step⟩
  . have hd := T.done X' eP eW eK eC i _ s3 (blkSt bs σ) H3 (notedBy (model X.prog X.w) X.A (compEnvC scope cl G2.objs.size X.env) fun e s' => compPost (model X.prog X.w) X.A X.xe use R (.ref s2.heap.objs.size) G2.objs.size (.error e) s') I3 (fpB fr3 npl) st3 stop
    rw [eA] at hd
    refine thn hd fun r s4 ⟨hr, I4⟩ => ?_
    subst hr
    obtain ⟨m, hm, _⟩ := I4.loc
    have pD := I4.pin (s2.heap.objs.size, { cls := .type "list", data := .seq us.toArray z }) (List.mem_append_right _ (List.mem_singleton.mpr rfl))
    have hCl : X'.env.locals = G2.objs.size := by subst hX; rfl
    have hm' : s4.heap.Ns G2.objs.size m := hCl ▸ hm
    have hC0 : H3 G2.objs.size = none := hCl ▸ I4.free
    have I5 : Inv X pins σ H3 s4 := by
     have hos : s4.os = s2.os := by subst hX; exact I4.os
     have hun : Un (frs X.stack) fp H2 H3 s2.heap s4.heap := by subst hX; exact I4.base
     have hhk : HOk X.prog X.w H3 s4.heap := by subst hX; exact I4.hok
     exact I2.call' hos hun hhk I4.bare fun b hb => ⟨(f2 b hb).2.2.2.1, (f2 b hb).2.1, (f2 b hb).2.2.2.2.1, (f2 b hb).2.2.2.2.2⟩
    have hys : ys.length <= sizeLine := by rw [rv.length]; omega
    refine hfin s2.heap.objs.size G2.objs.size s4 _ _ (I5.track (o := .lst ys) pD.2.1 (Nat.ne_of_gt I2.lt) (.inr I2.sz) Dcell Dpin ⟨hys, us, z, rv, pD.1⟩) (fin _ pD.2.1) ⟨?_, Nat.ne_of_gt (Nat.lt_of_lt_of_le I2.lt hCle), I2.nofs hCle, .inr (Nat.le_trans I2.sz hCle), fun x c e q => ?_, fun p hp q => ?_⟩ ⟨m, hm'⟩
    . rw [upd_ne (Ne.symm hDC)]; exact hC0
    . obtain ⟨v, q2⟩ := I2.cell x c e
      exact absurd (Nat.lt_of_lt_of_le q2.lt (by rw [q]; exact hCle)) (Nat.lt_irrefl _)
    . exact absurd (Nat.lt_of_lt_of_le (Heap.lt_size (I2.pin p hp).1) (by rw [q]; exact hCle)) (Nat.lt_irrefl _)
  . have hd := T.item X' eP eW eK eC i _ s3 (blkSt bs σ) H3 (notedBy (model X.prog X.w) X.A (compEnvC scope cl G2.objs.size X.env) fun e s' => compPost (model X.prog X.w) X.A X.xe use R (.ref s2.heap.objs.size) G2.objs.size (.error e) s') I3 (fpB fr3 npl) st3 gon
    rw [eA] at hd
    refine thn hd fun r s4 ⟨u, hr, h4⟩ => ?_
    subst hr
    refine thn h4 fun _ s5 ⟨x, H5, I5, r5, y5, st5, fr5⟩ => ?_
    have I5' := I5.pinned (fpB fr5 npl) (T.obj _ _ st5)
    have hq5 := go x (blkSt bs σ) H5 _ (step x H5 y5)
    have hgx : PG X' tg g := by subst hX; exact hg _ _ _ _ _ _
    have htx : PIfs X' ifs tt := by subst hX; exact ht _ _ _ _ _ _
    have hex : PE X' elt te := by subst hX; exact he _ _ _ _ _ _
    have hxe : ∀ e s', X'.xe e s' -> False := fun e s' q => by subst hX; exact q
    have eE : X'.env = compEnvC scope cl G2.objs.size X.env := by subst hX; rfl
    have w6 := hgx _ s5 (blkSt bs σ) H5 x u _ I5' r5 hq5
    rw [eP, eW, eA, eE] at w6
    refine wpAny_mono w6 (fun _ s6 ⟨σ6, H6, I6, q6, l6, e6⟩ => ?_) fun _ _ q => (hxe _ _ q).elim
    have w7 := htx _ s6 σ6 H6 _ (notedBy (model X.prog X.w) X.A (compEnvC scope cl G2.objs.size X.env) fun e s' => compPost (model X.prog X.w) X.A X.xe use R (.ref s2.heap.objs.size) G2.objs.size (.error e) s') (fun _ _ q => (hxe _ _ q).elim) I6 q6
    rw [eP, eW, eA, eE] at w7
    refine thn w7 fun ok s7 ⟨H7, I7, q7⟩ => ?_
    have weak : ∀ {pl : List (Addr × Obj)} {H' : Hp} {s' : Shared}, Inv X' pl σ6 H' s' -> Inv X' pl (blkSt bs σ) H' s' := fun {pl H' s'} I' => I'.weak l6.symm fun j v hj => by
     by_cases hjn : j < bs.length
     . unfold blkSt at hj
       rw [List.getElem?_append_left (by simpa using hjn), List.getElem?_replicate, if_pos hjn] at hj
       cases hj
     . rw [e6 j (Nat.le_of_not_lt hjn)]; exact hj
    have unp : ∀ {σ' : St} {H' : Hp} {s' : Shared}, Inv X' ([(s2.heap.objs.size, ({ cls := .type "list", data := .seq us.toArray z } : Obj))] ++ pinsAt fp s5.heap) σ' H' s' ->
      (∀ b ∈ fp, ∀ o, s5.heap.get? b = some o -> s'.heap.get? b = some o) /\ (∀ b ∈ fp, H' b = none) /\ s'.heap.get? s2.heap.objs.size = some { cls := .type "list", data := .seq us.toArray z } /\ H' s2.heap.objs.size = none := fun {σ' H' s'} I' => by
     refine ⟨fun b hb o e => (I'.pin (b, o) (List.mem_append_right _ (List.mem_append_right _ (mem_pinsAt hb e)))).1, fun b hb => ?_, ?_, ?_⟩
     . obtain ⟨o, e, d⟩ := T.obj _ _ st5 b hb
       exact (I'.pin (b, o) (List.mem_append_right _ (List.mem_append_right _ (mem_pinsAt hb e)))).2.1
     . exact (I'.pin (s2.heap.objs.size, { cls := .type "list", data := .seq us.toArray z }) (List.mem_append_right _ (List.mem_append_left _ (List.mem_singleton.mpr rfl)))).1
     . exact (I'.pin (s2.heap.objs.size, { cls := .type "list", data := .seq us.toArray z }) (List.mem_append_right _ (List.mem_append_left _ (List.mem_singleton.mpr rfl)))).2.1
    cases ok with
    | false =>
     obtain ⟨k1, k2, k3, k4⟩ := unp I7
     refine ⟨n - (i + 1) + 1, by omega, i + 1, ys, us, z, H7, rfl, hlt', by omega, rv, pinD (weak (I7.pins_of fun p hp => nomatch hp)) k3 k4 (fun v q => by cases q), T.keep _ _ _ st5 k1, k2, ?_⟩
     simpa using q7
    | true =>
     have q7' : te σ6 H7 fun y H4 => W (i + 1) (ys ++ [y]) H4 := by simpa using q7
     have w8 := hex _ s7 σ6 H7 _ I7 q7'
     rw [eP, eW, eA, eE] at w8
     refine wpAny_mono w8 (fun uy s8 ⟨y, H8, I8, r8, q8⟩ => ?_) fun _ _ q => (hxe _ _ q).elim
     obtain ⟨k1, k2, k3, k4⟩ := unp I8
     refine append_at (hsz := by rw [List.size_toArray]; omega) k3 fun h9 sb9 g9 => ?_
     have I8' : Inv X' [] (blkSt bs σ) H8 s8 := weak (I8.pins_of fun p hp => nomatch hp)
     have eS : X'.s₀ = s2 := by subst hX; rfl
     have ePn : X'.pn = X.pn ++ pins := by subst hX; rfl
     have eCl : X'.env.cells = cl := by subst hX; rfl
     have I9 : Inv X' [] (blkSt bs σ) H8 { s8 with heap := h9 } := I8'.turned (t' := s8.toks) (it := s2.heap.objs.size) (fun b o hb e => sb9.extBut b o hb e) k4 Dloc (.inr (by rw [eS]; exact Nat.le_refl _))
      (fun x c e => Dcell x c (c1 x c (by rw [<- eCl]; exact e))) (fun p hp => Dpin p (by rw [ePn] at hp; simpa using hp))
     refine ⟨n - (i + 1) + 1, by omega, i + 1, ys ++ [y], us ++ [uy], z + 1, H8, rfl, hlt', by rw [List.length_append, List.length_singleton]; omega, rv.snoc r8, pinD I9 ?_ k4 (fun v q => by cases q), T.keep _ _ _ st5 fun b hb o e => ?_, k2, q8⟩
     . rw [g9, List.push_toArray]
     . exact sb9.extBut b o (hDn b hb) (k1 b hb o e)
 exact codeAny_compStart_list (loop _ rfl) (T.self _ 0 _ _ _ (T.keep _ _ _ st2 fun b _ o e => old b o e) (loop _ rfl))
theorem pe_comp {X : Cx} {bs nb : List Str} {elt tg iter : Expr} {ifs : List Expr} {scope : Scope} {pos : Pos} {wi : TI} {g : TG} {tt : TT} {te : TE} (hc : X.calm = true) (B : BlkOk X bs nb scope) (hi : PI X tg iter wi)
  (go : GOwn bs.length g) (hg : ∀ cl C fp s H pins, PG (blk X bs nb scope cl C fp s H pins) tg g) (ht : ∀ cl C fp s H pins, PIfs (blk X bs nb scope cl C fp s H pins) ifs tt) (he : ∀ cl C fp s H pins, PE (blk X bs nb scope cl C fp s H pins) elt te)
  (hs : ∀ x, foldedSetIterable iter X.env x = pure x := by intro _; rfl) : PE X (.ListComp elt [⟨tg, iter, ifs, 0⟩] scope pos) (tComp bs wi g tt te) := by
 intro pins s σ H Q I h
 rw [eval_ListComp]
 refine wp_comp (use := none) hc B hi go hg ht he hs pins s σ H Q I h fun D C s' H' f I' q fc ⟨m, hm⟩ => ⟨m, hm, fun h'' sb => ?_⟩
 exact ⟨.ref D, H', I'.turned (t' := s'.toks) (it := C) (fun b o hb e => sb.extBut b o hb e) fc.1 fc.2.1 fc.2.2.2.1 fc.2.2.2.2.1 fc.2.2.2.2.2, rfl, q⟩
theorem ps_setC {X : Cx} {bs nb : List Str} {elt tg iter : Expr} {ifs : List Expr} {scope : Scope} {cpos pos pos' : Pos} {wi : TI} {g : TG} {tt : TT} {te : TE} {i : Nat} {x : Str} (hN : X.N.Nodup) (hi' : X.N[i]? = some x) (hx : Loc X.env.scope x) (hc : X.calm = true) (B : BlkOk X bs nb scope) (hi : PI X tg iter wi)
  (go : GOwn bs.length g) (hg : ∀ cl C fp s H pins, PG (blk X bs nb scope cl C fp s H pins) tg g) (ht : ∀ cl C fp s H pins, PIfs (blk X bs nb scope cl C fp s H pins) ifs tt) (he : ∀ cl C fp s H pins, PE (blk X bs nb scope cl C fp s H pins) elt te)
  (hsw : swapsWith (.ListComp elt [⟨tg, iter, ifs, 0⟩] scope cpos) (some (.Name x pos')) pos.line X.env = pure true := by rfl) (hf : X.fn x = true \/ X.env.scope.names.lookup x = some .local := by first | exact .inl rfl | exact .inr rfl | assumption)
  (hs : ∀ x, foldedSetIterable iter X.env x = pure x := by intro _; rfl) : PS X (.Assign [.Name x pos'] (.ListComp elt [⟨tg, iter, ifs, 0⟩] scope cpos) pos) (tAsg (tComp bs wi g tt te) (gName i)) := by
 intro pins s σ H D I h
 rw [exec_Assign_Name_used _ _ _ _ hsw]
 refine wpAny_bind (wpAny_standAt ?_)
 rw [arm_evalThenUse_ListComp]
 refine wpAny_bind (wpAny_bind (thn (wp_comp (R := fun _ s' => SP X pins D .next s') (use := some (assign (.Name x pos') X.env)) hc B hi go hg ht he hs pins s σ H _ I h fun D' C s' H' f I' q fc ⟨m, hm⟩ => ?_) fun _ s' hsp => wpAny_pure (wpAny_pure hsp)))
 obtain ⟨oC, es, ep, ho, hd, hr⟩ := id hm
 have I2 : Inv X ((C, oC) :: pins) σ H' s' := I'.pins_of fun p hp => by
  rcases List.mem_cons.mp hp with rfl | hp
  . exact ⟨ho, fc.1, fc.2.1, fc.2.2.1, fun v z => by rw [hd] at z; cases z⟩
  . exact I'.pin p (List.mem_append_right _ hp)
 refine thn (pg_name (pos := pos') hN hi' hx hf ((C, oC) :: pins) s' σ H' (.ref D') (.ref D') D.nx I2 rfl q) fun _ s'' ⟨σ', H'', I3, q3⟩ => ?_
 have pC := I3.pin (C, oC) (List.mem_append_right _ List.mem_cons_self)
 have I4 : Inv X pins σ' H'' s'' := I3.pins_of fun p hp => I3.pin p (List.mem_append_right _ (List.mem_cons_of_mem _ hp))
 refine ⟨m, ⟨oC, es, ep, pC.1, hd, hr⟩, fun h'' sb => ⟨σ', H'', ?_, q3⟩⟩
 exact I4.turned (t' := s''.toks) (it := C) (fun b o hb e => sb.extBut b o hb e) pC.2.1 fc.2.1 fc.2.2.2.1 fc.2.2.2.2.1 fc.2.2.2.2.2
end L2
namespace L2
open PySem PySem.Spec PyProof.Rows
section
variable {prog : Program} {w : World} {A : Around} {E : Value -> Shared -> Prop} {s : Shared}
noncomputable def ItK (kd : Bool) (h : Heap) (i l : Addr) (k : Nat) : Prop := match kd with
 | true => h.IsTupleIter i l k
 | false => h.IsListIter i l k
noncomputable def OfK (kd : Bool) (h : Heap) (i l : Addr) (k : Nat) (xs : Array Value) : Prop := match kd with
 | true => h.IsTupleIter i l k /\ h.IsTuple l xs
 | false => h.IsListIter i l k /\ h.IsList l xs
theorem ItK.at {kd : Bool} {h h' : Heap} {i l : Addr} {k : Nat} (x : ItK kd h i l k) (e : ∀ o, h.get? i = some o -> h'.get? i = some o) : ItK kd h' i l k := by
 cases kd
 . exact Heap.IsListIter.at (show h.IsListIter i l k from x) e
 . exact Heap.IsTupleIter.at (show h.IsTupleIter i l k from x) e
theorem ItK.obj {kd : Bool} {h : Heap} {i l : Addr} {k : Nat} (x : ItK kd h i l k) : ∃ o, h.get? i = some o /\ ∀ v, o.data ≠ .cell v := by
 cases kd
 . obtain ⟨o, e, _, d⟩ := (show h.IsListIter i l k from x)
   exact ⟨o, e, fun v z => by rw [d] at z; cases z⟩
 . obtain ⟨o, e, _, d⟩ := (show h.IsTupleIter i l k from x)
   exact ⟨o, e, fun v z => by rw [d] at z; cases z⟩
theorem OfK.kept {kd : Bool} {h h' : Heap} {i l : Addr} {k : Nat} {xs : Array Value} (x : OfK kd h i l k xs) (e : ∀ b o, b = i \/ b = l -> h.get? b = some o -> h'.get? b = some o) : OfK kd h' i l k xs := by
 cases kd
 . obtain ⟨x, ⟨o, eo, r⟩⟩ := (show h.IsListIter i l k /\ h.IsList l xs from x)
   exact ⟨x.at fun o q => e i o (.inl rfl) q, ⟨o, e l o (.inr rfl) eo, r⟩⟩
 . obtain ⟨x, ⟨o, eo, r⟩⟩ := (show h.IsTupleIter i l k /\ h.IsTuple l xs from x)
   exact ⟨x.at fun o q => e i o (.inl rfl) q, ⟨o, e l o (.inr rfl) eo, r⟩⟩
theorem nextT_item {it t : Addr} {i : Nat} {xs : Array Value} {x : Value} {Q : Value -> Shared -> Prop} (hit : s.heap.IsTupleIter it t i) (ht : s.heap.IsTuple t xs) (hx : xs[i]? = some x)
  (hQ : ∀ h', h'.IsTupleIter it t (i + 1) -> Heap.SameBut it s.heap h' -> Q x { s with heap := h' }) : wpAny (model prog w) A (Builtin.SmallTypes.nextOf (.ref it)) Q E s := by
 obtain ⟨oi, ei, ci, di⟩ := id hit
 obtain ⟨ot, et, _, n, dt⟩ := ht
 unfold Builtin.SmallTypes.nextOf
 refine wpAny_bind (wpAny_callSpecial?_slot (name := Str.ofString "__next__") hit.typeIs F.slot_tuple_iterator_next
  (wpAny_call_entry F.slot_tuple_iterator_next hit.typeIs F.entry_tuple_iterator_next ?_ (F.args_tuple_iterator_next_1 _)))
 show wpAny _ _ (field (.ref it) 0 >>= _) _ _ s
 refine wpAny_bind (wpAny_field ei di (x := .ref t) rfl ?_)
 show wpAny _ _ (if (Value.ref t == Value.none) = true then _ else _) _ _ s
 rw [if_neg (show ¬ ((Value.ref t == Value.none) = true) from Bool.false_ne_true)]
 show wpAny _ _ (field (.ref it) 1 >>= _) _ _ s
 refine wpAny_bind (wpAny_field ei di (x := .int i 0) rfl ?_)
 show wpAny _ _ (seqItems? (.ref t) >>= _) _ _ s
 refine wpAny_bind (wpAny_seqItems et dt ?_)
 simp only [Int.toNat_natCast, hx]
 refine wpAny_bind (wpAny_setField ei di (by simp) (wpAny_pure ⟨x, rfl, wpAny_pure (hQ _ ?_ (Heap.SameBut.update ..))⟩))
 refine ⟨_, Heap.get?_update_self _ ei (Obj.isFreed_of_fields (Obj.data_mapFields di _)), (Obj.cls_mapFields ..).trans ci, ?_⟩
 rw [Obj.data_mapFields di]
 simp [rawInt]
theorem nextT_end {it t : Addr} {i : Nat} {xs : Array Value} {Q : Value -> Shared -> Prop} (hh : A.handled = none) (hit : s.heap.IsTupleIter it t i) (ht : s.heap.IsTuple t xs) (hx : xs[i]? = none)
  (hE : ∀ h' e, Heap.ExtBut it s.heap h' -> (∃ o, h'.get? e = some o /\ o.cls = .type "StopIteration") -> E (.ref e) { s with heap := h' }) : wpAny (model prog w) A (Builtin.SmallTypes.nextOf (.ref it)) Q E s := by
 obtain ⟨oi, ei, ci, di⟩ := id hit
 obtain ⟨ot, et, _, n, dt⟩ := ht
 unfold Builtin.SmallTypes.nextOf
 refine wpAny_bind (wpAny_callSpecial?_slot (name := Str.ofString "__next__") hit.typeIs F.slot_tuple_iterator_next
  (wpAny_call_entry F.slot_tuple_iterator_next hit.typeIs F.entry_tuple_iterator_next ?_ (F.args_tuple_iterator_next_1 _)))
 show wpAny _ _ (field (.ref it) 0 >>= _) _ _ s
 refine wpAny_bind (wpAny_field ei di (x := .ref t) rfl ?_)
 show wpAny _ _ (if (Value.ref t == Value.none) = true then _ else _) _ _ s
 rw [if_neg (show ¬ ((Value.ref t == Value.none) = true) from Bool.false_ne_true)]
 show wpAny _ _ (field (.ref it) 1 >>= _) _ _ s
 refine wpAny_bind (wpAny_field ei di (x := .int i 0) rfl ?_)
 show wpAny _ _ (seqItems? (.ref t) >>= _) _ _ s
 refine wpAny_bind (wpAny_seqItems et dt ?_)
 simp only [Int.toNat_natCast, hx]
 refine wpAny_bind (wpAny_rule (wpAny_bind (wpAny_setField ei di (by simp) ?_)))
 show wpAny _ _ (newExc (.type "StopIteration") [] >>= _) _ _ _
 refine wpAny_bind ?_
 simp only [newExc, newTuple]
 refine wpAny_bind (wpAny_newObj_type ?_ (by size_fits))
 refine wpAny_bind (m := firstArgMember _ _) (wpAny_of_eq (a := Value.none) (by first | rfl | (simp only [firstArgMember]; rfl)) ?_)
 refine wpAny_newObj_type ?_ (by size_fits)
 simp only [raiseNew]
 refine wpAny_bind (wpAny_handled ?_)
 rw [hh]
 refine wpAny_throw (hE _ _ (fun b o hb e => ?_) ⟨_, Heap.get?_push_size _ rfl, rfl⟩)
 exact Heap.get?_push_of_some _ (Heap.get?_push_of_some _ ((Heap.SameBut.update ..).extBut b o hb e))
theorem nextS_item {kd : Bool} {it l : Addr} {i : Nat} {xs : Array Value} {x : Value} {Q : Value -> Shared -> Prop} (h : OfK kd s.heap it l i xs) (hne : l ≠ it) (hx : xs[i]? = some x)
  (hQ : ∀ h', ItK kd h' it l (i + 1) -> Heap.SameBut it s.heap h' -> Q x { s with heap := h' }) : wpAny (model prog w) A (Builtin.SmallTypes.nextOf (.ref it)) Q E s := by
 cases kd
 . exact wpAny_nextOf_list_item h.1 h.2 hx fun h' a' sb => hQ h' a' sb
 . exact nextT_item h.1 h.2 hx fun h' a' sb => hQ h' a' sb
theorem nextS_end {kd : Bool} {it l : Addr} {i : Nat} {xs : Array Value} {Q : Value -> Shared -> Prop} (hh : A.handled = none) (h : OfK kd s.heap it l i xs) (hx : xs[i]? = none)
  (hE : ∀ h' e, Heap.ExtBut it s.heap h' -> (∃ o, h'.get? e = some o /\ o.cls = .type "StopIteration") -> E (.ref e) { s with heap := h' }) : wpAny (model prog w) A (Builtin.SmallTypes.nextOf (.ref it)) Q E s := by
 cases kd
 . exact wpAny_nextOf_list_end hh h.1 h.2 hx hE
 . exact nextT_end hh h.1 h.2 hx hE
end
noncomputable def SqX (K : PySem.W.Frag) (H : Hp) (a : Addr) (xs : List V) : Prop := SqL K H a xs \/ SqT K H a xs
theorem SqX.ne {X : Cx} {pins : List (Addr × Obj)} {σ : St} {H : Hp} {s : Shared} {a b : Addr} {xs : List V} (I : Inv X pins σ H s) (h : SqX X.K H a xs) (f : FpOk X pins H b) : a ≠ b := by
 have tr : ∀ {u : HO}, Rd H a u -> a ≠ b := fun {u} r => by
  rcases r with r | ⟨o, r⟩
  . exact ne_of_none r f.1
  . exact ne_of_none r f.1
 have kk : ∀ {o : Obj}, X.K.lookup a = some o -> a ≠ b := fun {o} e z => by
  have eb : X.base.get? a = some o := I.ok.mod.kin a o e
  rcases f.2.2.2.1 with q | q
  . exact I.ok.noex a o eb (z ▸ q)
  . exact absurd (Nat.lt_of_lt_of_le (Heap.lt_size eb) (Nat.le_trans I.ok.bsz (by rw [z]; exact q))) (Nat.lt_irrefl _)
 rcases h with (r | ⟨o, _, _, e, _⟩) | (r | ⟨o, _, _, e, _⟩)
 . exact tr r
 . exact kk e
 . exact tr r
 . exact kk e
theorem notBoth {h : Heap} {a : Addr} {xs ys : Array Value} (h1 : h.IsList a xs) (h2 : h.IsTuple a ys) : False := by
 obtain ⟨o, e, c, _⟩ := h1
 obtain ⟨o', e', c', _⟩ := h2
 rw [e] at e'; cases e'
 rw [c] at c'
 exact absurd c' (by decide)
theorem Inv.seqX_inj {X : Cx} {pins : List (Addr × Obj)} {σ : St} {H : Hp} {s : Shared} {a : Addr} {xs ys : List V} (I : Inv X pins σ H s) (h : SqX X.K H a xs) (h' : SqX X.K H a ys) : xs = ys := by
 rcases h with h | h <;> rcases h' with h' | h'
 . exact I.list_inj h h'
 . obtain ⟨_, _, p, _⟩ := I.list h
   obtain ⟨_, _, q, _⟩ := I.tuple h'
   exact (notBoth p.isList q).elim
 . obtain ⟨_, _, p, _⟩ := I.list h'
   obtain ⟨_, _, q, _⟩ := I.tuple h
   exact (notBoth p.isList q).elim
 . exact I.tuple_inj h h'
theorem Inv.turnedL {X : Cx} {pins : List (Addr × Obj)} {σ : St} {H : Hp} {s : Shared} {h' : Heap} {t' : Nat} {ch : List Addr} (I : Inv X pins σ H s) (k : ∀ b o, b ∉ ch -> s.heap.get? b = some o -> h'.get? b = some o) (hn : ∀ b ∈ ch, FpOk X pins H b) : Inv X pins σ H { s with heap := h', toks := t' } := by
 have nit : ∀ b u, H b = some u -> b ∉ ch := fun b u e z => by rw [(hn b z).1] at e; cases e
 refine I.step (g' := s.gens) (d' := s.drawn) (ch := ch) (fun b hb => ?_) (fun b o _ _ hc e _ => k b o hc e) (fun b o _ _ hc e _ => ⟨o.slots, k b o hc e⟩) (fun _ _ _ _ n => n)
  (fun b o hc e => ⟨o, k b o hc e⟩) (fun _ _ e => e) (fun _ _ _ e => e) (fun b ps e => ⟨#[], by rw [e]; simp⟩) (fun m hm => ?_) (fun b u e => ?_) I.bare
 . obtain ⟨_, f1, _, f3, f4, f5⟩ := hn b hb
   exact ⟨f3, f1, f4, f5⟩
 . obtain ⟨o, es, ep, ho, r⟩ := hm
   exact ⟨o, es, ep, k _ o (fun z => (hn _ z).2.1 rfl) ho, r⟩
 . refine (I.hok b u e).stay (fun c v hc q => k c v ?_ q) (fun _ q => q) fun _ _ q => q
   rcases hc with z | z
   . rw [z]; exact nit b u e
   . exact nit c _ z
noncomputable def SqK (kd : Bool) (K : PySem.W.Frag) (H : Hp) (a : Addr) (xs : List V) : Prop := match kd with
 | true => SqT K H a xs
 | false => SqL K H a xs
theorem SqK.x {kd : Bool} {K : PySem.W.Frag} {H : Hp} {a : Addr} {xs : List V} (h : SqK kd K H a xs) : SqX K H a xs := by
 cases kd
 . exact .inl h
 . exact .inr h
theorem Inv.sof {X : Cx} {pins : List (Addr × Obj)} {σ : St} {H : Hp} {s : Shared} {kd : Bool} {i a : Addr} {k : Nat} {xs : List V} (I : Inv X pins σ H s) (h : SqK kd X.K H a xs) (it : ItK kd s.heap i a k) : ∃ its : List Value, Vals xs its /\ OfK kd s.heap i a k its.toArray := by
 cases kd
 . obtain ⟨its, rv, p, hz⟩ := I.list h
   exact ⟨its, rv, it, p.isList⟩
 . obtain ⟨its, rv, p, hz⟩ := I.tuple h
   exact ⟨its, rv, it, p⟩
structure ZipAt (k1 k2 : Bool) (z TI TO i1 i2 a b : Addr) (i : Nat) (h : Heap) : Prop where
 hz : IsZip h z TI TO .none
 hTI : IsPair h TI (.ref i1) (.ref i2)
 hTO : ∃ x y, IsPair h TO x y
 h1 : ItK k1 h i1 a i
 h2 : ItK k2 h i2 b i
structure ZipD (z TI TO i1 i2 : Addr) : Prop where
 TIz : TI ≠ z
 TOz : TO ≠ z
 i1z : i1 ≠ z
 i2z : i2 ≠ z
 TITO : TI ≠ TO
 TIi1 : TI ≠ i1
 TIi2 : TI ≠ i2
 TOi1 : TO ≠ i1
 TOi2 : TO ≠ i2
 i12 : i1 ≠ i2
theorem SqK.inj {X : Cx} {pins : List (Addr × Obj)} {σ : St} {H : Hp} {s : Shared} {kd : Bool} {a : Addr} {xs ys : List V} (I : Inv X pins σ H s) (h : SqK kd X.K H a xs) (h' : SqK kd X.K H a ys) : xs = ys := I.seqX_inj h.x h'.x
end L2
namespace L2
open PySem PySem.Spec PyProof.Rows
noncomputable def ExcAt (e C dx : Addr) (h : Heap) : Prop := ∃ vs, h.get? e = some { cls := .ref C, dict := some dx, data := .fields vs }
noncomputable def ExcIs (e C : Addr) (dx : Option Addr) (h : Heap) : Prop := ∃ t, h.get? e = some { cls := .ref C, dict := dx, data := .fields #[.ref t, .none, .none, .none, .bool false, .none] }
theorem ExcIs.keep {e C : Addr} {dx : Option Addr} {h h' : Heap} (x : ExcIs e C dx h) (k : ∀ o, h.get? e = some o -> h'.get? e = some o) : ExcIs e C dx h' := let ⟨t, q⟩ := x; ⟨t, k _ q⟩
noncomputable def excD (C : Addr) (fld : Str) (d : PyData) : PyData := .dict [(.tuple [.int (C : Nat), .str fld], d)]
theorem ExcAt.keep {e C dx : Addr} {h h' : Heap} (x : ExcAt e C dx h) (k : ∀ o, h.get? e = some o -> h'.get? e = some o) : ExcAt e C dx h' := let ⟨vs, q⟩ := x; ⟨vs, k _ q⟩
structure ExcC (K : PySem.W.Frag) (C : Addr) : Prop where
 ga : PySem.W.findIn K (.ref C) "__getattribute__" = some (some (.builtin "BaseException.__getattribute__"))
 gt : PySem.W.findIn K (.ref C) "__getattr__" = some none
 hd : PySem.W.hasDictIn K C = true
 be : PySem.W.mroIn K C (.type "BaseException") = some true
 cl : PySem.W.findIn K (.ref C) "__class__" = some (some (.builtin "object.__class__"))
 cg : PySem.W.specialIn K (.builtin "object.__class__") "__get__" = some (some (.builtin "getset_descriptor.__get__"))
 ct : PySem.W.takesIn K (.builtin "object.__class__") = some true
 ob : PySem.W.mroIn K C (.type "object") = some true
 n1 : PySem.W.kitOne K (.ref C) (.type "tuple") = some false
 n2 : PySem.W.kitOne K (.ref C) (.type "list") = some false
 n3 : PySem.W.kitOne K (.ref C) (.type "bool") = some false
 n4 : PySem.W.kitOne K (.ref C) (.type "int") = some false
 n5 : PySem.W.kitOne K (.ref C) (.type "str") = some false
noncomputable def five (n : String) : Prop := n = "tuple" \/ n = "list" \/ n = "bool" \/ n = "int" \/ n = "str"
theorem ExcC.five {K : PySem.W.Frag} {C : Addr} (T : ExcC K C) {n : String} (h : L2.five n) : PySem.W.kitOne K (.ref C) (.type n) = some false := by
 rcases h with rfl | rfl | rfl | rfl | rfl
 . exact T.n1
 . exact T.n2
 . exact T.n3
 . exact T.n4
 . exact T.n5
section
variable {prog : Program} {w : World} {A : Around} {E : Value -> Shared -> Prop} {s : Shared} {K : PySem.W.Frag} {x C : Addr} {ox : Obj} {od : Option Obj} {name : Str}
theorem exc_call {v : Value} {tk : Tok} {R : Result -> Shared -> Prop} (T : ExcC K C) (X : K.In s.heap) (I : PySem.W.InstAt s.heap x ox C od) (hf : PySem.W.findObj K C od name = some (.value v)) (h : R (.ok (.ret v)) s) :
  codeAny (model prog w) A (.call (.builtin "BaseException.__getattribute__") ⟨[.ref x, .str name tk], []⟩) R s := by
 obtain ⟨hh, g, d, t, os⟩ := s
 refine codeAny_call_builtin F.excAttr_ValueError.ga.plain F.entry_bexc_ga ?_
 have L0 := I.type (M := model prog w)
 have L1 := PySem.W.looks_find (M := model prog w) X I hf
 have L2 := PySem.W.looks_mroIn (M := model prog w) X T.be
 have hk : builtinKind "BaseException.__getattribute__" = some .slot := by decide +kernel
 have hsplit : splitId "BaseException.__getattribute__" = some ("BaseException", "__getattribute__") := by decide +kernel
 have ha := F.args_bexc_ga (.ref x) (.str name tk)
 simp only [checkBuiltinCall, hk, hsplit]
 refine wpAny_bind ?_
 unfold isInstance
 refine wpAny_bind (L0.at (L2.at ?_))
 repeat (first | wp_step)
 refine wpAny_loadPart_at I.at_ ?_
 rw [I.cls]
 refine wpAny_pure (wpAny_bind (L1.at ?_))
 exact wpAny_pure h
theorem exc_callC {tk : Tok} {R : Result -> Shared -> Prop} (T : ExcC K C) (X : K.In s.heap) (I : PySem.W.InstAt s.heap x ox C od) (hf : PySem.W.findObj K C od "__class__" = some (.bind (.builtin "getset_descriptor.__get__") (.builtin "object.__class__")))
  (h : R (.ok (.ret (.ref C))) s) :
  codeAny (model prog w) A (.call (.builtin "BaseException.__getattribute__") ⟨[.ref x, .str "__class__" tk], []⟩) R s := by
 obtain ⟨hh, g, d, t, os⟩ := s
 refine codeAny_call_builtin F.excAttr_ValueError.ga.plain F.entry_bexc_ga ?_
 have L0 := I.type (M := model prog w)
 have L1 := PySem.W.looks_find (M := model prog w) X I hf
 have L2 := PySem.W.looks_mroIn (M := model prog w) X T.be
 have hk : builtinKind "BaseException.__getattribute__" = some .slot := by decide +kernel
 have hsplit : splitId "BaseException.__getattribute__" = some ("BaseException", "__getattribute__") := by decide +kernel
 have ha := F.args_bexc_ga (.ref x) (.str "__class__" tk)
 simp only [checkBuiltinCall, hk, hsplit]
 refine wpAny_bind ?_
 unfold isInstance
 refine wpAny_bind (L0.at (L2.at ?_))
 repeat (first | wp_step)
 refine wpAny_loadPart_at I.at_ ?_
 rw [I.cls]
 refine wpAny_pure (wpAny_bind (L1.at ?_))
 dsimp only
 repeat (any_goals (first | assumption | wp_step))
 refine PySem.W.class_get (s := ⟨hh, g, d, t, os⟩) X I T.ob ?_
 repeat (any_goals (first | assumption | wp_step))
theorem exc_by {v : Value} {tk : Tok} {fill expr : Bool} {Q : Value -> Shared -> Prop} (T : ExcC K C) (X : K.In s.heap) (I : PySem.W.InstAt s.heap x ox C od) (hf : PySem.W.findObj K C od name = some (.value v)) (hh : PySem.W.handedIn v = true) (h : Q v s) :
  wpAny (model prog w) A (getAttrBy (.ref x) (.str name tk) fill expr) Q E s := by
 obtain ⟨hp, g, d, t, os⟩ := s
 have L0 := I.type (M := model prog w)
 have L1 := PySem.W.looks_findIn (M := model prog w) X T.ga
 have L2 := PySem.W.looks_findIn (M := model prog w) X T.gt
 have f3 := F.excAttr_ValueError.ga.bind (.ref x)
 have hx0 : (expr && onTheHeap (Value.builtin "BaseException.__getattribute__")) = false := by cases expr <;> rfl
 have hx2 : (Value.builtin "BaseException.__getattribute__" == Value.builtin "object.__getattribute__") = false := by decide +kernel
 have hx1 : (onTheHeap (Value.ref C) && Value.builtin "BaseException.__getattribute__" == Value.builtin "object.__getattribute__") = false := by rw [hx2]; rfl
 unfold getAttrBy
 refine wpAny_holding (wpAny_bind (L0.at (wpAny_bind (L1.at ?_))))
 dsimp only
 rw [if_neg (by rw [hx1]; decide)]
 unfold getAttrByItsOwn
 repeat (any_goals (first | assumption | (with_reducible refine L2.at ?_) | wp_step))
 refine exc_call (s := ⟨hp, g, d, t, os⟩) T X I hf ?_
 dsimp only
 rw [PySem.W.handedOut_of hh]
 exact wpAny_pure h
theorem exc_attr {v : Value} {expr : Bool} {Q : Value -> Shared -> Prop} (T : ExcC K C) (X : K.In s.heap) (I : PySem.W.InstAt s.heap x ox C od) (hf : PySem.W.findObj K C od name = some (.value v)) (hh : PySem.W.handedIn v = true) (h : Q v { s with toks := s.toks + 1 }) :
  wpAny (model prog w) A (getAttr (.ref x) name expr) Q E s := by
 unfold getAttr
 exact wpAny_bind (wpAny_mkText (exc_by (s := { s with toks := s.toks + 1 }) T X I hf hh h))
theorem exc_byC {tk : Tok} {fill expr : Bool} {Q : Value -> Shared -> Prop} (T : ExcC K C) (X : K.In s.heap) (I : PySem.W.InstAt s.heap x ox C od) (hf : PySem.W.findObj K C od "__class__" = some (.bind (.builtin "getset_descriptor.__get__") (.builtin "object.__class__"))) (h : Q (.ref C) s) :
  wpAny (model prog w) A (getAttrBy (.ref x) (.str "__class__" tk) fill expr) Q E s := by
 obtain ⟨hp, g, d, t, os⟩ := s
 have L0 := I.type (M := model prog w)
 have L1 := PySem.W.looks_findIn (M := model prog w) X T.ga
 have L2 := PySem.W.looks_findIn (M := model prog w) X T.gt
 have f3 := F.excAttr_ValueError.ga.bind (.ref x)
 have hx0 : (expr && onTheHeap (Value.builtin "BaseException.__getattribute__")) = false := by cases expr <;> rfl
 have hx2 : (Value.builtin "BaseException.__getattribute__" == Value.builtin "object.__getattribute__") = false := by decide +kernel
 have hx1 : (onTheHeap (Value.ref C) && Value.builtin "BaseException.__getattribute__" == Value.builtin "object.__getattribute__") = false := by rw [hx2]; rfl
 unfold getAttrBy
 refine wpAny_holding (wpAny_bind (L0.at (wpAny_bind (L1.at ?_))))
 dsimp only
 rw [if_neg (by rw [hx1]; decide)]
 unfold getAttrByItsOwn
 repeat (any_goals (first | assumption | (with_reducible refine L2.at ?_) | wp_step))
 refine exc_callC (s := ⟨hp, g, d, t, os⟩) T X I hf ?_
 dsimp only
 rw [PySem.W.handedOut_of rfl]
 exact wpAny_pure h
theorem exc_clsOf {Q : Option Value -> Shared -> Prop} {o : Obj} (T : ExcC K C) (X : K.In s.heap) (I : PySem.W.InstAt s.heap x ox C (some o)) (h : Q (some (.ref C)) { s with toks := s.toks + 1 }) : wpAny (model prog w) A (getAttr? (.ref x) "__class__") Q E s := by
 have hf : PySem.W.findObj K C (some o) "__class__" = some (.bind (.builtin "getset_descriptor.__get__") (.builtin "object.__class__")) := PySem.W.findObj_data (by obtain ⟨cd, hc, _⟩ := PySem.W.any_some T.hd; rw [hc]; rfl) T.cl T.cg T.ct
 unfold getAttr? getAttrBy?
 refine wpAny_bind (wpAny_mkText (wpAny_bind (wpAny_attempt (exc_byC (s := { s with toks := s.toks + 1 }) T X I hf ?_))))
 exact wpAny_pure h
theorem kitx_exc {dx : Addr} (T : ExcC K C) : PySem.W.KitX K (.ref x) (.ref C) (fun h => ExcAt x C dx h /\ ∃ o, h.get? dx = some o) where
 ty := fun _ _ _ I => by
  obtain ⟨⟨vs, h1⟩, _⟩ := I
  exact (PySem.W.Looks.ld h1).andThen .now
 it := fun _ _ X _ => by
  obtain ⟨cdD, hcD, _⟩ := PySem.W.any_some T.hd
  unfold PySem.W.clsIn at hcD
  split at hcD
  . rename_i c' d' cd' sl' ho
    intro A' Q' E' s' k q
    unfold isType loadHead
    exact wpAny_bind (wpAny_loadPart (k _ _ (X _ _ ho)) (wpAny_pure q))
  . cases hcD
 ne := fun h tp dd its n sl X htp => by
  obtain ⟨cdD, hcD, _⟩ := PySem.W.any_some T.hd
  refine Bool.eq_false_iff.mpr fun q => ?_
  have e : C = tp := Value.ref.inj (beq_iff_eq.mp q)
  subst e
  unfold PySem.W.clsIn at hcD
  split at hcD
  . rename_i c' d' cd' sl' ho
    have z := (X _ _ ho).symm.trans htp
    cases z
  . cases hcD
 ca := fun X I k => by
  obtain ⟨⟨vs, h1⟩, o, h2⟩ := I
  exact exc_clsOf T X (ox := _) (o := o) ⟨h1, rfl, rfl, h2⟩ k
end
end L2
namespace L2
open PySem PySem.Spec PyProof.Rows
noncomputable def itO (kd : Bool) (l : Addr) : Obj := match kd with
 | true => { cls := .type "tuple_iterator", data := .fields #[.ref l, .int 0 0] }
 | false => { cls := .type "list_iterator", data := .fields #[.ref l, .int 0 0] }
noncomputable def SeqK (kd : Bool) (h : Heap) (l : Addr) (xs : Array Value) : Prop := match kd with
 | true => h.IsTuple l xs
 | false => h.IsList l xs
theorem ItK.new {kd : Bool} {h : Heap} {i l : Addr} (e : h.get? i = some (itO kd l)) : ItK kd h i l 0 := by
 cases kd
 . exact ⟨_, e, rfl, rfl⟩
 . exact ⟨_, e, rfl, rfl⟩
theorem iterK {prog : Program} {w : World} {A : Around} {E : Value -> Shared -> Prop} {s : Shared} {kd : Bool} {l : Addr} {xs : Array Value} {Q : Value -> Shared -> Prop} (x : SeqK kd s.heap l xs)
  (hQ : Q (.ref s.heap.objs.size) { s with heap := s.heap.push (itO kd l) }) : wpAny (model prog w) A (pyIter (.ref l)) Q E s := by
 cases kd
 . exact wpAny_pyIter_list (show s.heap.IsList l xs from x) hQ
 . exact wpAny_pyIter_tuple (show s.heap.IsTuple l xs from x) hQ
section
variable {prog : Program} {w : World} {A : Around} {E : Value -> Shared -> Prop} {s : Shared}
end
section
variable {X : Cx} {es : List Expr} {k : Nat} {tp : Pos}
theorem Inv.seqK {pins : List (Addr × Obj)} {σ : St} {H : Hp} {s : Shared} {kd : Bool} {a : Addr} {xs : List V} (I : Inv X pins σ H s) (h : SqK kd X.K H a xs) : ∃ its : List Value, SeqK kd s.heap a its.toArray := by
 cases kd
 . obtain ⟨its, _, p, _⟩ := I.list h
   exact ⟨its, p.isList⟩
 . obtain ⟨its, _, p, _⟩ := I.tuple h
   exact ⟨its, p⟩
end
section
variable {bs : List Str} {g : TG} {te : TE} {σ : St} {H : Hp} {Q : VK}
end
section
variable {X : Cx}
end
structure Bt (m : Nat) (i : Int) : Prop where
 lt : i.natAbs < 2 ^ m
theorem Bt.mono {m n : Nat} {i : Int} (h : Bt m i) (hl : m <= n) : Bt n i := ⟨Nat.lt_of_lt_of_le h.lt (Nat.pow_le_pow_right (by decide) hl)⟩
theorem Bt.of_le {m : Nat} {i j : Int} (h : Bt m j) (hl : i.natAbs <= j.natAbs) : Bt m i := ⟨Nat.lt_of_le_of_lt hl h.lt⟩
theorem Bt.neg {m : Nat} {i : Int} (h : Bt m i) : Bt m (-i) := h.of_le (by omega)
theorem Bt.mul {m n : Nat} {i j : Int} (h : Bt m i) (h' : Bt n j) : Bt (m + n) (i * j) := ⟨by
 rw [Int.natAbs_mul, Nat.pow_add]
 exact Nat.mul_lt_mul'' h.lt h'.lt⟩
theorem Bt.small {i : Int} (h1 : -(2 ^ 62) < i) (h2 : i < 2 ^ 62) : Bt 62 i := ⟨by omega⟩
theorem Bt.mulOk {m n : Nat} {i j : Int} (h : Bt m i) (h' : Bt n j) (hm : m + n <= 134217728) : IntMulOk i j := IntMulOk.of_le (intBits_le_iff.mpr h.lt) (intBits_le_iff.mpr h'.lt) hm
section
variable {X : Cx}
theorem op_mulB : OpR X (binaryOp .Mult) (rI (fun i j => Bt 60000 i /\ Bt 60000 j) fun i j => .int (i * j)) := opI fun i j _ _ _ _ _ hc q => mul_int q (hc.1.mulOk hc.2 (by decide))
theorem op_fdivB : OpR X (binaryOp .FloorDiv) (rI (fun _ j => j ≠ 0 /\ Bt 8000 j) fun i j => .int (i.fdiv j)) := opI fun i j _ _ _ _ _ hc q => floordiv_int hc.1 q (.inl (PyProof.noPylong_of_log2 (by
 have h := hc.2.lt
 have h0 : j.natAbs ≠ 0 := by have := hc.1; omega
 have := (Nat.log2_lt h0).mpr h
 omega)))
noncomputable def fnD (nm : Str) : PyData := .dict [(.str nm, .none)]
noncomputable def isFnD : PyData -> Bool
 | .dict [(.str _, .none)] => true
 | _ => false
mutual
inductive Dt (K : PySem.W.Frag) (H : Hp) : V -> PyData -> Prop
 | non : Dt K H .non .none
 | bl (b) : Dt K H (.bl b) (.bool b)
 | int (i) : Dt K H (.int i) (.int i)
 | str (x) : Dt K H (.str x) (.str x)
 | tup {a xs ds} : SqT K H a xs -> Dts K H xs ds -> Dt K H (.ref a) (.tuple ds)
 | lst {a xs ds} : SqL K H a xs -> Dts K H xs ds -> Dt K H (.ref a) (.list ds)
 | exc {ea C dx fld v d} : ExcC K C -> PySem.W.findIn K (.ref C) fld = some none -> H ea = some (.ext (ExcAt ea C dx)) -> H dx = some (.xd [(fld, v)]) -> Dt K H v d -> Dt K H (.ref ea) (excD C fld d)
 | fn {f nm} : PySem.W.nsIn K mainGlobals nm = some (some (.ref f)) -> Dt K H (.ref f) (fnD nm)
inductive Dts (K : PySem.W.Frag) (H : Hp) : List V -> List PyData -> Prop
 | nil : Dts K H [] []
 | cons {x xs d ds} : Dt K H x d -> Dts K H xs ds -> Dts K H (x :: xs) (d :: ds)
end
theorem Same.seqT {K : PySem.W.Frag} {H H' : Hp} {a : Addr} {xs : List V} (e : Same H H') (h : SqT K H a xs) : SqT K H' a xs := by
 rcases h with (h | ⟨o, h⟩) | h
 . exact .inl (.inl (e _ _ h))
 . exact .inl (.inr ⟨o, e _ _ h⟩)
 . exact .inr h
theorem Same.new {H : Hp} {p : Addr} {o : HO} (h : H p = none) : Same H (upd H p o) := fun b u e => by rw [upd_ne (ne_of_none e h)]; exact e
mutual
theorem Dt.same {K : PySem.W.Frag} {H H' : Hp} (e : Same H H') {x : V} {d : PyData} (h : Dt K H x d) : Dt K H' x d := by
 cases h with
 | non => exact .non
 | bl b => exact .bl b
 | int i => exact .int i
 | str x => exact .str x
 | tup h t => exact .tup (e.seqT h) (Dts.same e t)
 | lst h t => exact .lst (e.seq h) (Dts.same e t)
 | exc c n h1 h2 t => exact .exc c n (e _ _ h1) (e _ _ h2) (Dt.same e t)
 | fn h => exact .fn h
theorem Dts.same {K : PySem.W.Frag} {H H' : Hp} (e : Same H H') {xs : List V} {ds : List PyData} (h : Dts K H xs ds) : Dts K H' xs ds := by
 cases h with
 | nil => exact .nil
 | cons h t => exact .cons (Dt.same e h) (Dts.same e t)
end
theorem Dts.length {K : PySem.W.Frag} {H : Hp} : ∀ {xs : List V} {ds : List PyData}, Dts K H xs ds -> xs.length = ds.length
 | _, _, .nil => rfl
 | _, _, .cons _ t => by rw [List.length_cons, List.length_cons, Dts.length t]
theorem Dts.get {K : PySem.W.Frag} {H : Hp} : ∀ {xs : List V} {ds : List PyData} {i : Nat} {d : PyData}, Dts K H xs ds -> ds[i]? = some d -> ∃ x, xs[i]? = some x /\ Dt K H x d
 | _, _, _, _, .nil, e => by simp at e
 | _, _, 0, _, .cons h _, e => by simp at e; subst e; exact ⟨_, rfl, h⟩
 | _, _, i + 1, d, .cons _ t, e => by
  obtain ⟨x, h1, h2⟩ := Dts.get (i := i) (d := d) t (by simpa using e)
  exact ⟨x, by simpa using h1, h2⟩
mutual
theorem Inv.reads {pins : List (Addr × Obj)} {σ : St} {H : Hp} {s : Shared} (I : Inv X pins σ H s) {x : V} {u : Value} {d : PyData} (h : Dt X.K H x d) (r : RelV x u) (hc : d.canLay0 = true) : ∃ as, Reads s.heap u d as := by
 cases h with
 | non => cases r; exact ⟨_, .none⟩
 | bl b => cases r; exact ⟨_, .bool b⟩
 | int i => obtain ⟨t, rfl⟩ := r; exact ⟨_, .int i t⟩
 | str y => obtain ⟨t, rfl⟩ := r; exact ⟨_, .str y t⟩
 | tup h t =>
  cases r
  obtain ⟨its, rv, ⟨o, e, c, n, dd⟩, _⟩ := I.tuple h
  obtain ⟨as, ra⟩ := Inv.readsAll I t rv (by rw [PyData.canLay0] at hc; exact hc)
  exact ⟨_, .tuple e c dd (by simpa using ra)⟩
 | lst h t =>
  cases r
  obtain ⟨its, rv, pl, _⟩ := I.list h
  obtain ⟨o, e, c, n, dd⟩ := pl.isList
  obtain ⟨as, ra⟩ := Inv.readsAll I t rv (by rw [PyData.canLay0] at hc; exact hc)
  exact ⟨_, .list e c dd (by simpa using ra)⟩
 | exc _ _ _ _ _ => rw [excD, PyData.canLay0] at hc; cases hc
 | fn _ => rw [fnD, PyData.canLay0] at hc; cases hc
theorem Inv.readsAll {pins : List (Addr × Obj)} {σ : St} {H : Hp} {s : Shared} (I : Inv X pins σ H s) {xs : List V} {us : List Value} {ds : List PyData} (h : Dts X.K H xs ds) (r : Vals xs us) (hc : PyData.canLayAll0 ds = true) : ∃ as, ReadsAll s.heap us ds as := by
 cases h with
 | nil => cases r; exact ⟨_, .nil⟩
 | cons h t =>
  cases r with
  | cons r rr =>
   rw [PyData.canLayAll0, Bool.and_eq_true] at hc
   obtain ⟨as, ra⟩ := Inv.reads I h r hc.1
   obtain ⟨bs, rb⟩ := Inv.readsAll I t rr hc.2
   exact ⟨_, .cons ra rb⟩
end
theorem op_eqD (hu : X.A.units + 64 < cLine) : OpR X (compareOp .Eq) (fun x y H Q => ∃ d e, Dt X.K H x d /\ Dt X.K H y e /\ SeqAt.shaped d = true /\ SeqAt.shaped e = true /\ Q (.bl (PyData.eqv d e)) H) := by
 intro pins s σ H x y v u Q I rx ry h
 obtain ⟨d, e, h1, h2, s1, s2, q⟩ := h
 obtain ⟨as, ra⟩ := I.reads h1 rx (SeqAt.canLay_of_shaped s1)
 obtain ⟨bs, rb⟩ := I.reads h2 ry (SeqAt.canLay_of_shaped s2)
 exact eq_dataH ra rb s1 s2 hu ⟨.bl _, H, I, rfl, q⟩
theorem op_neD (hu : X.A.units + 64 < cLine) : OpR X (compareOp .NotEq) (fun x y H Q => ∃ d e, Dt X.K H x d /\ Dt X.K H y e /\ SeqAt.shaped d = true /\ SeqAt.shaped e = true /\ Q (.bl (!PyData.eqv d e)) H) := by
 intro pins s σ H x y v u Q I rx ry h
 obtain ⟨d, e, h1, h2, s1, s2, q⟩ := h
 obtain ⟨as, ra⟩ := I.reads h1 rx (SeqAt.canLay_of_shaped s1)
 obtain ⟨bs, rb⟩ := I.reads h2 ry (SeqAt.canLay_of_shaped s2)
 exact ne_dataH ra rb s1 s2 hu ⟨.bl _, H, I, rfl, q⟩
end
theorem scal_int (i j : Int) : scal (.int i) (.int j) = true := rfl
theorem scal_str (i j : Str) : scal (.str i) (.str j) = true := rfl
theorem scal_bl (i j : Bool) : scal (.bl i) (.bl j) = true := rfl
end L2
namespace L2
open PySem PySem.Spec PyProof.Rows
noncomputable def tyOf : PyData -> String
 | .none => "NoneType"
 | .bool _ => "bool"
 | .int _ => "int"
 | .str _ => "str"
 | .tuple _ => "tuple"
 | .list _ => "list"
 | _ => "dict"
noncomputable def isI (d : PyData) (n : String) : Bool := tyOf d == n || (tyOf d == "bool" && n == "int")
theorem kit_five {K : PySem.W.Frag} : ∀ {t n : String}, (t = "NoneType" \/ t = "bool" \/ t = "int" \/ t = "str" \/ t = "tuple" \/ t = "list") -> five n -> PySem.W.kitOne K (.type t) (.type n) = some (t == n || (t == "bool" && n == "int")) := by
 intro t n ht hn
 rcases ht with rfl | rfl | rfl | rfl | rfl | rfl <;> rcases hn with rfl | rfl | rfl | rfl | rfl <;> first | rfl | decide +kernel
section
variable {X : Cx}
theorem call_isD : CallR X (.builtin "isinstance") (fun xs H Q => ∃ x n d, xs = [x, .ty n] /\ Dt X.K H x d /\ isFnD d = false /\ five n /\ Q (.bl (isI d n)) H) := by
 intro pins s σ H xs us Q I r h
 obtain ⟨x, n, d, rfl, hd, hfn, hn, q⟩ := h
 obtain ⟨u, c, rfl, rx, rc⟩ := vals2 r
 cases rc
 have fin : ∀ tk, EP X pins σ Q (.bool (isI d n)) { s with toks := tk } := fun tk => ⟨.bl _, H, I.tok tk, rfl, q⟩
 cases hd with
 | non => cases rx; exact PySem.W.kia_one PySem.W.kitx_none I.kIn True.intro (kit_five (by simp) hn) (fun z => nomatch z) fin
 | bl b => cases rx; exact PySem.W.kia_one PySem.W.kitx_bool I.kIn True.intro (kit_five (by simp) hn) (fun z => nomatch z) fin
 | int i => obtain ⟨t, rfl⟩ := rx; exact PySem.W.kia_one PySem.W.kitx_int I.kIn True.intro (kit_five (by simp) hn) (fun z => nomatch z) fin
 | str y => obtain ⟨t, rfl⟩ := rx; exact PySem.W.kia_one PySem.W.kitx_str I.kIn True.intro (kit_five (by simp) hn) (fun z => nomatch z) fin
 | tup h t =>
  cases rx
  obtain ⟨its, rv, ⟨o, e, c, n, dd⟩, _⟩ := I.tuple h
  exact PySem.W.kia_one PySem.W.kitx_tuple I.kIn ⟨o, e, c⟩ (kit_five (by simp) hn) (fun z => nomatch z) fin
 | lst h t =>
  cases rx
  obtain ⟨its, rv, pl, _⟩ := I.list h
  obtain ⟨o, e, c, n, dd⟩ := pl.isList
  exact PySem.W.kia_one PySem.W.kitx_list I.kIn ⟨o, e, c⟩ (kit_five (by simp) hn) (fun z => nomatch z) fin
 | exc c nf h1 h2 t =>
  rename_i ea C dx fld v d
  cases rx
  obtain ⟨mA, ⟨ob, es, ep, ho, _⟩, _⟩ := I.hok _ _ h2
  have e0 : isI (excD C fld d) n = false := by rcases hn with rfl | rfl | rfl | rfl | rfl <;> rfl
  rw [e0] at fin
  exact PySem.W.kia_one (kitx_exc c) I.kIn ⟨(I.hok _ _ h1).1, ob, ho⟩ (c.five hn) (fun z => nomatch z) fin
 | fn _ => cases hfn
end
section
variable {prog : Program} {w : World} {A : Around} {E : Value -> Shared -> Prop} {s : Shared}
theorem getItem_whole {t sl : Addr} {items : Array Value} {vl vu : Value} {lo hi : Option Int} {Q : Value -> Shared -> Prop} (ht : IsTup s.heap t items) (hs : s.heap.IsSliceOf sl vl vu .none) (pl : IsPart vl lo) (pu : IsPart vu hi)
  (hw : HT.sIx items.size 0 lo = 0 /\ HT.sIx items.size items.size hi = items.size) (h : Q (.ref t) s) : wpAny (model prog w) A (getItem (.ref t) (.ref sl)) Q E s := by
 obtain ⟨os, hos, hcs, hds⟩ := id hs
 have hTs : s.TypeIs (.ref sl) "slice" := ⟨os, hos, hcs⟩
 unfold getItem
 try with_reducible refine wpAny_holding ?_
 first | refine wpAny_bind (wpAny_pure ?_) | skip
 refine wpAny_bind (wpAny_sequenceKey ht.typeIs (by decide) ?_)
 refine wpAny_bind (wpAny_callSpecial?_slot (name := Str.ofString "__getitem__") ht.typeIs PyProof.Rows.slot_tuple_getitem (wpAny_call_entry PyProof.Rows.slot_tuple_getitem ht.typeIs entry_tuple_getitem ?_ (args_tuple_getitem _ _)))
 show wpAny _ _ (Builtin.Tuple.tupleItemsOf (.ref t) >>= _) _ _ s
 refine wpAny_bind (tupleItemsOf_ ht (wpAny_bind (wpAny_typeOf hTs ?_)))
 rw [if_pos (by decide)]
 refine wpAny_bind (HT.sliceApplied_gen hs pl pu ?_)
 rw [hw.1, hw.2]
 show wpAny _ _ (if ((((0 : Nat) : Int)) == 0 && (1 : Int) == 1 && (items.size - 0) == items.size) = true then _ else _) _ _ s
 rw [if_pos (by simp)]
 show wpAny _ _ (Builtin.Tuple.tupleIsExact (.ref t) >>= _) _ _ s
 unfold Builtin.Tuple.tupleIsExact
 refine wpAny_bind (wpAny_bind (wpAny_typeOf ht.typeIs (wpAny_pure ?_)))
 rw [if_pos (by decide)]
 first
  | exact wpAny_bind (wpAny_rule (wpAny_bind (wpAny_pure ⟨_, rfl, wpAny_pure h⟩)))
  | exact wpAny_bind (wpAny_rule (wpAny_pure ⟨_, rfl, wpAny_pure h⟩))
  | exact wpAny_bind (wpAny_rule (wpAny_bind (wpAny_pure (wpAny_pure ⟨_, rfl, wpAny_pure h⟩))))
theorem cat_nil {t b : Addr} {vs ws : List Value} {Q : Value -> Shared -> Prop} (ht : IsTup s.heap t vs.toArray) (hb : IsTup s.heap b ws.toArray) (hv : vs = []) (h : Q (.ref b) s) : wpAny (model prog w) A (binaryOp .Add (.ref t) (.ref b)) Q E s := by
 obtain ⟨⟨cls, dd, data, sl⟩, ho, hc, n, hd⟩ := id ht
 obtain ⟨⟨cls2, dd2, data2, sl2⟩, ho2, hc2, n2, hd2⟩ := id hb
 simp only at hc hd hc2 hd2
 subst hc hd hc2 hd2
 exact concat_meets ⟨_, ho, rfl⟩ ⟨_, ho2, rfl⟩ noFill_tuple_add seq_tuple_add PySem.F.slot_tuple_add PySem.F.entry_tuple_add (PySem.F.args_tuple_add_2 _ _)
  (tuple_addW0 t b vs.toArray ws.toArray n n2 dd dd2 sl sl2 (by simp [hv])) ⟨ho, ho2, h⟩
end
section
variable {X : Cx}
end
theorem ex2 {α β : Type} {x : α} {l : β} {P : α -> β -> Prop} : (∃ v r, (x = v /\ l = r) /\ P v r) ↔ P x l := ⟨fun ⟨_, _, ⟨h1, h2⟩, h⟩ => by subst h1; subst h2; exact h, fun h => ⟨x, l, ⟨rfl, rfl⟩, h⟩⟩
end L2
namespace L2
open PySem PySem.Spec PyProof.Rows
inductive PV where
 | dat (d : PyData)
 | own (l : List PyData)
noncomputable def PV.d : PV -> PyData
 | .dat d => d
 | .own l => .list l
@[simp] theorem PV.d_dat (d : PyData) : (PV.dat d).d = d := rfl
@[simp] theorem PV.d_own (l : List PyData) : (PV.own l).d = .list l := rfl
noncomputable abbrev Ds := List (Option PV)
noncomputable abbrev As := List (Option Addr)
noncomputable def hid (H : Hp) (as : As) (O : List Addr) : Hp := fun b => if b ∈ O \/ some b ∈ as then none else H b
theorem hid_some {H : Hp} {as : As} {O : List Addr} {b : Addr} {o : HO} : hid H as O b = some o ↔ (b ∉ O /\ some b ∉ as /\ H b = some o) := by
 unfold hid
 split
 . rename_i h
   constructor
   . intro z; cases z
   . rintro ⟨h1, h2, _⟩
     exact (h.elim h1 h2).elim
 . rename_i h
   constructor
   . intro z; exact ⟨fun q => h (.inl q), fun q => h (.inr q), z⟩
   . rintro ⟨_, _, z⟩; exact z
theorem hid_le {H H' : Hp} {as as' : As} {O O' : List Addr} (e : ∀ b o, b ∉ O -> some b ∉ as -> H b = some o -> b ∉ O' /\ some b ∉ as' /\ H' b = some o) : Same (hid H as O) (hid H' as' O') := fun b o h => by
 obtain ⟨h1, h2, h3⟩ := hid_some.mp h
 exact hid_some.mpr (e b o h1 h2 h3)
theorem hid_same {H H' : Hp} {as : As} {O : List Addr} (e : Same H H') : Same (hid H as O) (hid H' as O) := hid_le fun b o h1 h2 h3 => ⟨h1, h2, e b o h3⟩
theorem hid_sub {H H' : Hp} {as as' : As} {O : List Addr} (e : Same H H') (h : ∀ b, some b ∈ as' -> some b ∈ as) : Same (hid H as O) (hid H' as' O) := hid_le fun b o h1 h2 h3 => ⟨h1, fun z => h2 (h b z), e b o h3⟩
theorem hid_all {H : Hp} {as : As} {O : List Addr} : Same (hid H as O) H := fun b o h => (hid_some.mp h).2.2
theorem hid_as {H : Hp} {as bs : As} {O : List Addr} : hid H (bs ++ as) O = hid H bs (O ++ as.filterMap id) := by
 funext b
 unfold hid
 have : (b ∈ O \/ some b ∈ bs ++ as) ↔ (b ∈ O ++ as.filterMap id \/ some b ∈ bs) := by
  simp only [List.mem_append, List.mem_filterMap, id]
  constructor
  . rintro (h | h | h)
    . exact .inl (.inl h)
    . exact .inr h
    . exact .inl (.inr ⟨_, h, rfl⟩)
  . rintro ((h | ⟨x, h, e⟩) | h)
    . exact .inl h
    . subst e; exact .inr (.inr h)
    . exact .inr (.inl h)
 by_cases c : b ∈ O \/ some b ∈ bs ++ as
 . rw [if_pos c, if_pos (this.mp c)]
 . rw [if_neg c, if_neg (fun z => c (this.mpr z))]
noncomputable def SlotOk (K : PySem.W.Frag) (O : List Addr) (as : As) (H : Hp) (si : Option (Option V)) (ai : Option (Option Addr)) : PV -> Prop
 | .dat d => ∃ v, si = some (some v) /\ Dt K (hid H as O) v d
 | .own l => ∃ a xs, si = some (some (.ref a)) /\ ai = some (some a) /\ H a = some (.lst xs) /\ Dts K (hid H as O) xs l
structure DS (K : PySem.W.Frag) (O : List Addr) (H₀ : Hp) (as : As) (σ : St) (H : Hp) (ds : Ds) : Prop where
 ls : σ.length = ds.length
 la : as.length = ds.length
 same : Same H₀ H
 new : ∀ a, some a ∈ as -> H₀ a = none /\ ∃ xs, H a = some (.lst xs)
 dom : ∀ a ∈ O, ∃ o, H₀ a = some o
 inj : ∀ (i j : Nat) (a : Addr), as[i]? = some (some a) -> as[j]? = some (some a) -> i = j
 slot : ∀ (i : Nat) (pv : PV), ds[i]? = some (some pv) -> SlotOk K O as H σ[i]? as[i]? pv
noncomputable def vis (fr : Bool) (as : As) : As := if fr = true then as else []
theorem vis_mem {fr : Bool} {as : As} {b : Addr} (h : some b ∈ vis fr as) : some b ∈ as := by
 unfold vis at h
 split at h
 . exact h
 . simp at h
noncomputable def RX (K : PySem.W.Frag) (O : List Addr) (va : As) (H H' : Hp) (v : V) : PV -> Prop
 | .dat d => Dt K (hid H' va O) v d
 | .own l => ∃ a xs, v = .ref a /\ H a = none /\ H' a = some (.lst xs) /\ Dts K (hid H' (some a :: va) O) xs l
structure Dom (H : Hp) (va : As) (O : List Addr) : Prop where
 o : ∀ a ∈ O, ∃ u, H a = some u
 a : ∀ a, some a ∈ va -> ∃ u, H a = some u
section
variable {K : PySem.W.Frag} {O : List Addr} {H₀ H H' H2 : Hp} {as va : As} {σ : St} {ds : Ds} {v : V} {pv : PV} {fr : Bool}
theorem Dom.same (D : Dom H va O) (e : Same H H') : Dom H' va O := ⟨fun a h => let ⟨u, z⟩ := D.o a h; ⟨u, e _ _ z⟩, fun a h => let ⟨u, z⟩ := D.a a h; ⟨u, e _ _ z⟩⟩
theorem DS.dm (S : DS K O H₀ as σ H ds) : Dom H (vis fr as) O := ⟨fun a h => let ⟨u, z⟩ := S.dom a h; ⟨u, S.same _ _ z⟩, fun a h => let ⟨_, z⟩ := (S.new a (vis_mem h)).2; ⟨_, z⟩⟩
theorem DS.nO (S : DS K O H₀ as σ H ds) {a : Addr} (h : some a ∈ as) : a ∉ O := fun z => by
 obtain ⟨o, e⟩ := S.dom a z
 rw [(S.new a h).1] at e
 cases e
theorem SlotOk.grow {si : Option (Option V)} {ai : Option (Option Addr)} (h : SlotOk K O as H si ai pv) (e : Same H H') : SlotOk K O as H' si ai pv := by
 cases pv with
 | dat d => obtain ⟨v, e1, h⟩ := h; exact ⟨v, e1, h.same (hid_same e)⟩
 | own l => obtain ⟨a, xs, e1, e2, e3, h⟩ := h; exact ⟨a, xs, e1, e2, e _ _ e3, h.same (hid_same e)⟩
theorem DS.grow (S : DS K O H₀ as σ H ds) (e : Same H H') : DS K O H₀ as σ H' ds :=
 ⟨S.ls, S.la, S.same.trans e, fun a h => ⟨(S.new a h).1, let ⟨o, z⟩ := (S.new a h).2; ⟨o, e _ _ z⟩⟩, S.dom, S.inj, fun i pv h => (S.slot i pv h).grow e⟩
theorem RX.grow (h : RX K O va H H' v pv) (e : Same H' H2) : RX K O va H H2 v pv := by
 cases pv with
 | dat d => exact Dt.same (hid_same e) h
 | own l => obtain ⟨a, xs, e1, e2, e3, h⟩ := h; exact ⟨a, xs, e1, e2, e _ _ e3, h.same (hid_same e)⟩
theorem RX.back (h : RX K O va H H' v pv) (e : Same H2 H) : RX K O va H2 H' v pv := by
 cases pv with
 | dat d => exact h
 | own l => obtain ⟨a, xs, e1, e2, e3, h⟩ := h; exact ⟨a, xs, e1, e.free e2, e3, h⟩
theorem RX.dt (h : RX K O va H H' v pv) (D : Dom H va O) : Dt K (hid H' va O) v pv.d := by
 cases pv with
 | dat d => exact h
 | own l =>
  obtain ⟨a, xs, rfl, e2, e3, h⟩ := h
  refine .lst (SqL.of (hid_some.mpr ⟨fun z => ?_, fun z => ?_, e3⟩)) (h.same (hid_sub (Same.refl _) fun b z => List.mem_cons_of_mem _ z))
  . obtain ⟨u, z⟩ := D.o a z
    rw [e2] at z; cases z
  . obtain ⟨u, z⟩ := D.a a z
    rw [e2] at z; cases z
theorem RX.less {vb : As} (h : RX K O va H H' v pv) (s : ∀ b, some b ∈ vb -> some b ∈ va) : RX K O vb H H' v pv := by
 cases pv with
 | dat d => exact Dt.same (hid_sub (Same.refl _) s) h
 | own l =>
  obtain ⟨a, xs, rfl, e2, e3, h⟩ := h
  refine ⟨a, xs, rfl, e2, e3, h.same (hid_sub (Same.refl _) fun b z => ?_)⟩
  rcases List.mem_cons.mp z with z | z
  . rw [z]; exact List.mem_cons_self
  . exact List.mem_cons_of_mem _ (s b z)
theorem hid_vis : Same (hid H as O) (hid H (vis fr as) O) := hid_sub (Same.refl _) fun _ h => vis_mem h
noncomputable def Flat : PyData -> Bool
 | .none => true
 | .bool _ => true
 | .int _ => true
 | .str _ => true
 | _ => false
theorem Dts.append : ∀ {xs ys : List V} {ds es : List PyData}, Dts K H xs ds -> Dts K H ys es -> Dts K H (xs ++ ys) (ds ++ es)
 | _, _, _, _, .nil, h => h
 | _, _, _, _, .cons a t, h => .cons a (Dts.append t h)
theorem Dts.get' : ∀ {xs : List V} {ds : List PyData} {i : Nat} {x : V}, Dts K H xs ds -> xs[i]? = some x -> ∃ d, ds[i]? = some d /\ Dt K H x d
 | _, _, _, _, .nil, e => by simp at e
 | _, _, 0, _, .cons h _, e => by simp at e; subst e; exact ⟨_, rfl, h⟩
 | _, _, i + 1, d, .cons _ t, e => by
  obtain ⟨x, h1, h2⟩ := Dts.get' (i := i) (x := d) t (by simpa using e)
  exact ⟨x, by simpa using h1, h2⟩
theorem Dts.take : ∀ {xs : List V} {ds : List PyData} (n : Nat), Dts K H xs ds -> Dts K H (xs.take n) (ds.take n)
 | _, _, 0, _ => by simp; exact .nil
 | _, _, _ + 1, .nil => by simp; exact .nil
 | _, _, n + 1, .cons h t => by simp only [List.take_succ_cons]; exact .cons h (Dts.take n t)
theorem Dts.drop : ∀ {xs : List V} {ds : List PyData} (n : Nat), Dts K H xs ds -> Dts K H (xs.drop n) (ds.drop n)
 | _, _, 0, h => by simpa using h
 | _, _, _ + 1, .nil => by simp; exact .nil
 | _, _, n + 1, .cons h t => by simp only [List.drop_succ_cons]; exact Dts.drop n t
theorem Dts.reverse : ∀ {xs : List V} {ds : List PyData}, Dts K H xs ds -> Dts K H xs.reverse ds.reverse
 | _, _, .nil => by simp; exact .nil
 | _, _, .cons h t => by simp only [List.reverse_cons]; exact (Dts.reverse t).append (.cons h .nil)
theorem Dts.set : ∀ {xs : List V} {ds : List PyData} (i : Nat) {x : V} {d : PyData}, Dts K H xs ds -> Dt K H x d -> Dts K H (xs.set i x) (ds.set i d)
 | _, _, _, _, _, .nil, _ => by simp; exact .nil
 | _, _, 0, _, _, .cons _ t, h => by simp only [List.set_cons_zero]; exact .cons h t
 | _, _, i + 1, _, _, .cons a t, h => by simp only [List.set_cons_succ]; exact .cons a (Dts.set i t h)
end
noncomputable def TX (K : PySem.W.Frag) (fr : Bool) (te : TE) (F : Ds -> Option PV) : Prop :=
 ∀ (O : List Addr) (H₀ : Hp) (as : As) (σ : St) (H : Hp) (ds : Ds) (pv : PV) (Q : VK), DS K O H₀ as σ H ds -> F ds = some pv -> (∀ v H', Same H H' -> RX K O (vis fr as) H H' v pv -> Q v H') -> te σ H Q
structure PX (X : Cx) (fr : Bool) (e : Expr) (te : TE) (F : Ds -> Option PV) : Prop where
 p : PE X e te
 t : TX X.K fr te F
noncomputable def TTX (K : PySem.W.Frag) (tt : TT) (F : Ds -> Option Bool) : Prop :=
 ∀ (O : List Addr) (H₀ : Hp) (as : As) (σ : St) (H : Hp) (ds : Ds) (b : Bool) (Q : Bool -> Hp -> Prop), DS K O H₀ as σ H ds -> F ds = some b -> (∀ H', Same H H' -> Q b H') -> tt σ H Q
structure PTX (X : Cx) (e : Expr) (tt : TT) (F : Ds -> Option Bool) : Prop where
 p : PT X e tt
 t : TTX X.K tt F
structure PWX (X : Cx) (e : Expr) (tt : TT) (F : Ds -> Option Bool) : Prop where
 p : PW X e tt
 t : TTX X.K tt F
noncomputable def TAX (K : PySem.W.Frag) (fr : Bool) (t : TA) (F : Ds -> Option (List PyData)) : Prop :=
 ∀ (O : List Addr) (H₀ : Hp) (as : As) (σ : St) (H : Hp) (ds : Ds) (l : List PyData) (Q : List V -> Hp -> Prop), DS K O H₀ as σ H ds -> F ds = some l -> (∀ vs H', Same H H' -> Dts K (hid H' (vis fr as) O) vs l -> Q vs H') -> t σ H Q
structure PAX (X : Cx) (fr : Bool) (es : List Expr) (t : TA) (F : Ds -> Option (List PyData)) : Prop where
 p : PA X es t
 t : TAX X.K fr t F
noncomputable def R2X (K : PySem.W.Frag) (r : R2) (f : PyData -> PyData -> Option PV) : Prop :=
 ∀ (O : List Addr) (va : As) (H : Hp) (x y : V) (d e : PyData) (pv : PV) (Q : VK), Dom H va O -> Dt K (hid H va O) x d -> Dt K (hid H va O) y e -> f d e = some pv -> (∀ v H', Same H H' -> RX K O va H H' v pv -> Q v H') -> r x y H Q
noncomputable def R1X (K : PySem.W.Frag) (r : V -> Hp -> VK -> Prop) (f : PyData -> Option PV) : Prop :=
 ∀ (O : List Addr) (va : As) (H : Hp) (x : V) (d : PyData) (pv : PV) (Q : VK), Dom H va O -> Dt K (hid H va O) x d -> f d = some pv -> (∀ v H', Same H H' -> RX K O va H H' v pv -> Q v H') -> r x H Q
noncomputable def RNX (K : PySem.W.Frag) (r : List V -> Hp -> VK -> Prop) (f : List PyData -> Option PV) : Prop :=
 ∀ (O : List Addr) (va : As) (H : Hp) (xs : List V) (ds : List PyData) (pv : PV) (Q : VK), Dom H va O -> Dts K (hid H va O) xs ds -> f ds = some pv -> (∀ v H', Same H H' -> RX K O va H H' v pv -> Q v H') -> r xs H Q
noncomputable def fVar (i : Nat) : Ds -> Option PV := fun ds => match ds[i]? with
 | some (some (.dat d)) => some (.dat d)
 | _ => none
noncomputable def fVarB (i : Nat) : Ds -> Option PV := fun ds => match ds[i]? with
 | some (some pv) => some (.dat pv.d)
 | _ => none
noncomputable def fC (d : PyData) : Ds -> Option PV := fun _ => some (.dat d)
section
variable {X : Cx} {fr : Bool} {e a b c : Expr} {es rest : List Expr} {te ta tb tc : TE} {tt tu : TT} {t : TA} {Fa Fb Fc F : Ds -> Option PV} {Ft Fu : Ds -> Option Bool} {Fl : Ds -> Option (List PyData)} {pos : Pos}
theorem px_var (i : Nat) (h : PE X e (tVar i)) : PX X fr e (tVar i) (fVar i) := ⟨h, by
 intro O H₀ as σ H ds pv Q S hf q
 unfold fVar at hf
 split at hf
 . rename_i d hd
   cases hf
   obtain ⟨v, e1, h⟩ := S.slot i _ hd
   exact ⟨v, e1, q v H (Same.refl H) (h.same hid_vis)⟩
 . cases hf⟩
theorem px_c {v : V} {d : PyData} (h : PE X e (tC v)) (hd : ∀ H, Dt X.K H v d) : PX X fr e (tC v) (fC d) := ⟨h, by
 intro O H₀ as σ H ds pv Q S hf q
 cases hf
 exact q v H (Same.refl H) (hd _)⟩
theorem px_int {i : Int} {j} : PX X fr (.Constant (.int i) j pos) (tC (.int i)) (fC (.int i)) := px_c pe_int fun _ => .int i
theorem px_bl {i : Bool} {j} : PX X fr (.Constant (.bool i) j pos) (tC (.bl i)) (fC (.bool i)) := px_c pe_bl fun _ => .bl i
theorem px_str {i : Str} {j} : PX X fr (.Constant (.str i) j pos) (tC (.str i)) (fC (.str i)) := px_c pe_str fun _ => .str i
theorem px_non {j} : PX X fr (.Constant .none j pos) (tC .non) (fC .none) := px_c pe_non fun _ => .non
noncomputable def fFlat (F : Ds -> Option PV) : Ds -> Option PV := fun ds => (F ds).bind fun pv => if Flat pv.d = true then some (.dat pv.d) else none
noncomputable def fOp (f : PyData -> PyData -> Option PV) (Fa Fb : Ds -> Option PV) : Ds -> Option PV := fun ds => (Fa ds).bind fun x => (Fb ds).bind fun y => f x.d y.d
theorem tx_op {r : R2} {f : PyData -> PyData -> Option PV} (hr : R2X X.K r f) (ha : PX X fr a ta Fa) (hb : PX X fr b tb Fb) : TX X.K fr (tOp r ta tb) (fOp f Fa Fb) := by
 intro O H₀ as σ H ds pv Q S hf q
 unfold fOp at hf
 cases h1 : Fa ds with
 | none => rw [h1] at hf; cases hf
 | some x =>
  rw [h1] at hf
  simp only [Option.bind_some] at hf
  cases h2 : Fb ds with
  | none => rw [h2] at hf; cases hf
  | some y =>
   rw [h2] at hf
   simp only [Option.bind_some] at hf
   refine ha.t O H₀ as σ H ds x _ S h1 fun v H1 e1 r1 => ?_
   refine hb.t O H₀ as σ H1 ds y _ (S.grow e1) h2 fun u H2 e2 r2 => ?_
   have S2 := (S.grow e1).grow e2
   refine hr O (vis fr as) H2 v u x.d y.d pv Q S2.dm ((r1.grow e2).dt S.dm) (r2.dt (S.grow e1).dm) hf fun w H3 e3 r3 => ?_
   exact q w H3 ((e1.trans e2).trans e3) (r3.back (e1.trans e2))
theorem px_op {op : Operator} {r : R2} {f : PyData -> PyData -> Option PV} (ho : OpR X (binaryOp op) r) (hr : R2X X.K r f) (ha : PX X fr a ta Fa) (hb : PX X fr b tb Fb) : PX X fr (.BinOp a op b pos) (tOp r ta tb) (fOp f Fa Fb) :=
 ⟨pe_op ho ha.p hb.p, tx_op hr ha hb⟩
theorem px_cmp {op : CmpOp} {r : R2} {f : PyData -> PyData -> Option PV} (ho : OpR X (compareOp op) r) (hr : R2X X.K r f) (hm : behindInMarks op b = false) (ha : PX X fr a ta Fa) (hb : PX X fr b tb Fb) : PX X fr (.Compare a [op] [b] pos) (tOp r ta tb) (fOp f Fa Fb) :=
 ⟨pe_cmpR ho ha.p hb.p hm, tx_op hr ha hb⟩
theorem px_ix {r : R2} {f : PyData -> PyData -> Option PV} (ho : IxR X r) (hr : R2X X.K r f) (ha : PX X fr a ta Fa) (hb : PX X fr b tb Fb) (hs : PlainIx b) : PX X fr (.Subscript a b pos) (tOp r ta tb) (fOp f Fa Fb) :=
 ⟨pe_ix ho ha.p hb.p hs, tx_op hr ha hb⟩
noncomputable def fUn (f : PyData -> Option PV) (Fa : Ds -> Option PV) : Ds -> Option PV := fun ds => (Fa ds).bind fun x => f x.d
theorem px_un {op : UnaryOp} {r : V -> Hp -> VK -> Prop} {f : PyData -> Option PV} (ho : UnR X (unaryOp op) r) (hr : R1X X.K r f) (ha : PX X fr a ta Fa) : PX X fr (.UnaryOp op a pos) (tUn r ta) (fUn f Fa) := ⟨pe_un ho ha.p, by
 intro O H₀ as σ H ds pv Q S hf q
 unfold fUn at hf
 cases h1 : Fa ds with
 | none => rw [h1] at hf; cases hf
 | some x =>
  rw [h1] at hf
  simp only [Option.bind_some] at hf
  refine ha.t O H₀ as σ H ds x _ S h1 fun v H1 e1 r1 => ?_
  refine hr O (vis fr as) H1 v x.d pv Q (S.grow e1).dm (r1.dt S.dm) hf fun w H3 e3 r3 => ?_
  exact q w H3 (e1.trans e3) (r3.back e1)⟩
noncomputable def asB : PyData -> Option Bool
 | .bool b => some b
 | _ => none
noncomputable def bVal (F : Ds -> Option PV) : Ds -> Option Bool := fun ds => (F ds).bind fun x => asB x.d
theorem ttx_b {te : TE} (h : TX X.K fr te F) : TTX X.K (tB te) (bVal F) := by
 intro O H₀ as σ H ds b Q S hf q
 unfold bVal at hf
 cases h1 : F ds with
 | none => rw [h1] at hf; cases hf
 | some x =>
  rw [h1] at hf
  simp only [Option.bind_some] at hf
  refine h O H₀ as σ H ds x _ S h1 fun v H1 e1 r1 => ?_
  have d := r1.dt S.dm
  generalize x.d = z at d hf
  cases z with
  | bool c => cases hf; cases d; exact ⟨_, rfl, q H1 e1⟩
  | _ => cases hf
theorem ptx_val (h : PX X fr e te F) (he : ∀ whole, isTrue e X.env whole = (do let v <- whole; standAt e.pos; holding [v] (truthy v)) := by intro _; rfl) : PTX X e (tB te) (bVal F) := ⟨pt_val h.p he, ttx_b h.t⟩
theorem ptx_cmp {op : CmpOp} {r : R2} {f : PyData -> PyData -> Option PV} (ho : OpR X (compareOp op) r) (hr : R2X X.K r f) (hm : behindInMarks op b = false) (ha : PX X fr a ta Fa) (hb : PX X fr b tb Fb) : PTX X (.Compare a [op] [b] pos) (tTest (tOp r ta tb)) (bVal (fOp f Fa Fb)) :=
 ⟨pt_cmpR ho ha.p hb.p hm, ttx_b (tx_op hr ha hb)⟩
noncomputable def bNot (F : Ds -> Option Bool) : Ds -> Option Bool := fun ds => (F ds).bind fun b => some (!b)
noncomputable def bAnd (F G : Ds -> Option Bool) : Ds -> Option Bool := fun ds => (F ds).bind fun b => if b = true then G ds else some false
noncomputable def bOr (F G : Ds -> Option Bool) : Ds -> Option Bool := fun ds => (F ds).bind fun b => if b = true then some true else G ds
theorem ttx_not (h : TTX X.K tt Ft) : TTX X.K (tNot tt) (bNot Ft) := by
 intro O H₀ as σ H ds b Q S hf q
 unfold bNot at hf
 cases h1 : Ft ds with
 | none => rw [h1] at hf; cases hf
 | some x =>
  rw [h1] at hf
  cases hf
  exact h O H₀ as σ H ds x _ S h1 q
theorem ttx_and (h : TTX X.K tt Ft) (k : TTX X.K tu Fu) : TTX X.K (tAnd tt tu) (bAnd Ft Fu) := by
 intro O H₀ as σ H ds b Q S hf q
 unfold bAnd at hf
 cases h1 : Ft ds with
 | none => rw [h1] at hf; cases hf
 | some x =>
  rw [h1] at hf
  simp only [Option.bind_some] at hf
  refine h O H₀ as σ H ds x _ S h1 fun H1 e1 => ?_
  cases x with
  | true => exact k O H₀ as σ H1 ds b Q (S.grow e1) hf fun H2 e2 => q H2 (e1.trans e2)
  | false => cases hf; exact q H1 e1
theorem ttx_or (h : TTX X.K tt Ft) (k : TTX X.K tu Fu) : TTX X.K (tOr tt tu) (bOr Ft Fu) := by
 intro O H₀ as σ H ds b Q S hf q
 unfold bOr at hf
 cases h1 : Ft ds with
 | none => rw [h1] at hf; cases hf
 | some x =>
  rw [h1] at hf
  simp only [Option.bind_some] at hf
  refine h O H₀ as σ H ds x _ S h1 fun H1 e1 => ?_
  cases x with
  | false => exact k O H₀ as σ H1 ds b Q (S.grow e1) hf fun H2 e2 => q H2 (e1.trans e2)
  | true => cases hf; exact q H1 e1
theorem ptx_not (h : PTX X a tt Ft) : PTX X (.UnaryOp .Not a pos) (tNot tt) (bNot Ft) := ⟨pt_not h.p, ttx_not h.t⟩
theorem pwx_and1 (h : PTX X a tt Ft) : PWX X (.BoolOp .And [a] pos) tt Ft := ⟨pw_and1 h.p, h.t⟩
theorem pwx_or1 (h : PTX X a tt Ft) : PWX X (.BoolOp .Or [a] pos) tt Ft := ⟨pw_or1 h.p, h.t⟩
theorem pwx_and (h : PTX X a tt Ft) (k : PWX X (.BoolOp .And (b :: rest) pos) tu Fu) : PWX X (.BoolOp .And (a :: b :: rest) pos) (tAnd tt tu) (bAnd Ft Fu) := ⟨pw_and h.p k.p, ttx_and h.t k.t⟩
theorem pwx_or (h : PTX X a tt Ft) (k : PWX X (.BoolOp .Or (b :: rest) pos) tu Fu) : PWX X (.BoolOp .Or (a :: b :: rest) pos) (tOr tt tu) (bOr Ft Fu) := ⟨pw_or h.p k.p, ttx_or h.t k.t⟩
theorem PWX.pt (h : PWX X a tt Ft) : PTX X a tt Ft := ⟨PW.pt h.p, h.t⟩
noncomputable def fAnd (Fa Fb : Ds -> Option PV) : Ds -> Option PV := fun ds => (bVal Fa ds).bind fun b => if b = true then Fb ds else some (.dat (.bool false))
noncomputable def fOr (Fa Fb : Ds -> Option PV) : Ds -> Option PV := fun ds => (bVal Fa ds).bind fun b => if b = true then some (.dat (.bool true)) else Fb ds
noncomputable def fNot (Fa : Ds -> Option PV) : Ds -> Option PV := fun ds => (bVal Fa ds).bind fun b => some (.dat (.bool !b))
theorem px_one {op} (h : PX X fr a ta Fa) : PX X fr (.BoolOp op [a] pos) ta Fa := ⟨pe_one h.p, h.t⟩
theorem px_and (h : PX X fr a ta Fa) (k : PX X fr (.BoolOp .And (b :: rest) pos) tb Fb) : PX X fr (.BoolOp .And (a :: b :: rest) pos) (tAndV ta tb) (fAnd Fa Fb) := ⟨pe_and h.p k.p, by
 intro O H₀ as σ H ds pv Q S hf q
 unfold fAnd at hf
 cases h1 : bVal Fa ds with
 | none => rw [h1] at hf; cases hf
 | some x =>
  rw [h1] at hf
  simp only [Option.bind_some] at hf
  refine ttx_b h.t O H₀ as σ H ds x _ S h1 fun H1 e1 => ?_
  cases x with
  | true => exact k.t O H₀ as σ H1 ds pv Q (S.grow e1) hf fun v H2 e2 r => q v H2 (e1.trans e2) (r.back e1)
  | false => cases hf; exact q _ H1 e1 (Dt.bl _)⟩
theorem px_not (h : PX X fr a ta Fa) : PX X fr (.UnaryOp .Not a pos) (tNotV ta) (fNot Fa) := ⟨pe_not h.p, by
 intro O H₀ as σ H ds pv Q S hf q
 unfold fNot at hf
 cases h1 : bVal Fa ds with
 | none => rw [h1] at hf; cases hf
 | some x =>
  rw [h1] at hf
  cases hf
  exact ttx_b h.t O H₀ as σ H ds x _ S h1 fun H1 e1 => q _ H1 e1 (Dt.bl _)⟩
noncomputable def fIf (Ft : Ds -> Option Bool) (Fa Fb : Ds -> Option PV) : Ds -> Option PV := fun ds => (Ft ds).bind fun b => if b = true then Fa ds else Fb ds
noncomputable def fChain (f g : PyData -> PyData -> Option PV) (Fa Fb Fc : Ds -> Option PV) : Ds -> Option PV := fun ds => (Fa ds).bind fun x => (Fb ds).bind fun y => (f x.d y.d).bind fun r => (asB r.d).bind fun k =>
 if k = true then (Fc ds).bind fun z => g y.d z.d else some (.dat (.bool false))
noncomputable def aNil : Ds -> Option (List PyData) := fun _ => some []
noncomputable def aCons (F : Ds -> Option PV) (G : Ds -> Option (List PyData)) : Ds -> Option (List PyData) := fun ds => (F ds).bind fun x => (G ds).bind fun l => some (x.d :: l)
theorem pax_nil : PAX X fr [] tNil aNil := ⟨pa_nil, by
 intro O H₀ as σ H ds l Q S hf q
 cases hf
 exact q [] H (Same.refl H) .nil⟩
theorem pax_cons (h : PX X fr e te F) (k : PAX X fr es t Fl) (hs : starEach (e :: es) X.env = (false, eval e X.env) :: starEach es X.env := by rfl) : PAX X fr (e :: es) (tCons te t) (aCons F Fl) := ⟨pa_cons h.p k.p hs, by
 intro O H₀ as σ H ds l Q S hf q
 unfold aCons at hf
 cases h1 : F ds with
 | none => rw [h1] at hf; cases hf
 | some x =>
  cases h2 : Fl ds with
  | none => rw [h1, h2] at hf; cases hf
  | some m =>
   rw [h1, h2] at hf
   cases hf
   refine h.t O H₀ as σ H ds x _ S h1 fun v H1 e1 r1 => ?_
   refine k.t O H₀ as σ H1 ds m _ (S.grow e1) h2 fun vs H2 e2 r2 => ?_
   exact q (v :: vs) H2 (e1.trans e2) (.cons ((r1.grow e2).dt S.dm) r2)⟩
theorem Dom.fresh {H : Hp} {va : As} {O : List Addr} (D : Dom H va O) {p : Addr} (h : H p = none) : p ∉ O /\ some p ∉ va := by
 refine ⟨fun z => ?_, fun z => ?_⟩
 . obtain ⟨u, z⟩ := D.o p z
   rw [h] at z; cases z
 . obtain ⟨u, z⟩ := D.a p z
   rw [h] at z; cases z
theorem rx_tup {K : PySem.W.Frag} {H : Hp} {va : As} {O : List Addr} {p : Addr} {vs : List V} {l : List PyData} (D : Dom H va O) (h : H p = none) (hd : Dts K (hid H va O) vs l) : RX K O va H (upd H p (.tup vs)) (.ref p) (.dat (.tuple l)) := by
 obtain ⟨h1, h2⟩ := D.fresh h
 exact Dt.tup (SqT.of (hid_some.mpr ⟨h1, h2, upd_same⟩)) (hd.same (hid_same (Same.new h)))
theorem rx_lst {K : PySem.W.Frag} {H : Hp} {va : As} {O : List Addr} {p : Addr} {vs : List V} {l : List PyData} (h : H p = none) (hd : Dts K (hid H va O) vs l) : RX K O va H (upd H p (.lst vs)) (.ref p) (.own l) := by
 refine ⟨p, vs, rfl, h, upd_same, hd.same (hid_le fun b o h1 h2 h3 => ⟨h1, fun z => ?_, ?_⟩)⟩
 . rcases List.mem_cons.mp z with z | z
   . cases z; rw [h] at h3; cases h3
   . exact h2 z
 . exact Same.new h _ _ h3
noncomputable def fTup (Fl : Ds -> Option (List PyData)) : Ds -> Option PV := fun ds => (Fl ds).bind fun l => if l.length <= 1000000 then some (.dat (.tuple l)) else none
noncomputable def fLst (Fl : Ds -> Option (List PyData)) : Ds -> Option PV := fun ds => (Fl ds).bind fun l => if l.length <= 1000000 then some (.own l) else none
theorem szM {n : Nat} (h : n <= 1000000) : n <= sizeLine := Nat.le_trans h (by rw [sizeLine_eq]; decide)
theorem px_tup {x1} (h : PAX X fr es t Fl) : PX X fr (.Tuple es x1 pos) (tTup t) (fTup Fl) := ⟨pe_tup h.p, by
 intro O H₀ as σ H ds pv Q S hf q
 unfold fTup at hf
 cases h1 : Fl ds with
 | none => rw [h1] at hf; cases hf
 | some l =>
  rw [h1] at hf
  simp only [Option.bind_some] at hf
  split at hf
  . rename_i hl
    cases hf
    refine h.t O H₀ as σ H ds l _ S h1 fun vs H1 e1 r1 => ⟨by rw [r1.length]; exact szM hl, fun p hp => ?_⟩
    exact q _ _ (e1.trans (Same.new hp)) (RX.back (rx_tup (S.grow e1).dm hp r1) e1)
  . cases hf⟩
theorem px_lst (h : PAX X fr es t Fl) : PX X fr (.List es pos) (tLst t) (fLst Fl) := ⟨pe_lst h.p, by
 intro O H₀ as σ H ds pv Q S hf q
 unfold fLst at hf
 cases h1 : Fl ds with
 | none => rw [h1] at hf; cases hf
 | some l =>
  rw [h1] at hf
  simp only [Option.bind_some] at hf
  split at hf
  . rename_i hl
    cases hf
    refine h.t O H₀ as σ H ds l _ S h1 fun vs H1 e1 r1 => ⟨by rw [r1.length]; exact szM hl, fun p hp => ?_⟩
    exact q _ _ (e1.trans (Same.new hp)) (RX.back (rx_lst hp r1) e1)
  . cases hf⟩
noncomputable def fCall (F : List PyData -> Option PV) (Fl : Ds -> Option (List PyData)) : Ds -> Option PV := fun ds => (Fl ds).bind F
theorem tx_cb {r : List V -> Hp -> VK -> Prop} {f : List PyData -> Option PV} (hr : RNX X.K r f) (h : PAX X fr es t Fl) : TX X.K fr (tCB r t) (fCall f Fl) := by
 intro O H₀ as σ H ds pv Q S hf q
 unfold fCall at hf
 cases h1 : Fl ds with
 | none => rw [h1] at hf; cases hf
 | some l =>
  rw [h1] at hf
  simp only [Option.bind_some] at hf
  refine h.t O H₀ as σ H ds l _ S h1 fun vs H1 e1 r1 => ?_
  refine hr O (vis fr as) H1 vs l pv Q (S.grow e1).dm r1 hf fun w H3 e3 r3 => ?_
  exact q w H3 (e1.trans e3) (r3.back e1)
theorem px_callB {id : String} {x : Str} {p : Pos} {r : List V -> Hp -> VK -> Prop} {f : List PyData -> Option PV} (hc : CallR X (.builtin id) r) (hr : RNX X.K r f) (hg : Gl X x) (hm : X.mg x = none) (hv : bootBuiltins x = some (.builtin id)) (ha : PAX X fr (e :: es) t Fl) (hn : x ≠ "__name__" := by decide) (hdb : (x == ("__debug__" : Str)) = false := by decide)
  (he : starEach (e :: es) X.env = (false, eval e X.env) :: starEach es X.env := by rfl) (hpl : (backTo pos (starEach es X.env)).any (·.1) = false := by rfl) : PX X fr (.Call (.Name x p) (e :: es) [] pos) (tCB r t) (fCall f Fl) := ⟨pe_callB hc hg hm hv ha.p hn hdb he hpl, tx_cb hr ha⟩
theorem px_callTy {T : String} {x : Str} {p : Pos} {r : List V -> Hp -> VK -> Prop} {f : List PyData -> Option PV} (hc : CallR X (.type T) r) (hr : RNX X.K r f) (hg : Gl X x) (hm : X.mg x = none) (hv : bootBuiltins x = some (.type T)) (ha : PAX X fr (e :: es) t Fl) (hn : x ≠ "__name__" := by decide) (hdb : (x == ("__debug__" : Str)) = false := by decide)
  (he : starEach (e :: es) X.env = (false, eval e X.env) :: starEach es X.env := by rfl) (hpl : (backTo pos (starEach es X.env)).any (·.1) = false := by rfl) : PX X fr (.Call (.Name x p) (e :: es) [] pos) (tCB r t) (fCall f Fl) := ⟨pe_callTy hc hg hm hv ha.p hn hdb he hpl, tx_cb hr ha⟩
noncomputable def spF (K : PySem.W.Frag) (F : List PyData -> Option PV) : Sp := fun vs H Q _ => ∃ (O : List Addr) (ds : List PyData) (pv : PV), (∀ a ∈ O, ∃ u, H a = some u) /\ Dts K (hid H [] O) vs ds /\ F ds = some pv /\ ∀ v H', Same H H' -> RX K O [] H H' v pv -> Q v H'
theorem tx_call {E : XK} {f : List PyData -> Option PV} (h : PAX X fr es t Fl) : TX X.K fr (tCall (spF X.K f) [] E t) (fCall f Fl) := by
 intro O H₀ as σ H ds pv Q S hf q
 unfold fCall at hf
 cases h1 : Fl ds with
 | none => rw [h1] at hf; cases hf
 | some l =>
  rw [h1] at hf
  simp only [Option.bind_some] at hf
  refine h.t O H₀ as σ H ds l _ S h1 fun vs H1 e1 r1 => ?_
  have D := (S.grow e1).dm (fr := fr)
  rw [List.append_nil]
  have hh : ∀ H, hid H (vis fr as) O = hid H [] (O ++ (vis fr as).filterMap id) := fun H => hid_as (bs := [])
  refine ⟨O ++ (vis fr as).filterMap id, l, pv, fun a ha => ?_, by rw [<- hh]; exact r1, hf, fun v H2 e2 r2 => q v H2 (e1.trans e2) ?_⟩
  . rcases List.mem_append.mp ha with ha | ha
    . exact D.o a ha
    . obtain ⟨x, hx, e⟩ := List.mem_filterMap.mp ha
      have e' : x = some a := e
      subst e'
      exact D.a a hx
  . cases pv with
    | dat d =>
     have r2' : Dt X.K (hid H2 [] (O ++ (vis fr as).filterMap id)) v d := r2
     rw [<- hh] at r2'
     exact r2'
    | own l =>
     obtain ⟨a, xs, e3, e4, e5, r3⟩ := r2
     refine ⟨a, xs, e3, e1.free e4, e5, ?_⟩
     rw [show (some a :: vis fr as : As) = [some a] ++ vis fr as from rfl, hid_as]
     exact r3
theorem px_call {CX : CXT} {E : XK} {k : Nat} {f : Addr} {fd : FuncData} {ps : List Str} {x : Str} {p : Pos} {f' : List PyData -> Option PV} (G : FnOk X.prog X.w X.K X.mg X.base CX k f fd ps (spF X.K f')) (hr : Room k X.A) (hg : Gl X x) (hm : X.mg x = some (.ref f)) (hk : PySem.W.keepIn X.K (.ref f) = true) (hb : Binds X.K fd ps []) (hx : Passes CX X E)
  (ha : PAX X fr (e :: es) t Fl) (hdb : (x == ("__debug__" : Str)) = false := by decide) (he : starEach (e :: es) X.env = (false, eval e X.env) :: starEach es X.env := by rfl) (hpl : (backTo pos (starEach es X.env)).any (·.1) = false := by rfl) :
  PX X fr (.Call (.Name x p) (e :: es) [] pos) (tCall (spF X.K f') [] E t) (fCall f' Fl) := ⟨pe_call G hr hg hm hk hb .nil hx ha.p hdb he hpl, tx_call ha⟩
end
end L2
namespace L2
open PySem PySem.Spec PyProof.Rows
noncomputable def frz (ds : Ds) : Ds := ds.map (Option.map fun pv => .dat pv.d)
theorem rep_mem {b : Addr} {n : Nat} : some b ∉ (List.replicate n none : As) := fun z => by simp [List.mem_replicate] at z
theorem hid_rep {H : Hp} {n : Nat} {O : List Addr} : hid H (List.replicate n none) O = hid H [] O := by
 funext b
 unfold hid
 have h1 := rep_mem (b := b) (n := n)
 by_cases c : b ∈ O
 . rw [if_pos (.inl c), if_pos (.inl c)]
 . rw [if_neg (fun z => z.elim c h1), if_neg (fun z => z.elim c (by simp))]
section
variable {K : PySem.W.Frag} {O : List Addr} {H₀ H H' : Hp} {as : As} {σ : St} {ds : Ds} {v : V} {pv : PV} {fr : Bool}
theorem SlotOk.frz {si : Option (Option V)} {ai bi : Option (Option Addr)} {bs : As} (S : DS K O H₀ as σ H ds) (hi : ∀ a, ai = some (some a) -> some a ∈ as) (h : SlotOk K O as H si ai pv) (hb : ∀ b, some b ∈ bs -> some b ∈ as)
  (ho : ∀ a, ai = some (some a) -> some a ∉ bs) : SlotOk K O bs H si bi (.dat pv.d) := by
 cases pv with
 | dat d => obtain ⟨v, e1, h⟩ := h; exact ⟨v, e1, h.same (hid_sub (Same.refl _) hb)⟩
 | own l =>
  obtain ⟨a, xs, e1, e2, e3, h⟩ := h
  exact ⟨_, e1, .lst (SqL.of (hid_some.mpr ⟨S.nO (hi a e2), ho a e2, e3⟩)) (h.same (hid_sub (Same.refl _) hb))⟩
theorem DS.frz (S : DS K O H₀ as σ H ds) : DS K O H₀ (List.replicate ds.length none) σ H (frz ds) where
 ls := by simp [L2.frz, S.ls]
 la := by simp [L2.frz]
 same := S.same
 new := fun a h => absurd h rep_mem
 dom := S.dom
 inj := fun i j a h _ => absurd (List.mem_of_getElem? h) rep_mem
 slot := fun i pv h => by
  unfold L2.frz at h
  rw [List.getElem?_map] at h
  cases hd : ds[i]? with
  | none => rw [hd] at h; cases h
  | some x =>
   cases x with
   | none => rw [hd] at h; cases h
   | some w =>
    rw [hd] at h
    cases h
    exact (S.slot i w hd).frz S (fun a e => List.mem_of_getElem? e) (fun b z => absurd z rep_mem) (fun a _ => rep_mem)
noncomputable def frz1 (i : Nat) (ds : Ds) : Ds := match ds[i]? with
 | some (some (.own l)) => ds.set i (some (.dat (.list l)))
 | _ => ds
end
section
variable {X : Cx} {fr : Bool} {e : Expr} {te : TE} {F : Ds -> Option PV}
noncomputable def fFrz (F : Ds -> Option PV) : Ds -> Option PV := fun ds => F (frz ds)
theorem px_frz (h : PX X true e te F) : PX X false e te (fFrz F) := ⟨h.p, by
 intro O H₀ as σ H ds pv Q S hf q
 refine h.t O H₀ _ σ H _ pv Q S.frz hf fun v H' e r => q v H' e ?_
 exact r.less fun b z => by simp [vis] at z⟩
end
noncomputable def ItOk (K : PySem.W.Frag) (O : List Addr) (Hb : Hp) (J : It) (items : List PyData) : Prop :=
 ∀ H', Same Hb H' -> ∀ i, (i < items.length -> J.go i H') /\ (items.length <= i -> J.stop i H') /\
  ∀ x H'', J.yld i H' x H'' -> i < items.length -> Same H' H'' /\ ∃ d, items[i]? = some d /\ ∀ vb : As, (∀ b, some b ∈ vb -> Hb b = none /\ ∃ o, H' b = some o) -> (∀ b ∈ O, ∃ o, Hb b = some o) -> Dt K (hid H'' vb O) x d
noncomputable def TIX (K : PySem.W.Frag) (fr : Bool) (wi : TI) (Fi : Ds -> Option (List PyData)) : Prop :=
 ∀ (O : List Addr) (H₀ : Hp) (as : As) (σ : St) (H : Hp) (ds : Ds) (items : List PyData) (R : It -> Hp -> Prop), DS K O H₀ as σ H ds -> Fi ds = some items -> (∀ J H1, Same H H1 -> ItOk K O (hid H1 (vis fr as) []) J items -> R J H1) -> wi σ H R
structure PIX (X : Cx) (fr : Bool) (tg e : Expr) (wi : TI) (Fi : Ds -> Option (List PyData)) : Prop where
 p : PI X tg e wi
 t : TIX X.K fr wi Fi
noncomputable def seqOf : PyData -> Option (List PyData)
 | .list l => some l
 | .tuple l => some l
 | _ => none
noncomputable def iSq (F : Ds -> Option PV) : Ds -> Option (List PyData) := fun ds => (F ds).bind fun pv => seqOf pv.d
theorem it_seq {K : PySem.W.Frag} {O : List Addr} {H1 H' H'' : Hp} {va vb : As} {x : V} {d : PyData} (h : Dt K (hid H1 va O) x d) (e : Same (hid H1 va []) H') (e2 : Same H' H'') (hv : ∀ b, some b ∈ vb -> hid H1 va [] b = none /\ ∃ o, H' b = some o) : Dt K (hid H'' vb O) x d :=
 h.same (hid_le fun b o h1 h2 h3 => by
  have hb : hid H1 va [] b = some o := hid_some.mpr ⟨by simp, h2, h3⟩
  refine ⟨h1, fun z => ?_, e2 _ _ (e _ _ hb)⟩
  rw [(hv b z).1] at hb
  cases hb)
theorem hid_O {H1 : Hp} {va : As} {O : List Addr} : Same (hid H1 va O) (hid H1 va []) := hid_le fun b o _ h2 h3 => ⟨by simp, h2, h3⟩
section
variable {X : Cx} {fr : Bool} {tg e a b : Expr} {te : TE} {ta : TA} {F : Ds -> Option PV} {Fl : Ds -> Option (List PyData)} {p pos : Pos}
noncomputable def rngI (lo : Int) (n : Nat) : List PyData := (List.range n).map fun k => .int (lo + (k : Nat))
theorem it_rng {K : PySem.W.Frag} {O : List Addr} {Hb : Hp} {lo : Int} {n : Nat} : ItOk K O Hb (Itr lo n) (rngI lo n) := by
 intro H' e i
 have hl : (rngI lo n).length = n := by simp [rngI]
 refine ⟨fun hi => (by rw [hl] at hi; exact hi), fun hi => (by rw [hl] at hi; exact hi), fun x H'' y hi => ?_⟩
 obtain ⟨e1, e2⟩ := y
 subst e1
 subst e2
 rw [hl] at hi
 refine ⟨Same.refl _, .int (lo + i), ?_, fun vb _ _ => .int _⟩
 simp [rngI, List.getElem?_range hi]
noncomputable def rng1 : List PyData -> Option (List PyData)
 | [.int j] => @ite _ (-(4611686018427387904) <= j /\ j < 4611686018427387904) (Classical.propDecidable _) (some (rngI 0 j.toNat)) none
 | _ => none
noncomputable def iFn (f : List PyData -> Option (List PyData)) (Fl : Ds -> Option (List PyData)) : Ds -> Option (List PyData) := fun ds => (Fl ds).bind f
theorem pix_range1 (hg : Gl X "range") (hm : X.mg "range" = none) (ha : PAX X fr [a] ta Fl) (hs : starEach [a] X.env = [(false, eval a X.env)] := by rfl) : PIX X fr tg (.Call (.Name "range" p) [a] [] pos) (iRng1 ta) (iFn rng1 Fl) := ⟨pi_range1 hg hm ha.p hs, by
 intro O H₀ as σ H ds items R S hf q
 unfold iFn at hf
 cases h1 : Fl ds with
 | none => rw [h1] at hf; cases hf
 | some l =>
  rw [h1] at hf
  simp only [Option.bind_some] at hf
  refine ha.t O H₀ as σ H ds l _ S h1 fun vs H1 e1 r1 => ?_
  unfold rng1 at hf
  split at hf
  . rename_i j
    split at hf
    . rename_i hj
      cases hf
      cases r1 with
      | cons r rr =>
       cases r
       cases rr
       exact ⟨j, rfl, hj.1, hj.2, q _ H1 e1 it_rng⟩
    . cases hf
  . cases hf⟩
theorem Same.seqK {kd : Bool} {K : PySem.W.Frag} {H H' : Hp} {a : Addr} {xs : List V} (e : Same H H') (h : SqK kd K H a xs) : SqK kd K H' a xs := by
 cases kd
 . exact e.seq h
 . exact e.seqT h
theorem Dt.seqK {K : PySem.W.Frag} {H : Hp} {v : V} {d : PyData} {l : List PyData} (h : Dt K H v d) (hd : seqOf d = some l) : ∃ a kd xs, v = .ref a /\ SqK kd K H a xs /\ Dts K H xs l := by
 cases h with
 | lst hs ht => cases hd; exact ⟨_, false, _, rfl, hs, ht⟩
 | tup hs ht => cases hd; exact ⟨_, true, _, rfl, hs, ht⟩
 | _ => cases hd
end
noncomputable def TGB (K : PySem.W.Frag) (n : Nat) (g : TG) (gt : PyData -> Option (List PyData)) : Prop :=
 ∀ (O : List Addr) (va : As) (H : Hp) (v : V) (d : PyData) (σ : St) (bs : List PyData) (Q : St -> Hp -> Prop), Dt K (hid H va O) v d -> gt d = some bs -> (∀ vs, Dts K (hid H va O) vs bs -> vs.length = n -> Q (vs.map some ++ σ) H) -> g v (List.replicate n none ++ σ) H Q
noncomputable def gtName : PyData -> Option (List PyData) := fun d => some [d]
noncomputable def gtTup (n : Nat) : PyData -> Option (List PyData)
 | .tuple l => if l.length = n then some l else none
 | _ => none
theorem tgb_name {K : PySem.W.Frag} : TGB K 1 (gName 0) gtName := by
 intro O va H v d σ bs Q hd hg q
 cases hg
 exact q [v] (.cons hd .nil) rfl
theorem len3 {α : Type} : ∀ {l : List α}, l.length = 3 -> ∃ x y z, l = [x, y, z]
 | [x, y, z], _ => ⟨x, y, z, rfl⟩
noncomputable def dats (l : List PyData) : Ds := l.map fun d => some (.dat d)
@[simp] theorem dats_nil : dats [] = [] := rfl
@[simp] theorem dats_cons (d : PyData) (l : List PyData) : dats (d :: l) = some (.dat d) :: dats l := rfl
theorem Dts.slots {K : PySem.W.Frag} {H : Hp} {vs : List V} {l : List PyData} (h : Dts K H vs l) {i : Nat} {pv : PV} (e : (dats l)[i]? = some (some pv)) : ∃ d v, pv = .dat d /\ vs[i]? = some v /\ Dt K H v d := by
 unfold dats at e
 rw [List.getElem?_map] at e
 cases hd : l[i]? with
 | none => rw [hd] at e; cases e
 | some d =>
  rw [hd] at e
  cases e
  obtain ⟨x, h1, h2⟩ := h.get hd
  exact ⟨d, x, rfl, h1, h2⟩
theorem hid_pre {H : Hp} {n : Nat} {as : As} {O : List Addr} : hid H (List.replicate n none ++ as) O = hid H as O := by
 funext b
 unfold hid
 have : some b ∈ List.replicate n none ++ as ↔ some b ∈ as := by
  rw [List.mem_append]
  exact ⟨fun z => z.elim (fun z => absurd z rep_mem) id, .inr⟩
 by_cases c : b ∈ O \/ some b ∈ as
 . rw [if_pos (c.imp id this.mpr), if_pos c]
 . rw [if_neg (fun z => c (z.imp id this.mp)), if_neg c]
theorem DS.pre {K : PySem.W.Frag} {O : List Addr} {H₀ H : Hp} {as : As} {σ : St} {ds : Ds} {vs : List V} {l : List PyData} (S : DS K O H₀ as σ H ds) (h : Dts K (hid H as O) vs l) :
  DS K O H₀ (List.replicate l.length none ++ as) (vs.map some ++ σ) H (dats l ++ ds) where
 ls := by simp [dats, S.ls, h.length]
 la := by simp [dats, S.la]
 same := S.same
 new := fun a z => S.new a ((List.mem_append.mp z).elim (fun z => absurd z rep_mem) id)
 dom := S.dom
 inj := fun i j a h1 h2 => by
  have f : ∀ i, (List.replicate l.length none ++ as)[i]? = some (some a) -> l.length <= i /\ as[i - l.length]? = some (some a) := fun i z => by
   rw [List.getElem?_append] at z
   split at z
   . exact absurd (List.mem_of_getElem? z) rep_mem
   . rename_i hi
     rw [List.length_replicate] at hi z
     exact ⟨by omega, z⟩
  obtain ⟨h3, h4⟩ := f i h1
  obtain ⟨h5, h6⟩ := f j h2
  have := S.inj _ _ a h4 h6
  omega
 slot := fun i pv e => by
  have hl := h.length
  have ld : (dats l).length = l.length := by simp [dats]
  rw [List.getElem?_append] at e
  split at e
  . rename_i hi
    rw [ld] at hi
    obtain ⟨d, v, rfl, h1, h2⟩ := h.slots e
    refine ⟨v, ?_, by rw [hid_pre]; exact h2⟩
    rw [List.getElem?_append_left (by simp; omega), List.getElem?_map, h1]
    rfl
  . rename_i hi
    rw [ld] at hi e
    have sl := S.slot _ pv e
    rw [List.getElem?_append_right (by simp; omega), List.getElem?_append_right (by simp; omega)]
    simp only [List.length_map, List.length_replicate, hl]
    cases pv with
    | dat d => obtain ⟨v, e1, h⟩ := sl; exact ⟨v, e1, by rw [hid_pre]; exact h⟩
    | own l' => obtain ⟨a, xs, e1, e2, e3, h⟩ := sl; exact ⟨a, xs, e1, e2, e3, by rw [hid_pre]; exact h⟩
noncomputable def compD (gt : PyData -> Option (List PyData)) (Fc : Ds -> Option Bool) (Fe : Ds -> Option PV) (ds : Ds) : List PyData -> Option (List PyData)
 | [] => some []
 | x :: r => (gt x).bind fun bs => (Fc (dats bs ++ ds)).bind fun b => if b = true then (Fe (dats bs ++ ds)).bind fun y => (compD gt Fc Fe ds r).bind fun l => some (y.d :: l) else compD gt Fc Fe ds r
noncomputable def fComp (Fi : Ds -> Option (List PyData)) (gt : PyData -> Option (List PyData)) (Fc : Ds -> Option Bool) (Fe : Ds -> Option PV) : Ds -> Option PV := fun ds => (Fi ds).bind fun items => if items.length <= 1000000 then (compD gt Fc Fe ds items).bind fun l => some (.own l) else none
structure PIfsX (X : Cx) (ifs : List Expr) (t : TT) (F : Ds -> Option Bool) : Prop where
 p : PIfs X ifs t
 t : TTX X.K t F
noncomputable def bTrue : Ds -> Option Bool := fun _ => some true
theorem pifsx_nil {X : Cx} : PIfsX X [] tIfs0 bTrue := ⟨pifs_nil, by
 intro O H₀ as σ H ds b Q S hf q
 cases hf
 exact q H (Same.refl H)⟩
theorem pifsx_one {X : Cx} {c : Expr} {t : TT} {F : Ds -> Option Bool} (h : PTX X c t F) : PIfsX X [c] t F := ⟨pifs_one h.p, h.t⟩
theorem px_comp {X : Cx} {bs nb : List Str} {elt tg iter : Expr} {ifs : List Expr} {scope : Scope} {pos : Pos} {wi : TI} {g : TG} {tt : TT} {te : TE} {Fi : Ds -> Option (List PyData)} {gt : PyData -> Option (List PyData)} {Fc : Ds -> Option Bool} {Fe : Ds -> Option PV}
  (hc : X.calm = true) (B : BlkOk X bs nb scope) (hi : PIX X true tg iter wi Fi) (go : GOwn bs.length g) (hg : ∀ cl C fp s H pins, PG (blk X bs nb scope cl C fp s H pins) tg g) (hgt : TGB X.K bs.length g gt) (ht : ∀ cl C fp s H pins, PIfsX (blk X bs nb scope cl C fp s H pins) ifs tt Fc) (he : ∀ cl C fp s H pins, PX (blk X bs nb scope cl C fp s H pins) true elt te Fe)
  (hs : ∀ x, foldedSetIterable iter X.env x = pure x := by intro _; rfl) : PX X true (.ListComp elt [⟨tg, iter, ifs, 0⟩] scope pos) (tComp bs wi g tt te) (fComp Fi gt Fc Fe) := ⟨pe_comp hc B hi.p go hg (fun _ _ _ _ _ _ => (ht _ _ _ _ _ _).p) (fun _ _ _ _ _ _ => (he _ _ _ _ _ _).p) hs, by
 intro O H₀ as σ H ds pv Q S hf q
 have tE : TX X.K true te Fe := (he [] 0 [] X.s₀ X.H₀ []).t
 have tC : TTX X.K tt Fc := (ht [] 0 [] X.s₀ X.H₀ []).t
 unfold fComp at hf
 cases h1 : Fi ds with
 | none => rw [h1] at hf; cases hf
 | some items =>
  rw [h1] at hf
  simp only [Option.bind_some] at hf
  split at hf
  . rename_i hn
    cases h2 : compD gt Fc Fe ds items with
    | none => rw [h2] at hf; cases hf
    | some l =>
     rw [h2] at hf
     cases hf
     refine hi.t O H₀ as σ H ds items _ S h1 fun J H1 e1 it => ?_
     have S1 := S.grow e1
     have it' : ItOk X.K O (hid H1 as []) J items := it
     refine ⟨items.length, fun i ys H' => i <= items.length /\ Same H1 H' /\ ∃ l1 l2, Dts X.K (hid H' as O) ys l1 /\ compD gt Fc Fe ds (items.drop i) = some l2 /\ l1 ++ l2 = l, szM hn, ⟨Nat.zero_le _, Same.refl _, [], l, .nil, h2, rfl⟩, ?_⟩
     rintro i ys H' ⟨hi', e2, l1, l2, d1, c2, el⟩
     have S2 := S1.grow e2
     obtain ⟨go', st', yl'⟩ := it' H' (hid_all.trans e2) i
     by_cases hlt : i < items.length
     . refine .inr ⟨go' hlt, hlt, fun x H'' y => ?_⟩
       obtain ⟨e3, d, ed, dt⟩ := yl' x H'' y hlt
       have S3 := S2.grow e3
       have dx : Dt X.K (hid H'' as O) x d := dt as (fun b hb => ⟨by unfold hid; rw [if_pos (.inr hb)], let ⟨_, z⟩ := (S2.new b hb).2; ⟨_, z⟩⟩) fun b hb => by
        obtain ⟨o, z⟩ := S.dom b hb
        refine ⟨o, hid_some.mpr ⟨by simp, fun z2 => ?_, S1.same _ _ z⟩⟩
        rw [(S.new b z2).1] at z
        cases z
       have ed' : items.drop i = d :: items.drop (i + 1) := by
        rw [List.drop_eq_getElem_cons hlt]
        have : items[i] = d := by
         have z := List.getElem?_eq_getElem hlt
         rw [ed] at z
         exact (Option.some.inj z).symm
        rw [this]
       rw [ed'] at c2
       unfold compD at c2
       cases h3 : gt d with
       | none => rw [h3] at c2; cases c2
       | some bs' =>
        rw [h3] at c2
        simp only [Option.bind_some] at c2
        cases h4 : Fc (dats bs' ++ ds) with
        | none => rw [h4] at c2; cases c2
        | some b =>
         rw [h4] at c2
         simp only [Option.bind_some] at c2
         refine hgt O as H'' x d σ bs' _ dx h3 fun vs dv lv => ?_
         have S4 := S3.pre dv
         refine tC O H₀ _ _ H'' _ b _ S4 h4 fun H5 e5 => ?_
         cases b with
         | false =>
          rw [if_neg (by decide)] at c2
          rw [if_neg (by decide)]
          exact ⟨hlt, (e2.trans e3).trans e5, l1, l2, d1.same (hid_same (e3.trans e5)), c2, el⟩
         | true =>
          rw [if_pos rfl] at c2
          rw [if_pos rfl]
          cases h5 : Fe (dats bs' ++ ds) with
          | none => rw [h5] at c2; cases c2
          | some yv =>
           rw [h5] at c2
           simp only [Option.bind_some] at c2
           cases h6 : compD gt Fc Fe ds (items.drop (i + 1)) with
           | none => rw [h6] at c2; cases c2
           | some l3 =>
            rw [h6] at c2
            cases c2
            refine tE O H₀ _ _ H5 _ yv _ (S4.grow e5) h5 fun u H6 e6 r6 => ?_
            have d6 := r6.dt (S4.grow e5).dm
            have d7 : Dt X.K (hid H6 as O) u yv.d := by
             have z : Dt X.K (hid H6 (List.replicate bs'.length none ++ as) O) u yv.d := d6
             rw [hid_pre] at z
             exact z
            exact ⟨hlt, ((e2.trans e3).trans e5).trans e6, l1 ++ [yv.d], l3, (d1.same (hid_same ((e3.trans e5).trans e6))).append (.cons d7 .nil), h6, by rw [<- el]; simp⟩
     . have hi2 : i = items.length := by omega
       subst hi2
       rw [List.drop_length] at c2
       cases c2
       rw [List.append_nil] at el
       subst el
       exact .inl ⟨st' (Nat.le_refl _), fun p hp => q _ _ ((e1.trans e2).trans (Same.new hp)) (RX.back (rx_lst hp d1) (e1.trans e2))⟩
  . cases hf⟩
end L2
namespace L2
open PySem PySem.Spec PyProof.Rows
inductive Out where
 | next (ds : Ds)
 | ret (pv : PV)
 | brk (ds : Ds)
 | cont (ds : Ds)
 | up (x : PyData)
noncomputable def UpAt (K : PySem.W.Frag) (O : List Addr) (H : Hp) (ea : Addr) (x : PyData) : Prop := ∃ C dx fld v d, x = excD C fld d /\ ExcC K C /\ PySem.W.findIn K (.ref C) fld = some none /\ H ea = some (.ext (ExcIs ea C (some dx))) /\ H dx = some (.xd [(fld, v)]) /\ dx ∉ O /\ Dt K (hid H [] (ea :: O)) v d
noncomputable def EndsOk (X : Cx) (O : List Addr) (H₀ : Hp) (D : Ends) : Out -> Prop
 | .next ds => ∀ as σ H, DS X.K O H₀ as σ H ds -> D.nx σ H
 | .brk ds => ∀ as σ H, DS X.K O H₀ as σ H ds -> D.bk σ H
 | .cont ds => ∀ as σ H, DS X.K O H₀ as σ H ds -> D.ct σ H
 | .ret pv => ∀ v H, Same H₀ H -> RX X.K O [] H₀ H v pv -> D.rt v H
 | .up x => ∀ ea H, Same H₀ H -> H₀ ea = none -> UpAt X.K O H ea x -> ∀ pins σ s, Inv X pins σ H s -> X.xe (.ref ea) s
noncomputable def TSX (X : Cx) (t : TS) (G : Ds -> Option Out) : Prop :=
 ∀ (O : List Addr) (H₀ : Hp) (as : As) (σ : St) (H : Hp) (ds : Ds) (D : Ends) (o : Out), DS X.K O H₀ as σ H ds -> G ds = some o -> EndsOk X O H₀ D o -> t D σ H
structure PSX (X : Cx) (st : Stmt) (t : TS) (G : Ds -> Option Out) : Prop where
 p : PS X st t
 t : TSX X t G
structure PSsX (X : Cx) (st : List Stmt) (t : TS) (G : Ds -> Option Out) : Prop where
 p : PSs X st t
 t : TSX X t G
noncomputable def gNext : Ds -> Option Out := fun ds => some (.next ds)
noncomputable def gSeq (G1 G2 : Ds -> Option Out) : Ds -> Option Out := fun ds => (G1 ds).bind fun o => match o with
 | .next ds' => G2 ds'
 | o => some o
section
variable {X : Cx} {st : Stmt} {rest sa sb : List Stmt} {t u : TS} {G G1 G2 : Ds -> Option Out} {fr : Bool} {e c : Expr} {te : TE} {tt : TT} {F : Ds -> Option PV} {Ft : Ds -> Option Bool} {pos : Pos}
theorem pssx_nil : PSsX X [] tNext gNext := ⟨pss_nil, by
 intro O H₀ as σ H ds D o S hf q
 cases hf
 exact q as σ H S⟩
theorem pssx_one (h : PSX X st t G) : PSsX X [st] t G := ⟨pss_one h.p, h.t⟩
theorem pssx_cons (h1 : PSX X st t G1) (h2 : PSsX X rest u G2) : PSsX X (st :: rest) (tSeq t u) (gSeq G1 G2) := ⟨pss_cons h1.p h2.p, by
 intro O H₀ as σ H ds D o S hf q
 unfold gSeq at hf
 cases e1 : G1 ds with
 | none => rw [e1] at hf; cases hf
 | some o1 =>
  rw [e1] at hf
  simp only [Option.bind_some] at hf
  refine h1.t O H₀ as σ H ds { D with nx := u D } o1 S e1 ?_
  cases o1 with
  | next ds1 => exact fun as' σ' H' S' => h2.t O H₀ as' σ' H' ds1 D o S' hf q
  | ret pv => cases hf; exact q
  | brk ds1 => cases hf; exact q
  | cont ds1 => cases hf; exact q
  | up x => cases hf; exact q⟩
noncomputable def gFrz1 (i : Nat) (G : Ds -> Option Out) : Ds -> Option Out := fun ds => G (frz1 i ds)
theorem DS.set {K : PySem.W.Frag} {O : List Addr} {H₀ H : Hp} {as : As} {σ : St} {ds : Ds} {v : V} {d : PyData} (S : DS K O H₀ as σ H ds) (i : Nat) (h : Dt K (hid H as O) v d) : DS K O H₀ (as.set i none) (σ.set i (some v)) H (ds.set i (some (.dat d))) := by
 have sub : ∀ b, some b ∈ as.set i none -> some b ∈ as := fun b z => by
  rcases List.mem_or_eq_of_mem_set z with z | z
  . exact z
  . cases z
 refine ⟨by simp [S.ls], by simp [S.la], S.same, fun a h => S.new a (sub a h), S.dom, fun j k a h1 h2 => ?_, fun j pv hj => ?_⟩
 . have f : ∀ j, (as.set i none)[j]? = some (some a) -> as[j]? = some (some a) := fun j z => by
     rw [List.getElem?_set] at z
     split at z
     . split at z <;> cases z
     . exact z
   exact S.inj j k a (f j h1) (f k h2)
 . by_cases hij : i = j
   . subst hij
     rw [List.getElem?_set] at hj
     rw [if_pos rfl] at hj
     split at hj
     . rename_i hl
       cases hj
       exact ⟨v, by rw [List.getElem?_set_self (by rw [S.ls]; exact hl)], h.same (hid_sub (Same.refl _) sub)⟩
     . cases hj
   . rw [List.getElem?_set_ne hij] at hj
     have sl := S.slot j pv hj
     rw [List.getElem?_set_ne hij, List.getElem?_set_ne hij]
     cases pv with
     | dat d => obtain ⟨v, e1, h⟩ := sl; exact ⟨v, e1, h.same (hid_sub (Same.refl _) sub)⟩
     | own l' => obtain ⟨a, xs, e1, e2, e3, h⟩ := sl; exact ⟨a, xs, e1, e2, e3, h.same (hid_sub (Same.refl _) sub)⟩
theorem DS.setO {K : PySem.W.Frag} {O : List Addr} {H₀ H : Hp} {as : As} {σ : St} {ds : Ds} {l : List PyData} (S : DS K O H₀ as σ H ds) (i : Nat) {a : Addr} {xs : List V} (hn : H₀ a = none) (ha : some a ∉ as) (hH : H a = some (.lst xs))
  (hv : ∀ j pv, ds[j]? = some (some pv) -> j ≠ i -> SlotOk K O (some a :: as) H σ[j]? as[j]? pv) (h : Dts K (hid H (some a :: as) O) xs l) : DS K O H₀ (as.set i (some a)) (σ.set i (some (.ref a))) H (ds.set i (some (.own l))) := by
 have sub : ∀ b, some b ∈ as.set i (some a) -> some b ∈ some a :: as := fun b z => by
  rcases List.mem_or_eq_of_mem_set z with z | z
  . exact List.mem_cons_of_mem _ z
  . rw [z]; exact List.mem_cons_self
 refine ⟨by simp [S.ls], by simp [S.la], S.same, fun b hb => ?_, S.dom, fun j k b h1 h2 => ?_, fun j pv hj => ?_⟩
 . rcases List.mem_cons.mp (sub b hb) with z | z
   . cases z; exact ⟨hn, _, hH⟩
   . exact S.new b z
 . have f : ∀ j, (as.set i (some a))[j]? = some (some b) -> (j = i /\ b = a) \/ (j ≠ i /\ as[j]? = some (some b)) := fun j z => by
     rw [List.getElem?_set] at z
     split at z
     . rename_i e
       split at z
       . cases z; exact .inl ⟨e.symm, rfl⟩
       . cases z
     . rename_i e
       exact .inr ⟨fun q => e q.symm, z⟩
   rcases f j h1 with ⟨e1, e2⟩ | ⟨e1, e2⟩ <;> rcases f k h2 with ⟨e3, e4⟩ | ⟨e3, e4⟩
   . rw [e1, e3]
   . subst e2; exact absurd (List.mem_of_getElem? e4) ha
   . subst e4; exact absurd (List.mem_of_getElem? e2) ha
   . exact S.inj j k b e2 e4
 . by_cases hij : i = j
   . subst hij
     rw [List.getElem?_set] at hj
     rw [if_pos rfl] at hj
     split at hj
     . rename_i hl
       cases hj
       exact ⟨a, xs, by rw [List.getElem?_set_self (by rw [S.ls]; exact hl)], by rw [List.getElem?_set_self (by rw [S.la]; exact hl)], hH, h.same (hid_sub (Same.refl _) sub)⟩
     . cases hj
   . rw [List.getElem?_set_ne hij] at hj
     have sl := hv j pv hj (fun z => hij z.symm)
     rw [List.getElem?_set_ne hij, List.getElem?_set_ne hij]
     cases pv with
     | dat d => obtain ⟨v, e1, h⟩ := sl; exact ⟨v, e1, h.same (hid_sub (Same.refl _) sub)⟩
     | own l' => obtain ⟨a, xs, e1, e2, e3, h⟩ := sl; exact ⟨a, xs, e1, e2, e3, h.same (hid_sub (Same.refl _) sub)⟩
theorem DS.store {K : PySem.W.Frag} {O : List Addr} {H₀ H H1 : Hp} {as : As} {σ : St} {ds : Ds} {v : V} {pv : PV} (S : DS K O H₀ as σ H ds) (e1 : Same H H1) (i : Nat) (r : RX K O as H H1 v pv) : ∃ as', DS K O H₀ as' (σ.set i (some v)) H1 (ds.set i (some pv)) := by
 have S1 := S.grow e1
 cases pv with
 | dat d => exact ⟨_, S1.set i r⟩
 | own l =>
  obtain ⟨a, xs, rfl, e2, e3, h⟩ := r
  have na : some a ∉ as := fun z => by
   obtain ⟨_, o, z⟩ := S.new a z
   rw [e2] at z; cases z
  have sm : Same (hid H as O) (hid H1 (some a :: as) O) := hid_le fun b o h1 h2 h3 => ⟨h1, fun z => by
   rcases List.mem_cons.mp z with z | z
   . cases z; rw [e2] at h3; cases h3
   . exact h2 z, e1 _ _ h3⟩
  refine ⟨_, S1.setO i (S.same.free e2) na e3 (fun j pv hj _ => ?_) h⟩
  have sl := S.slot j pv hj
  cases pv with
  | dat d => obtain ⟨v, z1, z⟩ := sl; exact ⟨v, z1, z.same sm⟩
  | own l' => obtain ⟨a', xs', z1, z2, z3, z⟩ := sl; exact ⟨a', xs', z1, z2, e1 _ _ z3, z.same sm⟩
noncomputable def gSet (i : Nat) (F : Ds -> Option PV) : Ds -> Option Out := fun ds => (F ds).bind fun pv => some (.next (ds.set i (some pv)))
noncomputable def gSetD (i : Nat) (F : Ds -> Option PV) : Ds -> Option Out := fun ds => (F ds).bind fun pv => some (.next (ds.set i (some (.dat pv.d))))
theorem psx_set {i : Nat} {x : Str} {pos' : Pos} (hN : X.N.Nodup) (hi : X.N[i]? = some x) (hx : Loc X.env.scope x) (he : PX X true e te F) (hs : swapsWith e (some (.Name x pos')) pos.line X.env = pure false := by rfl) (hf : X.fn x = true \/ X.env.scope.names.lookup x = some .local := by first | exact .inl rfl | exact .inr rfl | assumption) :
  PSX X (.Assign [.Name x pos'] e pos) (tAsg te (gName i)) (gSet i F) := ⟨ps_set hN hi hx he.p hs hf, by
 intro O H₀ as σ H ds D o S h q
 unfold gSet at h
 cases e1 : F ds with
 | none => rw [e1] at h; cases h
 | some pv =>
  rw [e1] at h
  cases h
  refine he.t O H₀ as σ H ds pv _ S e1 fun v H1 s1 r1 => ?_
  obtain ⟨as', S'⟩ := S.store s1 i r1
  exact q as' _ _ S'⟩
theorem psx_setD {i : Nat} {x : Str} {pos' : Pos} (hN : X.N.Nodup) (hi : X.N[i]? = some x) (hx : Loc X.env.scope x) (he : PX X true e te F) (hs : swapsWith e (some (.Name x pos')) pos.line X.env = pure false := by rfl) (hf : X.fn x = true \/ X.env.scope.names.lookup x = some .local := by first | exact .inl rfl | exact .inr rfl | assumption) :
  PSX X (.Assign [.Name x pos'] e pos) (tAsg te (gName i)) (gSetD i F) := ⟨ps_set hN hi hx he.p hs hf, by
 intro O H₀ as σ H ds D o S h q
 unfold gSetD at h
 cases e1 : F ds with
 | none => rw [e1] at h; cases h
 | some pv =>
  rw [e1] at h
  cases h
  refine he.t O H₀ as σ H ds pv _ S e1 fun v H1 s1 r1 => ?_
  exact q _ _ _ ((S.grow s1).set i (r1.dt S.dm))⟩
noncomputable def gPar (i j : Nat) (Fl : Ds -> Option (List PyData)) : Ds -> Option Out := fun ds => (Fl ds).bind fun l => match l with
 | [a, b] => some (.next ((ds.set i (some (.dat a))).set j (some (.dat b))))
 | _ => none
noncomputable def gRet (F : Ds -> Option PV) : Ds -> Option Out := fun ds => (F ds).bind fun pv => some (.ret pv)
theorem psx_ret (he : PX X fr e te F) : PSX X (.Return (some e) pos) (tRet te) (gRet F) := ⟨ps_ret he.p, by
 intro O H₀ as σ H ds D o S h q
 unfold gRet at h
 cases e1 : F ds with
 | none => rw [e1] at h; cases h
 | some pv =>
  rw [e1] at h
  cases h
  refine he.t O H₀ as σ H ds pv _ S e1 fun v H1 s1 r1 => ?_
  exact q v H1 (S.same.trans s1) ((r1.back S.same).less fun b z => by simp at z)⟩
noncomputable def gRetV (i : Nat) : Ds -> Option Out := fun ds => match ds[i]? with
 | some (some pv) => some (.ret pv)
 | _ => none
theorem psx_retV (i : Nat) (h : PE X e (tVar i)) : PSX X (.Return (some e) pos) (tRet (tVar i)) (gRetV i) := ⟨ps_ret h, by
 intro O H₀ as σ H ds D o S h q
 unfold gRetV at h
 split at h
 . rename_i pv hd
   cases h
   have sl := S.slot i pv hd
   cases pv with
   | dat d =>
    obtain ⟨v, e1, h⟩ := sl
    exact ⟨v, e1, q v H S.same (Dt.same (hid_sub (Same.refl _) fun b z => by simp at z) h)⟩
   | own l =>
    obtain ⟨a, xs, e1, e2, e3, h⟩ := sl
    have ha := List.mem_of_getElem? e2
    refine ⟨_, e1, q _ H S.same ⟨a, xs, rfl, (S.new a ha).1, e3, h.same (hid_sub (Same.refl _) fun b z => ?_)⟩⟩
    have z' : b = a := by simpa using z
    rw [z']; exact ha
 . cases h⟩
noncomputable def gRetN : Ds -> Option Out := fun _ => some (.ret (.dat .none))
noncomputable def gIf (Ft : Ds -> Option Bool) (G1 G2 : Ds -> Option Out) : Ds -> Option Out := fun ds => (Ft ds).bind fun b => if b = true then G1 ds else G2 ds
theorem psx_if (hc : PTX X c tt Ft) (ha : PSsX X sa t G1) (hb : PSsX X sb u G2) : PSX X (.If c sa sb pos) (tIfS tt t u) (gIf Ft G1 G2) := ⟨ps_if hc.p ha.p hb.p, by
 intro O H₀ as σ H ds D o S h q
 unfold gIf at h
 cases e1 : Ft ds with
 | none => rw [e1] at h; cases h
 | some b =>
  rw [e1] at h
  simp only [Option.bind_some] at h
  refine hc.t O H₀ as σ H ds b _ S e1 fun H1 s1 => ?_
  cases b with
  | true => exact ha.t O H₀ as σ H1 ds D o (S.grow s1) h q
  | false => exact hb.t O H₀ as σ H1 ds D o (S.grow s1) h q⟩
noncomputable def gPass : Ds -> Option Out := fun ds => some (.next ds)
noncomputable def gBreak : Ds -> Option Out := fun ds => some (.brk ds)
noncomputable def gCont : Ds -> Option Out := fun ds => some (.cont ds)
noncomputable def gNever : Ds -> Option Out := fun _ => none
theorem psx_never : PSX X st tNever gNever := ⟨ps_never, by
 intro O H₀ as σ H ds D o S h q
 cases h⟩
noncomputable def gDrop (F : Ds -> Option PV) : Ds -> Option Out := fun ds => (F ds).bind fun _ => some (.next ds)
end
theorem DS.turn {K : PySem.W.Frag} {O : List Addr} {H₀ H : Hp} {as : As} {σ : St} {ds : Ds} {l l' : List PyData} {xs xs' : List V} {i : Nat} {a : Addr} (S : DS K O H₀ as σ H ds) (hd : ds[i]? = some (some (.own l))) (e1 : σ[i]? = some (some (.ref a))) (e2 : as[i]? = some (some a)) (hv : Dts K (hid H as O) xs' l') :
  DS K O H₀ as σ (upd H a (.lst xs')) (ds.set i (some (.own l'))) := by
 have ha := List.mem_of_getElem? e2
 have sm : Same (hid H as O) (hid (upd H a (.lst xs')) as O) := hid_le fun b o h1 h2 h3 => ⟨h1, h2, by
  rw [upd_ne (fun z => h2 (by rw [z]; exact ha))]; exact h3⟩
 have hl : i < ds.length := (List.getElem?_eq_some_iff.mp hd).1
 refine ⟨by simp [S.ls], by simp [S.la], fun b o h => ?_, fun b hb => ⟨(S.new b hb).1, ?_⟩, S.dom, S.inj, fun j pv hj => ?_⟩
 . rw [upd_ne (fun z => ?_)]
   . exact S.same _ _ h
   . rw [z, (S.new a ha).1] at h; cases h
 . by_cases z : b = a
   . exact ⟨_, by rw [z]; exact upd_same⟩
   . obtain ⟨_, o, h⟩ := S.new b hb
     exact ⟨o, by rw [upd_ne z]; exact h⟩
 . by_cases hij : i = j
   . subst hij
     rw [List.getElem?_set_self hl] at hj
     cases hj
     exact ⟨a, xs', e1, e2, upd_same, hv.same sm⟩
   . rw [List.getElem?_set_ne hij] at hj
     have sl := S.slot j pv hj
     cases pv with
     | dat d => obtain ⟨v, z1, z⟩ := sl; exact ⟨v, z1, z.same sm⟩
     | own l' =>
      obtain ⟨a', xs', z1, z2, z3, z⟩ := sl
      refine ⟨a', xs', z1, z2, ?_, z.same sm⟩
      rw [upd_ne (fun w => hij ?_)]
      . exact z3
      . rw [w] at z2; exact S.inj i j a e2 z2
noncomputable def gApp (i : Nat) (F : Ds -> Option PV) : Ds -> Option Out := fun ds => (F ds).bind fun pv => match ds[i]? with
 | some (some (.own l)) => if l.length < 1000000 then some (.next (ds.set i (some (.own (l ++ [pv.d]))))) else none
 | _ => none
section
variable {X : Cx} {e o : Expr} {te : TE} {F : Ds -> Option PV} {pos cpos apos : Pos}
theorem psx_app (i : Nat) (ho : PE X o (tVar i)) (he : PX X true e te F) (hst : starEach [e] X.env = (false, eval e X.env) :: starEach [] X.env := by rfl)
  (hbase : attributeBase o "append" X.env (eval o X.env) = eval o X.env := by rfl)
  (hfew : ((backTo cpos (starEach [e] X.env)).all (fun x => !x.1) && (backToKw cpos (keywordEach [] X.env)).all (fun x => x.1.isSome)
   && decide ([e].length + ([] : List Keyword).length + (if ([] : List Keyword).isEmpty then 0 else 1) < 30)) = true := by rfl)
  (hline : (apos.endLine == cpos.line) = true := by rfl) (hplain : (backTo cpos (starEach [] X.env)).any (·.1) = false := by rfl)
  (hs : swapsWith (.Call (.Attribute o "append" apos) [e] [] cpos) none pos.line X.env = pure false := by rfl) :
  PSX X (.Expr (.Call (.Attribute o "append" apos) [e] [] cpos) pos) (tDrop (tBM X.K "list" rAppend (tVar i) (tCons te tNil))) (gApp i F) :=
 ⟨ps_expr (pe_bm PySem.F.plainAttrs_list PySem.F.slot_list_append PySem.F.type_list_append mt_append ho (pa_cons he.p pa_nil hst) hbase hfew hline hst hplain) hs, by
 intro O H₀ as σ H ds D o S h q
 unfold gApp at h
 cases e1 : F ds with
 | none => rw [e1] at h; cases h
 | some pv =>
  rw [e1] at h
  simp only [Option.bind_some] at h
  split at h
  . rename_i l hd
    split at h
    . rename_i hl
      cases h
      obtain ⟨a, xs, z1, z2, z3, z4⟩ := S.slot i _ hd
      refine ⟨_, z1, .inl ⟨rfl, xs, SqL.of z3⟩, ?_⟩
      refine he.t O H₀ as σ H ds pv _ S e1 fun v H1 s1 r1 => ?_
      have hx := z4.length
      refine ⟨a, xs, v, rfl, rfl, s1 _ _ z3, Nat.lt_of_lt_of_le (by omega) (szM (Nat.le_refl _)), q as σ _ ?_⟩
      exact (S.grow s1).turn (xs := xs) hd z1 z2 ((z4.same (hid_same s1)).append (.cons (r1.dt S.dm) .nil))
    . cases h
  . cases h⟩
end
theorem DS.rebase {K : PySem.W.Frag} {O : List Addr} {H₀ H : Hp} {as : As} {σ : St} {ds : Ds} (S : DS K O H₀ as σ H ds) : DS K O (hid H as []) as σ H ds where
 ls := S.ls
 la := S.la
 same := hid_all
 new := fun a h => ⟨by unfold hid; rw [if_pos (.inr h)], (S.new a h).2⟩
 dom := fun a h => by
  obtain ⟨o, z⟩ := S.dom a h
  refine ⟨o, hid_some.mpr ⟨by simp, fun q => ?_, S.same _ _ z⟩⟩
  rw [(S.new a q).1] at z
  cases z
 inj := S.inj
 slot := S.slot
theorem DS.unbase {K : PySem.W.Frag} {O : List Addr} {H₀ Hb H : Hp} {as : As} {σ : St} {ds : Ds} (S : DS K O Hb as σ H ds) (e : Same H₀ Hb) (hd : ∀ a ∈ O, ∃ o, H₀ a = some o) : DS K O H₀ as σ H ds :=
 ⟨S.ls, S.la, e.trans S.same, fun a h => ⟨e.free (S.new a h).1, (S.new a h).2⟩, hd, S.inj, S.slot⟩
theorem DS.toBase {K : PySem.W.Frag} {O : List Addr} {H₀ H : Hp} {as : As} {σ : St} {ds : Ds} (S : DS K O H₀ as σ H ds) : Same H₀ (hid H as []) := fun b o h => by
 refine hid_some.mpr ⟨by simp, fun q => ?_, S.same _ _ h⟩
 rw [(S.new b q).1] at h
 cases h
theorem EndsOk.unbase {X : Cx} {O : List Addr} {H₀ Hb : Hp} {D : Ends} {o : Out} (h : EndsOk X O H₀ D o) (e : Same H₀ Hb) (hd : ∀ a ∈ O, ∃ u, H₀ a = some u) : EndsOk X O Hb D o := by
 cases o with
 | next ds => exact fun as σ H S => h as σ H (S.unbase e hd)
 | brk ds => exact fun as σ H S => h as σ H (S.unbase e hd)
 | cont ds => exact fun as σ H S => h as σ H (S.unbase e hd)
 | ret pv => exact fun v H s r => h v H (e.trans s) (r.back e)
 | up x => exact fun ea H s n u => h ea H (e.trans s) (e.free n) u
noncomputable def TGX (K : PySem.W.Frag) (g : TG) (gt : PyData -> Ds -> Option Ds) : Prop :=
 ∀ (O : List Addr) (H₀ : Hp) (as : As) (σ : St) (H : Hp) (ds ds' : Ds) (v : V) (d : PyData) (Q : St -> Hp -> Prop), DS K O H₀ as σ H ds -> Dt K (hid H as O) v d -> gt d ds = some ds' -> (∀ as' σ', DS K O H₀ as' σ' H ds' -> Q σ' H) -> g v σ H Q
noncomputable def sName (i : Nat) : PyData -> Ds -> Option Ds := fun d ds => some (ds.set i (some (.dat d)))
theorem tgx_name {K : PySem.W.Frag} {i : Nat} : TGX K (gName i) (sName i) := by
 intro O H₀ as σ H ds ds' v d Q S h e q
 cases e
 exact q _ _ (S.set i h)
noncomputable def TGsX (K : PySem.W.Frag) (g : TGs) (gt : List PyData -> Ds -> Option Ds) : Prop :=
 ∀ (O : List Addr) (H₀ : Hp) (as : As) (σ : St) (H : Hp) (ds ds' : Ds) (vs : List V) (l : List PyData) (Q : St -> Hp -> Prop), DS K O H₀ as σ H ds -> Dts K (hid H as O) vs l -> gt l ds = some ds' -> (∀ as' σ', DS K O H₀ as' σ' H ds' -> Q σ' H) -> g vs σ H Q
noncomputable def sNil : List PyData -> Ds -> Option Ds
 | [], ds => some ds
 | _, _ => none
noncomputable def sCons (i : Nat) (r : List PyData -> Ds -> Option Ds) : List PyData -> Ds -> Option Ds
 | d :: l, ds => r l (ds.set i (some (.dat d)))
 | [], _ => none
noncomputable def sTup (n : Nat) (r : List PyData -> Ds -> Option Ds) : PyData -> Ds -> Option Ds
 | .tuple l, ds => if l.length = n then r l ds else none
 | _, _ => none
theorem tgsx_nil {K : PySem.W.Frag} : TGsX K gNil sNil := by
 intro O H₀ as σ H ds ds' vs l Q S h e q
 cases h with
 | nil => cases e; exact ⟨rfl, q _ _ S⟩
 | cons _ _ => cases e
theorem tgsx_cons {K : PySem.W.Frag} {i : Nat} {g : TGs} {r : List PyData -> Ds -> Option Ds} (hg : TGsX K g r) : TGsX K (gCons (gName i) g) (sCons i r) := by
 intro O H₀ as σ H ds ds' vs l Q S h e q
 cases h with
 | nil => cases e
 | cons h t =>
  refine ⟨_, _, rfl, hg O H₀ _ _ H _ ds' _ _ Q (S.set i h) (t.same (hid_sub (Same.refl _) fun b z => ?_)) e q⟩
  rcases List.mem_or_eq_of_mem_set z with z | z
  . exact z
  . cases z
theorem tgx_tup {K : PySem.W.Frag} {n : Nat} {g : TGs} {r : List PyData -> Ds -> Option Ds} (hg : TGsX K g r) : TGX K (gTup K n g) (sTup n r) := by
 intro O H₀ as σ H ds ds' v d Q S h e q
 cases h with
 | tup hs ht =>
  rename_i a xs l
  have e' : (if l.length = n then r l ds else none) = some ds' := e
  split at e'
  . rename_i hl
    exact ⟨a, xs, rfl, hid_all.seqT hs, by rw [ht.length]; exact hl, hg O H₀ as σ H ds ds' xs l Q S ht e' q⟩
  . cases e'
 | _ => cases e
noncomputable def forD (gt : PyData -> Ds -> Option Ds) (G : Ds -> Option Out) : List PyData -> Ds -> Option Out
 | [], ds => some (.next ds)
 | x :: r, ds => (gt x ds).bind fun ds1 => (G ds1).bind fun o => match o with
  | .next ds2 => forD gt G r ds2
  | .cont ds2 => forD gt G r ds2
  | .brk ds2 => some (.next ds2)
  | .ret pv => some (.ret pv)
  | .up x => some (.up x)
noncomputable def gFor (Fi : Ds -> Option (List PyData)) (gt : PyData -> Ds -> Option Ds) (G : Ds -> Option Out) : Ds -> Option Out := fun ds => (Fi ds).bind fun items => forD gt G items ds
section
variable {X : Cx} {tg iter c : Expr} {body : List Stmt} {wi : TI} {g : TG} {tb : TS} {tt : TT} {pos : Pos} {Fi : Ds -> Option (List PyData)} {gt : PyData -> Ds -> Option Ds} {G : Ds -> Option Out} {Fc : Ds -> Option Bool}
theorem psx_for (hp : PassesOwn (model X.prog X.w) X.A X.env X.xe) (hc : X.calm = true) (hi : PIX X true tg iter wi Fi) (hg : PG X tg g) (hgt : TGX X.K g gt) (hb : PSsX X body tb G)
  (hs : ∀ x, foldedSetIterable iter X.env x = pure x := by intro _; rfl) : PSX X (.For tg iter body [] pos) (tFor wi g tb) (gFor Fi gt G) := ⟨ps_for hp hc hi.p hg hb.p hs, by
 intro O H₀ as σ H ds D o S h q
 unfold gFor at h
 cases e1 : Fi ds with
 | none => rw [e1] at h; cases h
 | some items =>
  rw [e1] at h
  simp only [Option.bind_some] at h
  refine hi.t O H₀ as σ H ds items _ S e1 fun J H1 s1 it => ?_
  have S1 := S.grow s1
  have it' : ItOk X.K O (hid H1 as []) J items := it
  have Sb := S1.rebase
  have eb := S1.toBase
  have qb := q.unbase (Hb := hid H1 as []) eb S.dom
  refine ⟨fun i m σ' H' => i <= items.length /\ m = items.length - i /\ ∃ as' ds', DS X.K O (hid H1 as []) as' σ' H' ds' /\ forD gt G (items.drop i) ds' = some o, ⟨_, Nat.zero_le _, rfl, as, ds, Sb, h⟩, ?_⟩
  rintro i m σ2 H2 ⟨hi', em, as2, ds2, S2, f2⟩
  obtain ⟨go', st', yl'⟩ := it' H2 S2.same i
  by_cases hlt : i < items.length
  . have ed' : items.drop i = items[i] :: items.drop (i + 1) := List.drop_eq_getElem_cons hlt
    rw [ed'] at f2
    unfold forD at f2
    cases e3 : gt items[i] ds2 with
    | none => rw [e3] at f2; cases f2
    | some ds3 =>
     rw [e3] at f2
     simp only [Option.bind_some] at f2
     cases e4 : G ds3 with
     | none => rw [e4] at f2; cases f2
     | some o4 =>
      rw [e4] at f2
      simp only [Option.bind_some] at f2
      refine .inr ⟨go' hlt, fun σ' H' => ∃ as' ds', DS X.K O (hid H1 as []) as' σ' H' ds' /\ forD gt G (items.drop (i + 1)) ds' = some o, fun σ' H' z => ⟨items.length - (i + 1), by omega, hlt, rfl, z⟩, fun x H' y => ?_⟩
      obtain ⟨e5, d, ed, dt⟩ := yl' x H' y hlt
      have edd : items[i] = d := by
       rw [List.getElem?_eq_getElem hlt] at ed
       exact Option.some.inj ed
      have S3 := S2.grow e5
      have dx : Dt X.K (hid H' as2 O) x d := dt as2 (fun b hb => ⟨(S2.new b hb).1, let ⟨_, z⟩ := (S2.new b hb).2; ⟨_, z⟩⟩) S2.dom
      rw [edd] at e3
      refine hgt O _ as2 σ2 H' ds2 ds3 x d _ S3 dx e3 fun as4 σ4 S4 => ?_
      refine hb.t O _ as4 σ4 H' ds3 _ o4 S4 e4 ?_
      cases o4 with
      | next ds5 => exact fun as5 σ5 H5 S5 => ⟨as5, ds5, S5, f2⟩
      | cont ds5 => exact fun as5 σ5 H5 S5 => ⟨as5, ds5, S5, f2⟩
      | brk ds5 => cases f2; exact fun as5 σ5 H5 S5 => qb as5 σ5 H5 S5
      | ret pv => cases f2; exact qb
      | up x => cases f2; exact qb
  . have hi2 : i = items.length := by omega
    subst hi2
    rw [List.drop_length] at f2
    cases f2
    exact .inl ⟨st' (Nat.le_refl _), qb as2 σ2 H2 S2⟩⟩
noncomputable def whileD (Fc : Ds -> Option Bool) (G : Ds -> Option Out) : Nat -> Ds -> Option Out
 | 0, _ => none
 | n + 1, ds => (Fc ds).bind fun b => if b = true then (G ds).bind fun o => match o with
   | .next ds2 => whileD Fc G n ds2
   | .cont ds2 => whileD Fc G n ds2
   | .brk ds2 => some (.next ds2)
   | .ret pv => some (.ret pv)
   | .up x => some (.up x)
  else some (.next ds)
noncomputable def gWhile (μ : Ds -> Nat) (Fc : Ds -> Option Bool) (G : Ds -> Option Out) : Ds -> Option Out := fun ds => whileD Fc G (μ ds) ds
theorem psx_while (μ : Ds -> Nat) (hp : PassesOwn (model X.prog X.w) X.A X.env X.xe) (hc : PTX X c tt Fc) (hb : PSsX X body tb G) : PSX X (.While c body [] pos) (tWhile tt tb) (gWhile μ Fc G) := ⟨ps_while hp hc.p hb.p, by
 intro O H₀ as σ H ds D o S h q
 unfold gWhile at h
 refine ⟨fun m σ' H' => ∃ as' ds', DS X.K O H₀ as' σ' H' ds' /\ whileD Fc G m ds' = some o, ⟨_, as, ds, S, h⟩, ?_⟩
 rintro m σ2 H2 ⟨as2, ds2, S2, f2⟩
 cases m with
 | zero => cases f2
 | succ m =>
  unfold whileD at f2
  cases e1 : Fc ds2 with
  | none => rw [e1] at f2; cases f2
  | some b =>
   rw [e1] at f2
   simp only [Option.bind_some] at f2
   refine hc.t O H₀ as2 σ2 H2 ds2 b _ S2 e1 fun H3 s3 => ?_
   cases b with
   | false =>
    cases f2
    exact q as2 σ2 H3 (S2.grow s3)
   | true =>
    rw [if_pos rfl] at f2
    rw [if_pos rfl]
    cases e4 : G ds2 with
    | none => rw [e4] at f2; cases f2
    | some o4 =>
     rw [e4] at f2
     simp only [Option.bind_some] at f2
     refine ⟨fun σ' H' => ∃ as' ds', DS X.K O H₀ as' σ' H' ds' /\ whileD Fc G m ds' = some o, fun σ' H' z => ⟨m, Nat.lt_succ_self _, z⟩, ?_⟩
     refine hb.t O H₀ as2 σ2 H3 ds2 _ o4 (S2.grow s3) e4 ?_
     cases o4 with
     | next ds5 => exact fun as5 σ5 H5 S5 => ⟨as5, ds5, S5, f2⟩
     | cont ds5 => exact fun as5 σ5 H5 S5 => ⟨as5, ds5, S5, f2⟩
     | brk ds5 => cases f2; exact q
     | ret pv => cases f2; exact q
     | up x => cases f2; exact q⟩
end
noncomputable def outV : Out -> Option PV
 | .ret pv => some pv
 | .next _ => some (.dat .none)
 | _ => none
noncomputable def fnF (n N : Nat) (G : Ds -> Option Out) : List PyData -> Option PV := fun l => if l.length = n then (G (dats l ++ List.replicate (N - n) none)).bind outV else none
section
variable {P : Program} {w : World} {K : PySem.W.Frag} {mg : Str -> Option Value} {base : Heap}
theorem DS.start {O : List Addr} {H : Hp} {vs : List V} {l : List PyData} {N : List Str} (hO : ∀ a ∈ O, ∃ u, H a = some u) (h : Dts K (hid H [] O) vs l) : DS K O H (List.replicate (dats l ++ List.replicate (N.length - l.length) none).length none) (start N vs) H (dats l ++ List.replicate (N.length - l.length) none) := by
 have hl := h.length
 have S0 : DS K O H (List.replicate (N.length - l.length) none) (List.replicate (N.length - l.length) none) H (List.replicate (N.length - l.length) none) :=
  ⟨by simp, by simp, Same.refl H, fun a z => absurd z rep_mem, hO, fun i j a z _ => absurd (List.mem_of_getElem? z) rep_mem, fun i pv z => by
   have := List.mem_of_getElem? z
   simp [List.mem_replicate] at this⟩
 have S1 := S0.pre (vs := vs) (l := l) (by rw [hid_rep]; exact h)
 have e1 : (List.replicate (dats l ++ List.replicate (N.length - l.length) none).length none : As) = List.replicate l.length none ++ List.replicate (N.length - l.length) none := by
  rw [List.replicate_append_replicate, List.length_append, List.length_replicate]
  congr 1
  simp [dats]
 rw [e1]
 unfold L2.start
 rw [hl]
 exact S1
theorem Fun.okF {x qual : Str} {st : Stmt} {f : Addr} {fd : FuncData} {N ps : List Str} {k : Nat} {G : Ds -> Option Out} (F : Fun K x qual st f fd) (S : FnScope N ps (defScope st)) (hN : ps.length <= N.length)
  (hbody : ∀ (cdv : Value) (A : Around) (outer : List Env) (s : Shared) (H : Hp) (E : XK), Room k (A.deeper (envOfC qual (defScope st) s.heap.objs.size f cdv)) ->
   ∃ t, PSsX (cxOf CX0 P w K mg base N qual (defScope st) f cdv A outer s H E).nox (defBody st) t G) : FnOk P w K mg base CX0 (k + 1) f fd ps (spF K (fnF ps.length N.length G)) := by
 have ln : ∀ vs H Q E, spF K (fnF ps.length N.length G) vs H Q E -> vs.length = ps.length := fun vs H Q E h => by
  obtain ⟨O, ds, pv, h1, h2, h3, h4⟩ := h
  unfold fnF at h3
  split at h3
  . rename_i hl
    rw [h2.length]; exact hl
  . cases h3
 refine F.ok S ln fun cdv A outer s H vs Q E hr h => ?_
 obtain ⟨O, ds, pv, h1, h2, h3, h4⟩ := h
 obtain ⟨t, ht⟩ := hbody cdv A outer s H E hr
 refine ⟨t, ht.p, ?_⟩
 unfold fnF at h3
 split at h3
 . rename_i hl
   rw [<- hl] at h3
   cases e1 : G (dats ds ++ List.replicate (N.length - ds.length) none) with
   | none => rw [e1] at h3; cases h3
   | some o =>
    rw [e1] at h3
    simp only [Option.bind_some] at h3
    refine ht.t O H _ (L2.start N vs) H _ _ o (DS.start h1 h2) e1 ?_
    cases o with
    | next ds' => cases h3; exact fun as σ H' S' => h4 _ H' S'.same Dt.non
    | ret pv' => cases h3; exact fun v H' s r => h4 v H' s r
    | brk ds' => cases h3
    | cont ds' => cases h3
    | up x => cases h3
 . cases h3
end
end L2
namespace L2
open PySem PySem.Spec PyProof.Rows
noncomputable instance {m : Nat} {i : Int} : Decidable (Bt m i) := decidable_of_iff (i.natAbs < 2 ^ m) ⟨fun h => ⟨h⟩, fun h => h.lt⟩
noncomputable instance {i j : Int} : Decidable (CPow i j) := by unfold CPow; infer_instance
noncomputable def iiD (g : Int -> Int -> PyData) : PyData -> PyData -> Option PV
 | .int i, .int j => some (.dat (g i j))
 | _, _ => none
noncomputable def iicD (C : Int -> Int -> Prop) [∀ i j, Decidable (C i j)] (g : Int -> Int -> PyData) : PyData -> PyData -> Option PV
 | .int i, .int j => if C i j then some (.dat (g i j)) else none
 | _, _ => none
section
variable {K : PySem.W.Frag}
theorem r2x_i0 {g : Int -> Int -> V} {g' : Int -> Int -> PyData} (hg : ∀ i j H, Dt K H (g i j) (g' i j)) : R2X K (rI0 g) (iiD g') := by
 intro O va H x y d e pv Q D hx hy hf q
 cases hx with
 | int i =>
  cases hy with
  | int j =>
   cases hf
   exact ⟨i, j, rfl, rfl, q _ H (Same.refl H) (hg i j _)⟩
  | _ => cases hf
 | _ => cases hf
theorem r2x_ic {C C' : Int -> Int -> Prop} [∀ i j, Decidable (C i j)] {g : Int -> Int -> V} {g' : Int -> Int -> PyData} (hC : ∀ i j, C i j -> C' i j) (hg : ∀ i j H, Dt K H (g i j) (g' i j)) : R2X K (rI C' g) (iicD C g') := by
 intro O va H x y d e pv Q D hx hy hf q
 cases hx with
 | int i =>
  cases hy with
  | int j =>
   have hf' : (if C i j then some (PV.dat (g' i j)) else none) = some pv := hf
   split at hf'
   . rename_i hc
     cases hf'
     exact ⟨i, j, rfl, rfl, hC i j hc, q _ H (Same.refl H) (hg i j _)⟩
   . cases hf'
  | _ => cases hf
 | _ => cases hf
noncomputable def subD := iiD fun i j => .int (i - j)
noncomputable def mulD := iicD (fun i j => Bt 60000 i /\ Bt 60000 j) fun i j => .int (i * j)
noncomputable def fdivD := iicD (fun _ j => j ≠ 0 /\ Bt 8000 j) fun i j => .int (i.fdiv j)
noncomputable def modD := iicD (fun _ j => j ≠ 0) fun i j => .int (i.fmod j)
noncomputable def powD := iicD CPow fun i j => .int (i ^ j.toNat)
noncomputable def ltD := iiD fun i j => .bool (decide (i < j))
noncomputable def leD := iiD fun i j => .bool (decide (i <= j))
noncomputable def gtD := iiD fun i j => .bool (decide (j < i))
noncomputable def geD := iiD fun i j => .bool (decide (j <= i))
theorem x_sub : R2X K (rI0 fun i j => .int (i - j)) subD := r2x_i0 fun i j H => .int _
theorem x_mul : R2X K (rI (fun i j => Bt 60000 i /\ Bt 60000 j) fun i j => .int (i * j)) mulD := r2x_ic (fun _ _ h => h) fun i j H => .int _
theorem x_fdiv : R2X K (rI (fun _ j => j ≠ 0 /\ Bt 8000 j) fun i j => .int (i.fdiv j)) fdivD := r2x_ic (fun _ _ h => h) fun i j H => .int _
theorem x_mod : R2X K (rI (fun _ j => j ≠ 0) fun i j => .int (i.fmod j)) modD := r2x_ic (fun _ _ h => h) fun i j H => .int _
theorem x_pow : R2X K (rI CPow fun i j => .int (i ^ j.toNat)) powD := r2x_ic (fun _ _ h => h) fun i j H => .int _
theorem x_lt : R2X K (rI0 fun i j => .bl (decide (i < j))) ltD := r2x_i0 fun i j H => .bl _
theorem x_le : R2X K (rI0 fun i j => .bl (decide (i <= j))) leD := r2x_i0 fun i j H => .bl _
theorem x_gt : R2X K (rI0 fun i j => .bl (decide (j < i))) gtD := r2x_i0 fun i j H => .bl _
theorem x_ge : R2X K (rI0 fun i j => .bl (decide (j <= i))) geD := r2x_i0 fun i j H => .bl _
noncomputable def negD : PyData -> Option PV
 | .int i => some (.dat (.int (-i)))
 | _ => none
theorem x_neg : R1X K (rU fun i => .int (-i)) negD := by
 intro O va H x d pv Q D hx hf q
 cases hx with
 | int i => cases hf; exact ⟨i, rfl, q _ H (Same.refl H) (Dt.int _)⟩
 | _ => cases hf
noncomputable def eqDD : PyData -> PyData -> Option PV
 | .str i, .str j => some (.dat (.bool (decide (i = j))))
 | d, e => if SeqAt.shaped d = true /\ SeqAt.shaped e = true then some (.dat (.bool (PyData.eqv d e))) else none
noncomputable def neDD : PyData -> PyData -> Option PV
 | .str i, .str j => some (.dat (.bool (!decide (i = j))))
 | d, e => if SeqAt.shaped d = true /\ SeqAt.shaped e = true then some (.dat (.bool (!PyData.eqv d e))) else none
noncomputable def rEqX (K : PySem.W.Frag) : R2 := fun x y H Q => rEq x y H Q \/ ∃ d e, Dt K H x d /\ Dt K H y e /\ SeqAt.shaped d = true /\ SeqAt.shaped e = true /\ Q (.bl (PyData.eqv d e)) H
noncomputable def rNeX (K : PySem.W.Frag) : R2 := fun x y H Q => rNe x y H Q \/ ∃ d e, Dt K H x d /\ Dt K H y e /\ SeqAt.shaped d = true /\ SeqAt.shaped e = true /\ Q (.bl (!PyData.eqv d e)) H
theorem op_eqX {X : Cx} (hu : X.A.units + 64 < cLine) : OpR X (compareOp .Eq) (rEqX X.K) := op_eq.or (op_eqD hu)
theorem op_neX {X : Cx} (hu : X.A.units + 64 < cLine) : OpR X (compareOp .NotEq) (rNeX X.K) := op_ne.or (op_neD hu)
theorem x_eq : R2X K (rEqX K) eqDD := by
 intro O va H x y d e pv Q D hx hy hf q
 unfold eqDD at hf
 split at hf
 . cases hf
   cases hx
   cases hy
   rename_i i j
   exact .inl ⟨rfl, q _ H (Same.refl H) (by rw [show decide (V.str i = V.str j) = decide (i = j) by simp]; exact Dt.bl _)⟩
 . split at hf
   . rename_i hs
     cases hf
     exact .inr ⟨d, e, hx.same hid_all, hy.same hid_all, hs.1, hs.2, q _ H (Same.refl H) (Dt.bl _)⟩
   . cases hf
theorem x_ne : R2X K (rNeX K) neDD := by
 intro O va H x y d e pv Q D hx hy hf q
 unfold neDD at hf
 split at hf
 . cases hf
   cases hx
   cases hy
   rename_i i j
   exact .inl ⟨rfl, q _ H (Same.refl H) (by rw [show decide (V.str i = V.str j) = decide (i = j) by simp]; exact Dt.bl _)⟩
 . split at hf
   . rename_i hs
     cases hf
     exact .inr ⟨d, e, hx.same hid_all, hy.same hid_all, hs.1, hs.2, q _ H (Same.refl H) (Dt.bl _)⟩
   . cases hf
noncomputable def isNoneD : PyData -> Bool
 | .none => true
 | _ => false
theorem Dt.non_iff {H : Hp} {x : V} {d : PyData} (h : Dt K H x d) : decide (x = .non) = isNoneD d := by
 cases h <;> simp [isNoneD, excD, fnD]
noncomputable def isD : PyData -> PyData -> Option PV
 | d, .none => some (.dat (.bool (isNoneD d)))
 | _, _ => none
noncomputable def isNotD : PyData -> PyData -> Option PV
 | d, .none => some (.dat (.bool (!isNoneD d)))
 | _, _ => none
theorem x_is : R2X K (fun x y H Q => y = .non /\ Q (.bl (decide (x = .non))) H) isD := by
 intro O va H x y d e pv Q D hx hy hf q
 cases hy with
 | non => cases hf; exact ⟨rfl, q _ H (Same.refl H) (by rw [hx.non_iff]; exact Dt.bl _)⟩
 | _ => cases hf
noncomputable def ixD : PyData -> PyData -> Option PV
 | .list l, .int i => (atI l i).bind fun d => some (.dat d)
 | .tuple l, .int i => (atI l i).bind fun d => some (.dat d)
 | .str z, .int i => if z.length <= 1000000 then (atI z.cps.toList i).bind fun c => some (.dat (.str ⟨#[c]⟩)) else none
 | _, _ => none
theorem Dts.atI {H : Hp} {xs : List V} {l : List PyData} {i : Int} {d : PyData} (h : Dts K H xs l) (e : L2.atI l i = some d) : ∃ x, L2.atI xs i = some x /\ Dt K H x d := by
 unfold L2.atI at e ⊢
 rw [h.length]
 cases hi : ixN l.length i with
 | none => rw [hi] at e; cases e
 | some j =>
  rw [hi] at e
  exact h.get e
theorem x_ix : R2X K (rIx K) ixD := by
 intro O va H x y d e pv Q D hx hy hf q
 cases hx with
 | lst hs ht =>
  cases hy with
  | int i =>
   rename_i a xs l
   have hf' : ((L2.atI l i).bind fun d => some (PV.dat d)) = some pv := hf
   cases h1 : L2.atI l i with
   | none => rw [h1] at hf'; cases hf'
   | some d =>
    rw [h1] at hf'
    cases hf'
    obtain ⟨v, h2, h3⟩ := ht.atI h1
    exact .inl ⟨a, xs, i, v, rfl, rfl, hid_all.seq hs, h2, q v H (Same.refl H) h3⟩
  | _ => cases hf
 | tup hs ht =>
  cases hy with
  | int i =>
   rename_i a xs l
   have hf' : ((L2.atI l i).bind fun d => some (PV.dat d)) = some pv := hf
   cases h1 : L2.atI l i with
   | none => rw [h1] at hf'; cases hf'
   | some d =>
    rw [h1] at hf'
    cases hf'
    obtain ⟨v, h2, h3⟩ := ht.atI h1
    exact .inr (.inl ⟨a, xs, i, v, rfl, rfl, hid_all.seqT hs, h2, q v H (Same.refl H) h3⟩)
  | _ => cases hf
 | str z =>
  cases hy with
  | int i =>
   have hf' : (if z.length <= 1000000 then (L2.atI z.cps.toList i).bind fun c => some (PV.dat (.str ⟨#[c]⟩)) else none) = some pv := hf
   split at hf'
   . rename_i hz
     cases h1 : L2.atI z.cps.toList i with
     | none => rw [h1] at hf'; cases hf'
     | some c =>
      rw [h1] at hf'
      cases hf'
      exact .inr (.inr ⟨z, i, c, rfl, rfl, szM hz, h1, q _ H (Same.refl H) (Dt.str _)⟩)
   . cases hf'
  | _ => cases hf
 | _ => cases hf
end
noncomputable def rCatX (K : PySem.W.Frag) : R2 := fun x y H Q => ∃ a b xs ys, x = .ref a /\ y = .ref b /\ SqT K H a xs /\ SqT K H b ys /\ xs.length + ys.length <= sizeLine /\
 (xs = [] -> Q (.ref b) H) /\ (xs ≠ [] -> ys = [] -> Q (.ref a) H) /\ (xs ≠ [] -> ys ≠ [] -> ∀ p, H p = none -> Q (.ref p) (upd H p (.tup (xs ++ ys))))
noncomputable def rCatL (K : PySem.W.Frag) : R2 := fun x y H Q => ∃ a b xs ys, x = .ref a /\ y = .ref b /\ SqL K H a xs /\ SqL K H b ys /\ xs.length + ys.length <= sizeLine /\ ∀ p, H p = none -> Q (.ref p) (upd H p (.lst (xs ++ ys)))
section
variable {X : Cx}
theorem op_catX : OpR X (binaryOp .Add) (rCatX X.K) := by
 intro pins s σ H x y v u Q I rx ry h
 obtain ⟨a, b, xs, ys, rfl, rfl, ha, hb, hz, q1, q2, q3⟩ := h
 by_cases hx : xs = []
 . subst hx
   cases rx
   cases ry
   obtain ⟨its, r1, p1, _⟩ := I.tuple ha
   obtain ⟨its2, r2, p2, _⟩ := I.tuple hb
   exact cat_nil p1 p2 (r1.nil_iff.mpr rfl) ⟨.ref b, H, I, rfl, q1 rfl⟩
 . exact op_catT pins s σ H (.ref a) (.ref b) v u Q I rx ry ⟨a, b, xs, ys, rfl, rfl, ha, hb, hx, hz, fun e => q2 hx e, fun e p hp => q3 hx e p hp⟩
theorem op_catL : OpR X (binaryOp .Add) (rCatL X.K) := by
 intro pins s σ H x y v u Q I rx ry h
 obtain ⟨l, b, xs, zs, rfl, rfl, hH, hB, hz, q⟩ := h
 cases rx
 cases ry
 obtain ⟨its, r, p1, z1⟩ := I.list hH
 obtain ⟨its2, r2, p2, z2⟩ := I.list hB
 obtain ⟨⟨cls, dd, data, sl⟩, ho, hc, n, hd⟩ := p1.isList
 obtain ⟨⟨cls2, dd2, data2, sl2⟩, ho2, hc2, n2, hd2⟩ := p2.isList
 simp only at hc hd hc2 hd2
 subst hc hd hc2 hd2
 have e : its.toArray ++ its2.toArray = (its ++ its2).toArray := by simp
 have h1 := r.length
 have h2 := r2.length
 refine concat_meets ⟨_, ho, rfl⟩ ⟨_, ho2, rfl⟩ noFill_list_add seq_list_add PySem.F.slot_list_add PySem.F.entry_list_add (PySem.F.args_list_add_2 _ _) (list_addW l b its.toArray its2.toArray n n2 dd dd2 sl sl2 (by simp; omega)) ⟨ho, ho2, ?_⟩
 rw [e]
 exact ⟨.ref _, _, I.lnew (t' := s.toks) (r.append r2) (by rw [List.length_append]; omega), rfl, q _ I.fresh⟩
noncomputable def rAddX (K : PySem.W.Frag) : R2 := fun x y H Q => (rI0 fun i j => .int (i + j)) x y H Q \/ (∃ i j, x = .str i /\ y = .str j /\ i.length + j.length <= sizeLine /\ Q (.str (i ++ j)) H) \/ rCatX K x y H Q \/ rCatL K x y H Q
theorem op_addX : OpR X (binaryOp .Add) (rAddX X.K) := op_add.or (op_add_str.or (op_catX.or op_catL))
end
noncomputable def addD : PyData -> PyData -> Option PV
 | .int i, .int j => some (.dat (.int (i + j)))
 | .str i, .str j => if i.length + j.length <= 1000000 then some (.dat (.str (i ++ j))) else none
 | .tuple l, .tuple m => if l.length + m.length <= 1000000 then some (.dat (.tuple (l ++ m))) else none
 | .list l, .list m => if l.length + m.length <= 1000000 then some (.own (l ++ m)) else none
 | _, _ => none
theorem x_add {K : PySem.W.Frag} : R2X K (rAddX K) addD := by
 intro O va H x y d e pv Q D hx hy hf q
 cases hx with
 | int i =>
  cases hy with
  | int j => cases hf; exact .inl ⟨i, j, rfl, rfl, q _ H (Same.refl H) (Dt.int _)⟩
  | _ => cases hf
 | str i =>
  cases hy with
  | str j =>
   have hf' : (if i.length + j.length <= 1000000 then some (PV.dat (.str (i ++ j))) else none) = some pv := hf
   split at hf'
   . rename_i hz
     cases hf'
     exact .inr (.inl ⟨i, j, rfl, rfl, szM hz, q _ H (Same.refl H) (Dt.str _)⟩)
   . cases hf'
  | _ => cases hf
 | tup hs ht =>
  cases hy with
  | tup hs2 ht2 =>
   rename_i a xs l b ys m
   have hf' : (if l.length + m.length <= 1000000 then some (PV.dat (.tuple (l ++ m))) else none) = some pv := hf
   split at hf'
   . rename_i hz
     cases hf'
     have g1 := ht.length
     have g2 := ht2.length
     refine .inr (.inr (.inl ⟨a, b, xs, ys, rfl, rfl, hid_all.seqT hs, hid_all.seqT hs2, by rw [g1, g2]; exact szM hz, fun e => ?_, fun e1 e2 => ?_, fun e1 e2 p hp => ?_⟩))
     . subst e
       cases ht
       exact q _ H (Same.refl H) (Dt.tup hs2 ht2)
     . subst e2
       cases ht2
       rw [List.append_nil] at q
       exact q _ H (Same.refl H) (Dt.tup hs ht)
     . exact q _ _ (Same.new hp) (rx_tup D hp (ht.append ht2))
   . cases hf'
  | _ => cases hf
 | lst hs ht =>
  cases hy with
  | lst hs2 ht2 =>
   rename_i a xs l b ys m
   have hf' : (if l.length + m.length <= 1000000 then some (PV.own (l ++ m)) else none) = some pv := hf
   split at hf'
   . rename_i hz
     cases hf'
     have g1 := ht.length
     have g2 := ht2.length
     exact .inr (.inr (.inr ⟨a, b, xs, ys, rfl, rfl, hid_all.seq hs, hid_all.seq hs2, by rw [g1, g2]; exact szM hz, fun p hp => q _ _ (Same.new hp) (rx_lst hp (ht.append ht2))⟩))
   . cases hf'
  | _ => cases hf
 | _ => cases hf
noncomputable def cutD {α : Type} (xs : List α) (lo hi : Option Int) : List α := (xs.drop (HT.sIx xs.length 0 lo)).take (HT.sIx xs.length xs.length hi - HT.sIx xs.length 0 lo)
theorem Dts.cut {K : PySem.W.Frag} {H : Hp} {xs : List V} {l : List PyData} (h : Dts K H xs l) (lo hi : Option Int) : Dts K H (cutV xs lo hi) (cutD l lo hi) := by
 unfold cutV cutD
 rw [h.length]
 exact (h.drop _).take _
noncomputable def rSlX (K : PySem.W.Frag) : V -> Option Int -> Option Int -> Hp -> VK -> Prop := fun x lo hi H Q => ∃ a xs, x = .ref a /\ SqT K H a xs /\ (cutV xs lo hi = xs -> Q (.ref a) H) /\ ∀ p, H p = none -> Q (.ref p) (upd H p (.tup (cutV xs lo hi)))
section
variable {X : Cx}
theorem sl_tupX : SlR X (rSlX X.K) := by
 intro pins s σ H x v vl vu lo hi sl Q I rx hs pl pu h
 obtain ⟨a, xs, rfl, hx, q1, q2⟩ := h
 by_cases hw : HT.sIx xs.length 0 lo = 0 /\ HT.sIx xs.length xs.length hi = xs.length
 . cases rx
   obtain ⟨its, r, ht, hz⟩ := I.tuple hx
   have hlen : its.toArray.size = xs.length := by rw [List.size_toArray]; exact r.length.symm
   refine ⟨"tuple", _, PyProof.Rows.slot_tuple_getitem.lookup, ht.typeIs, ?_⟩
   refine getItem_whole ht hs pl pu (by rw [hlen]; exact hw) ⟨.ref a, H, I, rfl, q1 ?_⟩
   unfold cutV; rw [hw.1, hw.2]; simp
 . exact sl_tup pins s σ H (.ref a) v vl vu lo hi sl Q I rx hs pl pu ⟨a, xs, rfl, hx, hw, q2⟩
end
noncomputable def rSl (K : PySem.W.Frag) : V -> Option Int -> Option Int -> Hp -> VK -> Prop := fun x lo hi H Q => rSlX K x lo hi H Q \/ rSlL K x lo hi H Q
theorem sl_seq {X : Cx} : SlR X (rSl X.K) := sl_tupX.or sl_list
noncomputable def slD : PyData -> Option Int -> Option Int -> Option PV
 | .tuple l, lo, hi => some (.dat (.tuple (cutD l lo hi)))
 | .list l, lo, hi => some (.own (cutD l lo hi))
 | _, _, _ => none
noncomputable def R3X (K : PySem.W.Frag) (r : V -> Option Int -> Option Int -> Hp -> VK -> Prop) (f : PyData -> Option Int -> Option Int -> Option PV) : Prop :=
 ∀ (O : List Addr) (va : As) (H : Hp) (x : V) (lo hi : Option Int) (d : PyData) (pv : PV) (Q : VK), Dom H va O -> Dt K (hid H va O) x d -> f d lo hi = some pv -> (∀ v H', Same H H' -> RX K O va H H' v pv -> Q v H') -> r x lo hi H Q
theorem x_sl {K : PySem.W.Frag} : R3X K (rSl K) slD := by
 intro O va H x lo hi d pv Q D hx hf q
 cases hx with
 | tup hs ht =>
  cases hf
  refine .inl ⟨_, _, rfl, hid_all.seqT hs, fun e => ?_, fun p hp => q _ _ (Same.new hp) (rx_tup D hp (ht.cut lo hi))⟩
  have h2 := ht.cut lo hi
  rw [e] at h2
  exact q _ H (Same.refl H) (Dt.tup hs h2)
 | lst hs ht =>
  cases hf
  exact .inr ⟨_, _, rfl, hid_all.seq hs, fun p hp => q _ _ (Same.new hp) (rx_lst hp (ht.cut lo hi))⟩
 | _ => cases hf
noncomputable def TOX (K : PySem.W.Frag) (to : TO) (F : Ds -> Option (Option Int)) : Prop :=
 ∀ (O : List Addr) (H₀ : Hp) (as : As) (σ : St) (H : Hp) (ds : Ds) (b : Option Int) (Q : Option Int -> Hp -> Prop), DS K O H₀ as σ H ds -> F ds = some b -> (∀ H', Same H H' -> Q b H') -> to σ H Q
structure POX (X : Cx) (e : Option Expr) (to : TO) (F : Ds -> Option (Option Int)) : Prop where
 p : PO X e to
 t : TOX X.K to F
noncomputable def oNone : Ds -> Option (Option Int) := fun _ => some none
noncomputable def asI : PyData -> Option Int
 | .int i => some i
 | _ => none
noncomputable def oSome (F : Ds -> Option PV) : Ds -> Option (Option Int) := fun ds => (F ds).bind fun pv => (asI pv.d).bind fun i => some (some i)
section
variable {X : Cx} {fr : Bool} {e : Expr} {te : TE} {F : Ds -> Option PV} {p2 pos : Pos}
theorem pox_none : POX X none tNoPart oNone := ⟨po_none, by
 intro O H₀ as σ H ds b Q S hf q
 cases hf
 exact q H (Same.refl H)⟩
theorem pox_some (h : PX X fr e te F) : POX X (some e) (tPart te) (oSome F) := ⟨po_some h.p, by
 intro O H₀ as σ H ds b Q S hf q
 unfold oSome at hf
 cases h1 : F ds with
 | none => rw [h1] at hf; cases hf
 | some pv =>
  rw [h1] at hf
  simp only [Option.bind_some] at hf
  refine h.t O H₀ as σ H ds pv _ S h1 fun v H1 e1 r1 => ?_
  have d := r1.dt S.dm
  generalize pv.d = z at d hf
  cases d with
  | int i => cases hf; exact ⟨i, rfl, q H1 e1⟩
  | _ => cases hf⟩
noncomputable def fSl (f : PyData -> Option Int -> Option Int -> Option PV) (F : Ds -> Option PV) (Fl Fh : Ds -> Option (Option Int)) : Ds -> Option PV := fun ds => (F ds).bind fun x => (Fl ds).bind fun lo => (Fh ds).bind fun hi => f x.d lo hi
theorem px_slice {r : V -> Option Int -> Option Int -> Hp -> VK -> Prop} {f : PyData -> Option Int -> Option Int -> Option PV} {lo hi : Option Expr} {tl th : TO} {Fl Fh : Ds -> Option (Option Int)} (ho : SlR X r) (hr : R3X X.K r f) (he : PX X fr e te F) (hl : POX X lo tl Fl) (hh : POX X hi th Fh) :
  PX X fr (.Subscript e (.Slice lo hi none p2) pos) (tSl r te tl th) (fSl f F Fl Fh) := ⟨pe_slice ho he.p hl.p hh.p, by
 intro O H₀ as σ H ds pv Q S hf q
 unfold fSl at hf
 cases h1 : F ds with
 | none => rw [h1] at hf; cases hf
 | some x =>
  cases h2 : Fl ds with
  | none => rw [h1, h2] at hf; cases hf
  | some l =>
   cases h3 : Fh ds with
   | none => rw [h1, h2, h3] at hf; cases hf
   | some h =>
    rw [h1, h2, h3] at hf
    simp only [Option.bind_some] at hf
    refine he.t O H₀ as σ H ds x _ S h1 fun v H1 e1 r1 => ?_
    refine hl.t O H₀ as σ H1 ds l _ (S.grow e1) h2 fun H2 e2 => ?_
    refine hh.t O H₀ as σ H2 ds h _ ((S.grow e1).grow e2) h3 fun H3 e3 => ?_
    refine hr O (vis fr as) H3 v l h x.d pv Q (((S.grow e1).grow e2).grow e3).dm ((r1.grow (e2.trans e3)).dt S.dm) hf fun w H4 e4 r4 => ?_
    exact q w H4 (((e1.trans e2).trans e3).trans e4) (r4.back ((e1.trans e2).trans e3))⟩
end
section
variable {X : Cx}
theorem RNX.one {K : PySem.W.Frag} {r : List V -> Hp -> VK -> Prop} {f : PyData -> Option PV} (h : R1X K (fun x => r [x]) f) : RNX K r (fun l => match l with
  | [d] => f d
  | _ => none) := by
 intro O va H xs ds pv Q D hx hf q
 cases hx with
 | nil => cases hf
 | cons h1 t =>
  cases t with
  | nil => exact h O va H _ _ pv Q D h1 hf q
  | cons _ _ => cases hf
noncomputable def rLen (K : PySem.W.Frag) : List V -> Hp -> VK -> Prop := fun xs H Q => (∃ p ys, xs = [.ref p] /\ (SqL K H p ys \/ SqT K H p ys) /\ Q (.int ys.length) H) \/ (∃ z, xs = [.str z] /\ z.length <= sizeLine /\ Q (.int z.length) H)
theorem call_lenX : CallR X (.builtin "len") (rLen X.K) := call_len_seq.or call_len_str
noncomputable def lenD : List PyData -> Option PV
 | [.list l] => some (.dat (.int (l.length : Nat)))
 | [.tuple l] => some (.dat (.int (l.length : Nat)))
 | [.str z] => if z.length <= 1000000 then some (.dat (.int (z.length : Nat))) else none
 | _ => none
theorem Dts.inv1 {K : PySem.W.Frag} {H : Hp} {xs : List V} {d : PyData} (h : Dts K H xs [d]) : ∃ x, xs = [x] /\ Dt K H x d := by
 cases h with
 | cons h t => cases t; exact ⟨_, rfl, h⟩
theorem x_len {K : PySem.W.Frag} : RNX K (rLen K) lenD := by
 intro O va H xs ds pv Q D hx hf q
 unfold lenD at hf
 split at hf
 . cases hf
   obtain ⟨x, rfl, h⟩ := hx.inv1
   cases h with
   | lst hs ht => exact .inl ⟨_, _, rfl, .inl (hid_all.seq hs), q _ H (Same.refl H) (by rw [ht.length]; exact Dt.int _)⟩
 . cases hf
   obtain ⟨x, rfl, h⟩ := hx.inv1
   cases h with
   | tup hs ht => exact .inl ⟨_, _, rfl, .inr (hid_all.seqT hs), q _ H (Same.refl H) (by rw [ht.length]; exact Dt.int _)⟩
 . split at hf
   . rename_i hz
     cases hf
     obtain ⟨x, rfl, h⟩ := hx.inv1
     cases h
     exact .inr ⟨_, rfl, szM hz, q _ H (Same.refl H) (Dt.int _)⟩
   . cases hf
 . cases hf
noncomputable def absD : List PyData -> Option PV
 | [.int i] => some (.dat (.int (if i < 0 then -i else i)))
 | _ => none
theorem x_abs {K : PySem.W.Frag} : RNX K (fun xs H Q => ∃ i, xs = [.int i] /\ Q (.int (if i < 0 then -i else i)) H) absD := by
 intro O va H xs ds pv Q D hx hf q
 unfold absD at hf
 split at hf
 . cases hf
   obtain ⟨x, rfl, h⟩ := hx.inv1
   cases h
   exact ⟨_, rfl, q _ H (Same.refl H) (Dt.int _)⟩
 . cases hf
noncomputable def tupD : List PyData -> Option PV
 | [.list l] => some (.dat (.tuple l))
 | [.tuple l] => some (.dat (.tuple l))
 | _ => none
theorem x_tuple {K : PySem.W.Frag} : RNX K (fun xs H Q => ∃ p ys, xs = [.ref p] /\ ((SqL K H p ys /\ ∀ l, H l = none -> Q (.ref l) (upd H l (.tup ys))) \/ (SqT K H p ys /\ Q (.ref p) H))) tupD := by
 intro O va H xs ds pv Q D hx hf q
 unfold tupD at hf
 split at hf
 . cases hf
   obtain ⟨x, rfl, h⟩ := hx.inv1
   cases h with
   | lst hs ht => exact ⟨_, _, rfl, .inl ⟨hid_all.seq hs, fun p hp => q _ _ (Same.new hp) (rx_tup D hp ht)⟩⟩
 . cases hf
   obtain ⟨x, rfl, h⟩ := hx.inv1
   cases h with
   | tup hs ht => exact ⟨_, _, rfl, .inr ⟨hid_all.seqT hs, q _ H (Same.refl H) (Dt.tup hs ht)⟩⟩
 . cases hf
noncomputable def listD : List PyData -> Option PV
 | [.list l] => some (.own l)
 | [.tuple l] => some (.own l)
 | _ => none
noncomputable def intD : List PyData -> Option PV
 | [.int i] => some (.dat (.int i))
 | [.bool k] => some (.dat (.int (if k then 1 else 0)))
 | _ => none
theorem x_int {K : PySem.W.Frag} : RNX K (fun xs H Q => (∃ i, xs = [.int i] /\ Q (.int i) H) \/ ∃ k, xs = [.bl k] /\ Q (.int (if k then 1 else 0)) H) intD := by
 intro O va H xs ds pv Q D hx hf q
 unfold intD at hf
 split at hf
 . cases hf
   obtain ⟨x, rfl, h⟩ := hx.inv1
   cases h
   exact .inl ⟨_, rfl, q _ H (Same.refl H) (Dt.int _)⟩
 . cases hf
   obtain ⟨x, rfl, h⟩ := hx.inv1
   cases h
   exact .inr ⟨_, rfl, q _ H (Same.refl H) (Dt.int _)⟩
 . cases hf
noncomputable def strD : List PyData -> Option PV
 | [.int i] => if i.natAbs.log2 < 1920 then some (.dat (.str (toString i))) else none
 | _ => none
theorem x_str {K : PySem.W.Frag} : RNX K (fun xs H Q => ∃ i, xs = [.int i] /\ i.natAbs.log2 < 1920 /\ Q (.str (toString i)) H) strD := by
 intro O va H xs ds pv Q D hx hf q
 unfold strD at hf
 split at hf
 . split at hf
   . rename_i hz
     cases hf
     obtain ⟨x, rfl, h⟩ := hx.inv1
     cases h
     exact ⟨_, rfl, hz, q _ H (Same.refl H) (Dt.str _)⟩
   . cases hf
 . cases hf
noncomputable def fIsin (n : String) (F : Ds -> Option PV) : Ds -> Option PV := fun ds => (F ds).bind fun x => if isFnD x.d = true then none else some (.dat (.bool (isI x.d n)))
theorem px_isin {fr : Bool} {e c : Expr} {te : TE} {F : Ds -> Option PV} {x : Str} {p pos : Pos} {n : String} (h5 : five n) (hg : Gl X x) (hm : X.mg x = none) (hv : bootBuiltins x = some (.builtin "isinstance")) (h : PX X fr e te F) (hc : PE X c (tC (.ty n))) (hn : x ≠ "__name__" := by decide) (hdb : (x == ("__debug__" : Str)) = false := by decide)
  (hs1 : starEach [e, c] X.env = (false, eval e X.env) :: starEach [c] X.env := by rfl) (hs2 : starEach [c] X.env = (false, eval c X.env) :: starEach [] X.env := by rfl) (hpl : (backTo pos (starEach [c] X.env)).any (·.1) = false := by rfl) :
  PX X fr (.Call (.Name x p) [e, c] [] pos) (tCB (fun xs H Q => ∃ x n d, xs = [x, .ty n] /\ Dt X.K H x d /\ isFnD d = false /\ five n /\ Q (.bl (isI d n)) H) (tCons te (tCons (tC (.ty n)) tNil))) (fIsin n F) :=
 ⟨pe_callB call_isD hg hm hv (pa_cons h.p (pa_cons hc pa_nil hs2) hs1) hn hdb hs1 hpl, by
 intro O H₀ as σ H ds pv Q S hf q
 unfold fIsin at hf
 cases h1 : F ds with
 | none => rw [h1] at hf; cases hf
 | some w =>
  rw [h1] at hf
  simp only [Option.bind_some] at hf
  split at hf
  . cases hf
  . rename_i hfn
    cases hf
    refine h.t O H₀ as σ H ds w _ S h1 fun v H1 e1 r1 => ?_
    exact ⟨v, n, w.d, rfl, (r1.dt S.dm).same hid_all, by simpa using hfn, h5, q _ H1 e1 (Dt.bl _)⟩⟩
end
noncomputable abbrev rTupC (K : PySem.W.Frag) : List V -> Hp -> VK -> Prop := fun xs H Q => ∃ p ys, xs = [.ref p] /\ ((SqL K H p ys /\ ∀ l, H l = none -> Q (.ref l) (upd H l (.tup ys))) \/ (SqT K H p ys /\ Q (.ref p) H))
theorem px_callK {X : Cx} {K' : PySem.W.Frag} {fr : Bool} {e : Expr} {es : List Expr} {t : TA} {Fl : Ds -> Option (List PyData)} {pos : Pos} {CX : CXT} {E : XK} {k : Nat} {f : Addr} {fd : FuncData} {ps : List Str} {x : Str} {p : Pos} {f' : List PyData -> Option PV} (eK : X.K = K') (G : FnOk X.prog X.w K' X.mg X.base CX k f fd ps (spF K' f')) (hr : Room k X.A) (hg : Gl X x) (hm : X.mg x = some (.ref f)) (hk : PySem.W.keepIn K' (.ref f) = true) (hb : Binds K' fd ps []) (hx : Passes CX X E)
  (ha : PAX X fr (e :: es) t Fl) (hdb : (x == ("__debug__" : Str)) = false := by decide) (he : starEach (e :: es) X.env = (false, eval e X.env) :: starEach es X.env := by rfl) (hpl : (backTo pos (starEach es X.env)).any (·.1) = false := by rfl) :
  PX X fr (.Call (.Name x p) (e :: es) [] pos) (tCall (spF K' f') [] E t) (fCall f' Fl) := by
 subst eK
 exact px_call G hr hg hm hk hb hx ha hdb he hpl
noncomputable def rIsin (K : PySem.W.Frag) : List V -> Hp -> VK -> Prop := fun xs H Q => ∃ x n d, xs = [x, .ty n] /\ Dt K H x d /\ isFnD d = false /\ five n /\ Q (.bl (isI d n)) H
theorem px_isinK {X : Cx} {K' : PySem.W.Frag} (eK : X.K = K') {fr : Bool} {e c : Expr} {te : TE} {F : Ds -> Option PV} {x : Str} {p pos : Pos} {n : String} (h5 : five n) (hg : Gl X x) (hm : X.mg x = none) (hv : bootBuiltins x = some (.builtin "isinstance")) (h : PX X fr e te F) (hc : PE X c (tC (.ty n))) (hn : x ≠ "__name__" := by decide) (hdb : (x == ("__debug__" : Str)) = false := by decide)
  (hs1 : starEach [e, c] X.env = (false, eval e X.env) :: starEach [c] X.env := by rfl) (hs2 : starEach [c] X.env = (false, eval c X.env) :: starEach [] X.env := by rfl) (hpl : (backTo pos (starEach [c] X.env)).any (·.1) = false := by rfl) :
  PX X fr (.Call (.Name x p) [e, c] [] pos) (tCB (rIsin K') (tCons te (tCons (tC (.ty n)) tNil))) (fIsin n F) := by
 subst eK
 exact px_isin h5 hg hm hv h hc hn hdb hs1 hs2 hpl
theorem five_tuple : five "tuple" := .inl rfl
theorem five_bool : five "bool" := .inr (.inr (.inl rfl))
noncomputable def muAbs (i : Nat) (ds : Ds) : Nat := match ds[i]? with
 | some (some (.dat (.int k))) => k.natAbs + 1
 | _ => 0
end L2
namespace L2
open PySem PySem.Spec PyProof.Rows
theorem hid_nil {H : Hp} : hid H [] [] = H := by
 funext b
 unfold hid
 rw [if_neg (by simp)]
theorem sqL_hid {K : PySem.W.Frag} {H : Hp} {a : Addr} {xs : List V} (h : SqL K H a xs) : SqL K (hid H [] []) a xs := by rw [hid_nil]; exact h
theorem dts_ints {K : PySem.W.Frag} {H : Hp} : ∀ ns : List Int, Dts K H (ns.map V.int) (ns.map PyData.int)
 | [] => .nil
 | n :: r => .cons (.int n) (dts_ints r)
theorem dt_true {K : PySem.W.Frag} {H H' : Hp} {v : V} (r : RX K [] [] H H' v (.dat (.bool true))) : v = .bl true := by
 have r' : Dt K (hid H' [] []) v (.bool true) := r
 cases r'
 rfl
end L2
namespace L2
open PySem PySem.Spec PyProof.Rows
noncomputable def seqK (o : Option Out) (G : Ds -> Option Out) : Option Out := o.bind fun o => match o with
 | .next ds' => G ds'
 | o => some o
theorem gSeq_eq (G1 G2 : Ds -> Option Out) (ds : Ds) : gSeq G1 G2 ds = seqK (G1 ds) G2 := rfl
theorem seqK_next (ds : Ds) (G : Ds -> Option Out) : seqK (some (.next ds)) G = G ds := rfl
theorem seqK_ret (pv : PV) (G : Ds -> Option Out) : seqK (some (.ret pv)) G = some (.ret pv) := rfl
theorem seqK_brk (ds : Ds) (G : Ds -> Option Out) : seqK (some (.brk ds)) G = some (.brk ds) := rfl
theorem seqK_cont (ds : Ds) (G : Ds -> Option Out) : seqK (some (.cont ds)) G = some (.cont ds) := rfl
theorem asB_bool (b : Bool) : asB (.bool b) = some b := rfl
theorem asI_int (i : Int) : asI (.int i) = some i := rfl
theorem seqOf_list (l : List PyData) : seqOf (.list l) = some l := rfl
theorem seqOf_tup (l : List PyData) : seqOf (.tuple l) = some l := rfl
theorem outV_ret (pv : PV) : outV (.ret pv) = some pv := rfl
theorem outV_next (ds : Ds) : outV (.next ds) = some (.dat .none) := rfl
noncomputable def letK (o : Option PV) (i : Nat) (ds : Ds) : Option Out := o.bind fun pv => some (.next (ds.set i (some (.dat pv.d))))
theorem gSetD_eq (i : Nat) (F : Ds -> Option PV) (ds : Ds) : gSetD i F ds = letK (F ds) i ds := rfl
theorem letK_some (pv : PV) (i : Nat) (ds : Ds) : letK (some pv) i ds = some (.next (ds.set i (some (.dat pv.d)))) := rfl
noncomputable def letP (o : Option PV) (i : Nat) (ds : Ds) : Option Out := o.bind fun pv => some (.next (ds.set i (some pv)))
theorem gSet_eq (i : Nat) (F : Ds -> Option PV) (ds : Ds) : gSet i F ds = letP (F ds) i ds := rfl
theorem letP_some (pv : PV) (i : Nat) (ds : Ds) : letP (some pv) i ds = some (.next (ds.set i (some pv))) := rfl
noncomputable def appK (o : Option PV) (i : Nat) (ds : Ds) : Option Out := o.bind fun pv => match ds[i]? with
 | some (some (.own l)) => if l.length < 1000000 then some (.next (ds.set i (some (.own (l ++ [pv.d]))))) else none
 | _ => none
theorem gApp_eq (i : Nat) (F : Ds -> Option PV) (ds : Ds) : gApp i F ds = appK (F ds) i ds := rfl
theorem appK_some {i : Nat} {ds : Ds} {l : List PyData} (pv : PV) (h : ds[i]? = some (some (.own l))) (hl : l.length < 1000000) : appK (some pv) i ds = some (.next (ds.set i (some (.own (l ++ [pv.d]))))) := by
 unfold appK
 simp only [Option.bind_some, h]
 rw [if_pos hl]
noncomputable abbrev iD (n : Int) : Option PV := some (.dat (.int n))
theorem atI_0 {α : Type} (x : α) (l : List α) : atI (x :: l) 0 = some x := by
 unfold atI ixN
 rw [if_pos (by decide), if_pos (by simp)]
 rfl
theorem atI_lit {α : Type} {l : List α} {i : Int} {n : Nat} (hi : i = (n : Int)) (h : n < l.length) : atI l i = l[n]? := by
 subst hi
 unfold atI ixN
 rw [if_pos (by omega), if_pos (by omega)]
 simp
theorem atI_1 {α : Type} (x y : α) (l : List α) : atI (x :: y :: l) 1 = some y := atI_lit (n := 1) rfl (by simp)
theorem atI_2 {α : Type} (x y z : α) (l : List α) : atI (x :: y :: z :: l) 2 = some z := atI_lit (n := 2) rfl (by simp)
theorem atI_3 {α : Type} (x y z u : α) (l : List α) : atI (x :: y :: z :: u :: l) 3 = some u := atI_lit (n := 3) rfl (by simp)
theorem atI_4 {α : Type} (x y z u v : α) (l : List α) : atI (x :: y :: z :: u :: v :: l) 4 = some v := atI_lit (n := 4) rfl (by simp)
theorem atI_5 {α : Type} (x y z u v w : α) (l : List α) : atI (x :: y :: z :: u :: v :: w :: l) 5 = some w := atI_lit (n := 5) rfl (by simp)
theorem atI_6 {α : Type} (x y z u v w a : α) (l : List α) : atI (x :: y :: z :: u :: v :: w :: a :: l) 6 = some a := atI_lit (n := 6) rfl (by simp)
theorem addD_int (i j : Int) : addD (.int i) (.int j) = some (.dat (.int (i + j))) := rfl
theorem subD_int (i j : Int) : subD (.int i) (.int j) = some (.dat (.int (i - j))) := rfl
theorem mulD_int {i j : Int} (h : Bt 60000 i) (k : Bt 60000 j) : mulD (.int i) (.int j) = some (.dat (.int (i * j))) := by
 unfold mulD iicD
 simp only []
 rw [if_pos ⟨h, k⟩]
theorem fdivD_int {i j : Int} (h : j ≠ 0) (k : Bt 8000 j) : fdivD (.int i) (.int j) = some (.dat (.int (i.fdiv j))) := by
 unfold fdivD iicD
 simp only []
 rw [if_pos ⟨h, k⟩]
theorem modD_int {i j : Int} (h : j ≠ 0) : modD (.int i) (.int j) = some (.dat (.int (i.fmod j))) := if_pos h
theorem powD_int {i j : Int} (h : CPow i j) : powD (.int i) (.int j) = some (.dat (.int (i ^ j.toNat))) := if_pos h
theorem ltD_int (i j : Int) : ltD (.int i) (.int j) = some (.dat (.bool (decide (i < j)))) := rfl
theorem leD_int (i j : Int) : leD (.int i) (.int j) = some (.dat (.bool (decide (i <= j)))) := rfl
theorem gtD_int (i j : Int) : gtD (.int i) (.int j) = some (.dat (.bool (decide (j < i)))) := rfl
theorem geD_int (i j : Int) : geD (.int i) (.int j) = some (.dat (.bool (decide (j <= i)))) := rfl
theorem eqv_int (i j : Int) : PyData.eqv (.int i) (.int j) = decide (i = j) := by
 simp only [PyData.eqv]
 rw [Bool.eq_iff_iff]
 simp
theorem shaped_int (i : Int) : SeqAt.shaped (.int i) = true := by simp [SeqAt.shaped, PyData.canLay0, PyData.depth]
theorem eqDD_int (i j : Int) : eqDD (.int i) (.int j) = some (.dat (.bool (decide (i = j)))) := by
 show (if SeqAt.shaped (.int i) = true /\ SeqAt.shaped (.int j) = true then some (PV.dat (.bool (PyData.eqv (.int i) (.int j)))) else none) = _
 rw [if_pos ⟨shaped_int i, shaped_int j⟩, eqv_int]
theorem neDD_int (i j : Int) : neDD (.int i) (.int j) = some (.dat (.bool (!decide (i = j)))) := by
 show (if SeqAt.shaped (.int i) = true /\ SeqAt.shaped (.int j) = true then some (PV.dat (.bool (!PyData.eqv (.int i) (.int j)))) else none) = _
 rw [if_pos ⟨shaped_int i, shaped_int j⟩, eqv_int]
theorem eqDD_str (i j : Str) : eqDD (.str i) (.str j) = some (.dat (.bool (decide (i = j)))) := by
 rfl
theorem neDD_str (i j : Str) : neDD (.str i) (.str j) = some (.dat (.bool (!decide (i = j)))) := by
 rfl
theorem ixD_tup (l : List PyData) (i : Int) : ixD (.tuple l) (.int i) = (atI l i).bind fun d => some (.dat d) := rfl
theorem ixD_list (l : List PyData) (i : Int) : ixD (.list l) (.int i) = (atI l i).bind fun d => some (.dat d) := rfl
theorem absD_int (i : Int) : absD [.int i] = some (.dat (.int (if i < 0 then -i else i))) := rfl
theorem negD_int (i : Int) : negD (.int i) = some (.dat (.int (-i))) := rfl
theorem lenD_list (l : List PyData) : lenD [.list l] = some (.dat (.int (l.length : Nat))) := rfl
theorem lenD_tup (l : List PyData) : lenD [.tuple l] = some (.dat (.int (l.length : Nat))) := rfl
theorem tupD_list (l : List PyData) : tupD [.list l] = some (.dat (.tuple l)) := rfl
theorem tupD_tup (l : List PyData) : tupD [.tuple l] = some (.dat (.tuple l)) := rfl
theorem listD_list (l : List PyData) : listD [.list l] = some (.own l) := rfl
theorem listD_tup (l : List PyData) : listD [.tuple l] = some (.own l) := rfl
theorem addD_list {l m : List PyData} (h : l.length + m.length <= 1000000) : addD (.list l) (.list m) = some (.own (l ++ m)) := if_pos h
theorem addD_str {l m : Str} (h : l.length + m.length <= 1000000) : addD (.str l) (.str m) = some (.dat (.str (l ++ m))) := if_pos h
theorem slD_tup (l : List PyData) (lo hi : Option Int) : slD (.tuple l) lo hi = some (.dat (.tuple (cutD l lo hi))) := rfl
theorem slD_list (l : List PyData) (lo hi : Option Int) : slD (.list l) lo hi = some (.own (cutD l lo hi)) := rfl
theorem isD_none (d : PyData) : isD d .none = some (.dat (.bool (isNoneD d))) := rfl
theorem isNotD_none (d : PyData) : isNotD d .none = some (.dat (.bool (!isNoneD d))) := rfl
theorem rng1_int {j : Int} (h : -(4611686018427387904) <= j /\ j < 4611686018427387904) : rng1 [.int j] = some (rngI 0 j.toNat) := @if_pos _ (Classical.propDecidable _) h _ _ _
theorem comp_rng {Fe : Ds -> Option PV} {ds : Ds} {f : Nat -> PyData} {lo : Int} {n : Nat} (h : ∀ i, i < n -> ∃ pv, Fe (some (.dat (.int (lo + (i : Nat)))) :: ds) = some pv /\ pv.d = f i) : compD gtName bTrue Fe ds (rngI lo n) = some ((List.range n).map f) := by
 unfold rngI
 have key : ∀ (l : List Nat), (∀ i ∈ l, i < n) -> compD gtName bTrue Fe ds (l.map fun k => PyData.int (lo + (k : Nat))) = some (l.map f) := by
  intro l
  induction l with
  | nil => intro _; rfl
  | cons i r ih =>
   intro hl
   obtain ⟨pv, h2, h3⟩ := h i (hl i List.mem_cons_self)
   rw [List.map_cons]
   unfold compD
   simp only [gtName, Option.bind_some, bTrue, if_true, dats_cons, dats_nil, List.cons_append, List.nil_append]
   rw [h2]
   simp only [Option.bind_some]
   rw [ih (fun j hj => hl j (List.mem_cons_of_mem _ hj))]
   simp [h3]
 exact key _ (fun i hi => List.mem_range.mp hi)
theorem forD_rng {gt : PyData -> Ds -> Option Ds} {G : Ds -> Option Out} {lo : Int} {n : Nat} (I : Nat -> Ds -> Prop) {ds : Ds} (h0 : I 0 ds) (hs : ∀ i ds, i < n -> I i ds -> ∃ ds1 ds2, gt (.int (lo + (i : Nat))) ds = some ds1 /\ (G ds1 = some (.next ds2) \/ G ds1 = some (.cont ds2)) /\ I (i + 1) ds2) : ∃ ds', forD gt G (rngI lo n) ds = some (.next ds') /\ I n ds' := by
 have key : ∀ (k i : Nat) (ds : Ds), i + k = n -> I i ds -> ∃ ds', forD gt G ((List.range' i k).map fun k => PyData.int (lo + (k : Nat))) ds = some (.next ds') /\ I n ds' := by
  intro k
  induction k with
  | zero =>
   intro i ds e hi
   have h2 : i = n := by omega
   subst h2
   exact ⟨ds, rfl, hi⟩
  | succ k ih =>
   intro i ds e hi
   obtain ⟨ds1, ds2, e1, e2, e3⟩ := hs i ds (by omega) hi
   rw [List.range'_succ, List.map_cons]
   unfold forD
   rw [e1]
   simp only [Option.bind_some]
   obtain ⟨ds', e4, e5⟩ := ih (i + 1) ds2 (by omega) e3
   refine ⟨ds', ?_, e5⟩
   rcases e2 with e2 | e2 <;> rw [e2] <;> exact e4
 obtain ⟨ds', h1, h2⟩ := key n 0 ds (by omega) h0
 refine ⟨ds', ?_, h2⟩
 unfold rngI
 rw [List.range_eq_range']
 exact h1
theorem whileD_false {Fc : Ds -> Option Bool} {G : Ds -> Option Out} {n : Nat} {ds : Ds} (h : Fc ds = some false) : whileD Fc G (n + 1) ds = some (.next ds) := by
 unfold whileD
 rw [h]
 rfl
theorem whileD_step {Fc : Ds -> Option Bool} {G : Ds -> Option Out} {n : Nat} {ds ds2 : Ds} (h : Fc ds = some true) (k : G ds = some (.next ds2)) : whileD Fc G (n + 1) ds = whileD Fc G n ds2 := by
 rw [whileD, h]
 simp only [Option.bind_some, if_true]
 rw [k]
 rfl
theorem whileD_by {Fc : Ds -> Option Bool} {G : Ds -> Option Out} (I : Ds -> Prop) (μ : Ds -> Nat) (hs : ∀ ds, I ds -> Fc ds = some false \/ (Fc ds = some true /\ ∃ ds2, G ds = some (.next ds2) /\ I ds2 /\ μ ds2 < μ ds)) :
  ∀ (n : Nat) (ds : Ds), I ds -> μ ds < n -> ∃ ds', whileD Fc G n ds = some (.next ds') /\ I ds' /\ Fc ds' = some false := by
 intro n
 induction n with
 | zero => intro ds _ h; omega
 | succ n ih =>
  intro ds hi hm
  rcases hs ds hi with h | ⟨h, ds2, k, i2, m2⟩
  . exact ⟨ds, whileD_false h, hi, h⟩
  . obtain ⟨ds', e, r⟩ := ih ds2 i2 (by omega)
    exact ⟨ds', by rw [whileD_step h k]; exact e, r⟩
theorem Bt.s62 {m : Nat} {i : Int} (h1 : -4611686018427387904 < i) (h2 : i < 4611686018427387904) (hm : 62 <= m := by decide) : Bt m i := (Bt.small (by omega) (by omega)).mono hm
theorem Bt.lit {m : Nat} {i : Int} (h1 : -4611686018427387904 < i := by decide) (h2 : i < 4611686018427387904 := by decide) (hm : 62 <= m := by decide) : Bt m i := Bt.s62 h1 h2 hm
end L2
namespace L2
open PySem PySem.Spec PyProof.Rows
noncomputable def gMut0 (i : Nat) (f : List PyData -> List PyData) : Ds -> Option Out := fun ds => match ds[i]? with
 | some (some (.own l)) => some (.next (ds.set i (some (.own (f l)))))
 | _ => none
section
variable {X : Cx} {e o : Expr} {te : TE} {F : Ds -> Option PV} {pos cpos apos : Pos}
theorem psx_rev (i : Nat) (ho : PE X o (tVar i)) (hbase : attributeBase o "reverse" X.env (eval o X.env) = eval o X.env := by rfl) (hline : (apos.endLine == cpos.line) = true := by rfl)
  (hs : swapsWith (.Call (.Attribute o "reverse" apos) [] [] cpos) none pos.line X.env = pure false := by rfl) :
  PSX X (.Expr (.Call (.Attribute o "reverse" apos) [] [] cpos) pos) (tDrop (tBM0 X.K "list" rReverse (tVar i))) (gMut0 i List.reverse) :=
 ⟨ps_expr (pe_bm0 PySem.F.plainAttrs_list PySem.F.slot_list_reverse PySem.F.type_list_reverse mt_reverse ho hbase hline) hs, by
 intro O H₀ as σ H ds D o S h q
 unfold gMut0 at h
 split at h
 . rename_i l hd
   cases h
   obtain ⟨a, xs, z1, z2, z3, z4⟩ := S.slot i _ hd
   exact ⟨_, z1, .inl ⟨rfl, xs, SqL.of z3⟩, a, xs, rfl, rfl, z3, q as σ _ (S.turn (xs := xs) hd z1 z2 z4.reverse)⟩
 . cases h⟩
noncomputable def gExt (i : Nat) (F : Ds -> Option PV) : Ds -> Option Out := fun ds => (F ds).bind fun pv => match pv, ds[i]? with
 | .own m, some (some (.own l)) => if l.length + m.length <= 1000000 then some (.next (ds.set i (some (.own (l ++ m))))) else none
 | _, _ => none
theorem psx_ext (i : Nat) (ho : PE X o (tVar i)) (he : PX X true e te F) (hst : starEach [e] X.env = (false, eval e X.env) :: starEach [] X.env := by rfl)
  (hbase : attributeBase o "extend" X.env (eval o X.env) = eval o X.env := by rfl)
  (hfew : ((backTo cpos (starEach [e] X.env)).all (fun x => !x.1) && (backToKw cpos (keywordEach [] X.env)).all (fun x => x.1.isSome)
   && decide ([e].length + ([] : List Keyword).length + (if ([] : List Keyword).isEmpty then 0 else 1) < 30)) = true := by rfl)
  (hline : (apos.endLine == cpos.line) = true := by rfl) (hplain : (backTo cpos (starEach [] X.env)).any (·.1) = false := by rfl)
  (hs : swapsWith (.Call (.Attribute o "extend" apos) [e] [] cpos) none pos.line X.env = pure false := by rfl) :
  PSX X (.Expr (.Call (.Attribute o "extend" apos) [e] [] cpos) pos) (tDrop (tBM X.K "list" rExtend (tVar i) (tCons te tNil))) (gExt i F) :=
 ⟨ps_expr (pe_bm PySem.F.plainAttrs_list PySem.F.slot_list_extend PySem.F.type_list_extend mt_extend ho (pa_cons he.p pa_nil hst) hbase hfew hline hst hplain) hs, by
 intro O H₀ as σ H ds D o S h q
 unfold gExt at h
 cases e1 : F ds with
 | none => rw [e1] at h; cases h
 | some pv =>
  rw [e1] at h
  simp only [Option.bind_some] at h
  split at h
  . rename_i m l hd
    split at h
    . rename_i hl
      cases h
      obtain ⟨a, xs, z1, z2, z3, z4⟩ := S.slot i _ hd
      refine ⟨_, z1, .inl ⟨rfl, xs, SqL.of z3⟩, ?_⟩
      refine he.t O H₀ as σ H ds _ _ S e1 fun v H1 s1 r1 => ?_
      obtain ⟨b, zs, rfl, y1, y2, y3⟩ := r1
      have hx := z4.length
      have hy := y3.length
      refine ⟨a, b, xs, zs, rfl, rfl, s1 _ _ z3, y2, szM (by omega), q as σ _ ?_⟩
      exact (S.grow s1).turn (xs := xs) hd z1 z2 ((z4.same (hid_same s1)).append (y3.same (hid_sub (Same.refl _) fun b z => List.mem_cons_of_mem _ z)))
    . cases h
  . cases h⟩
noncomputable def gSetI (i : Nat) (Fk Fv : Ds -> Option PV) : Ds -> Option Out := fun ds => (Fv ds).bind fun pv => (Fk ds).bind fun k => match k.d, ds[i]? with
 | .int k, some (some (.own l)) => (ixN l.length k).bind fun j => some (.next (ds.set i (some (.own (l.set j pv.d)))))
 | _, _ => none
theorem psx_setI {k : Expr} {tk : TE} {Fk : Ds -> Option PV} (i : Nat) {ipos : Pos} (ho : PE X o (tVar i)) (hk : PX X true k tk Fk) (he : PX X true e te F)
  (ha : ∀ v, assign (.Subscript o k ipos) X.env v = (do
   let ov <- holding [v] (eval o X.env)
   let iv <- holding [v, ov] (eval k X.env)
   standAt ipos
   holding [v, ov, iv] (setItem ov iv v)
   release [v, ov, iv] []) := by intro _; rfl)
  (hs : swapsWithSole [.Subscript o k ipos] e pos.line X.env = pure false := by rfl) (hw : swappedStores [.Subscript o k ipos] e X.env = pure none := by rfl)
  (h1 : (assignEach [.Subscript o k ipos] X.env).map (·.2) = [assign (.Subscript o k ipos) X.env] := by rfl) :
  PSX X (.Assign [.Subscript o k ipos] e pos) (tAsg te (gSub (tVar i) tk rSetL)) (gSetI i Fk F) := ⟨ps_asg he.p (pg_sub ho hk.p set_list ha) hs hw h1, by
 intro O H₀ as σ H ds D o S h q
 unfold gSetI at h
 cases e1 : F ds with
 | none => rw [e1] at h; cases h
 | some pv =>
  cases e2 : Fk ds with
  | none => rw [e1, e2] at h; cases h
  | some kv =>
   rw [e1, e2] at h
   simp only [Option.bind_some] at h
   split at h
   . rename_i kk l hkk hd
     cases e3 : ixN l.length kk with
     | none => rw [e3] at h; cases h
     | some j =>
      rw [e3] at h
      cases h
      refine he.t O H₀ as σ H ds pv _ S e1 fun v H1 s1 r1 => ?_
      have S1 := S.grow s1
      obtain ⟨a, xs, z1, z2, z3, z4⟩ := S1.slot i _ hd
      refine ⟨_, z1, ?_⟩
      refine hk.t O H₀ as σ H1 ds kv _ S1 e2 fun w H2 s2 r2 => ?_
      have dk := r2.dt S1.dm
      rw [hkk] at dk
      cases dk
      have dv := (r1.grow s2).dt S.dm
      refine ⟨a, xs, kk, j, rfl, rfl, s2 _ _ z3, by rw [z4.length]; exact e3, q as σ _ ?_⟩
      exact (S1.grow s2).turn (xs := xs) hd z1 z2 ((z4.same (hid_same s2)).set j dv)
   . cases h⟩
end
noncomputable def eqF : PyData -> PyData -> Bool
 | .none, .none => true
 | .bool a, .bool b => a == b
 | .bool a, .int b => (if a then 1 else 0) == b
 | .int a, .bool b => a == (if b then 1 else 0)
 | .int a, .int b => a == b
 | .str a, .str b => a == b
 | _, _ => false
theorem Dt.flatV {K : PySem.W.Frag} {H : Hp} {x : V} {d : PyData} (h : Dt K H x d) (f : Flat d = true) : L2.flatV x = true := by
 cases h with
 | non => rfl
 | bl _ => rfl
 | int _ => rfl
 | str _ => rfl
 | tup _ _ => cases f
 | lst _ _ => cases f
 | exc _ _ _ _ _ => cases f
 | fn _ => cases f
theorem Dt.eqF {K : PySem.W.Frag} {H : Hp} {x y : V} {d e : PyData} (h : Dt K H x d) (k : Dt K H y e) (f : Flat d = true) (g : Flat e = true) : eqV x y = L2.eqF d e := by
 cases h with
 | tup _ _ => cases f
 | lst _ _ => cases f
 | exc _ _ _ _ _ => cases f
 | fn _ => cases f
 | non => cases k with
  | tup _ _ => cases g
  | lst _ _ => cases g
  | exc _ _ _ _ _ => cases g
  | fn _ => cases g
  | _ => rfl
 | bl _ => cases k with
  | tup _ _ => cases g
  | lst _ _ => cases g
  | exc _ _ _ _ _ => cases g
  | fn _ => cases g
  | _ => rfl
 | int _ => cases k with
  | tup _ _ => cases g
  | lst _ _ => cases g
  | exc _ _ _ _ _ => cases g
  | fn _ => cases g
  | _ => rfl
 | str _ => cases k with
  | tup _ _ => cases g
  | lst _ _ => cases g
  | exc _ _ _ _ _ => cases g
  | fn _ => cases g
  | _ => rfl
theorem Dts.inV {K : PySem.W.Frag} {H : Hp} {x : V} {d : PyData} (h : Dt K H x d) (f : Flat d = true) : ∀ {xs : List V} {l : List PyData}, Dts K H xs l -> l.all Flat = true -> xs.all flatV = true /\ L2.inV x xs = l.any (fun y => L2.eqF y d)
 | _, _, .nil, _ => ⟨rfl, rfl⟩
 | _, _, .cons k t, g => by
  rw [List.all_cons, Bool.and_eq_true] at g
  obtain ⟨h1, h2⟩ := Dts.inV h f t g.2
  refine ⟨by rw [List.all_cons, k.flatV g.1, h1]; rfl, ?_⟩
  unfold L2.inV at h2 ⊢
  rw [List.any_cons, List.any_cons, h2, k.eqF h g.1 f]
noncomputable def inD : PyData -> PyData -> Option PV := fun d e => (seqOf e).bind fun l => if Flat d = true /\ l.all Flat = true then some (.dat (.bool (l.any fun y => eqF y d))) else none
noncomputable def notInD : PyData -> PyData -> Option PV := fun d e => (seqOf e).bind fun l => if Flat d = true /\ l.all Flat = true then some (.dat (.bool (!l.any fun y => eqF y d))) else none
theorem in_core {K : PySem.W.Frag} {O : List Addr} {va : As} {H : Hp} {x y : V} {d e : PyData} {l : List PyData} (hx : Dt K (hid H va O) x d) (hy : Dt K (hid H va O) y e) (hl : seqOf e = some l) (hf : Flat d = true /\ l.all Flat = true) :
  ∃ p xs, y = .ref p /\ (SqL K H p xs \/ SqT K H p xs) /\ flatV x = true /\ xs.all flatV = true /\ inV x xs = l.any (fun y => eqF y d) := by
 cases hy with
 | lst hs ht =>
  cases hl
  obtain ⟨h1, h2⟩ := Dts.inV hx hf.1 ht hf.2
  exact ⟨_, _, rfl, .inl (hid_all.seq hs), hx.flatV hf.1, h1, h2⟩
 | tup hs ht =>
  cases hl
  obtain ⟨h1, h2⟩ := Dts.inV hx hf.1 ht hf.2
  exact ⟨_, _, rfl, .inr (hid_all.seqT hs), hx.flatV hf.1, h1, h2⟩
 | _ => cases hl
theorem x_in {K : PySem.W.Frag} : R2X K (rIn K false) inD := by
 intro O va H x y d e pv Q D hx hy hf q
 unfold inD at hf
 cases hl : seqOf e with
 | none => rw [hl] at hf; cases hf
 | some l =>
  rw [hl] at hf
  simp only [Option.bind_some] at hf
  split at hf
  . rename_i hc
    cases hf
    obtain ⟨p, xs, e1, h1, h2, h3, h4⟩ := in_core hx hy hl hc
    refine ⟨p, xs, e1, h1, h2, h3, q _ H (Same.refl H) ?_⟩
    rw [h4]
    exact Dt.bl _
  . cases hf
theorem x_notIn {K : PySem.W.Frag} : R2X K (rIn K true) notInD := by
 intro O va H x y d e pv Q D hx hy hf q
 unfold notInD at hf
 cases hl : seqOf e with
 | none => rw [hl] at hf; cases hf
 | some l =>
  rw [hl] at hf
  simp only [Option.bind_some] at hf
  split at hf
  . rename_i hc
    cases hf
    obtain ⟨p, xs, e1, h1, h2, h3, h4⟩ := in_core hx hy hl hc
    refine ⟨p, xs, e1, h1, h2, h3, q _ H (Same.refl H) ?_⟩
    rw [h4]
    exact Dt.bl _
  . cases hf
end L2
namespace L2
open PySem PySem.Spec PyProof.Rows
noncomputable def fIxO (i : Nat) (F : Ds -> Option PV) : Ds -> Option PV := fun ds => match ds[i]? with
 | some (some pv) => (F ds).bind fun k => ixD pv.d k.d
 | _ => none
noncomputable def fListO (i : Nat) : Ds -> Option PV := fun ds => match ds[i]? with
 | some (some pv) => listD [pv.d]
 | _ => none
noncomputable def intsOf : List PyData -> Option (List Int)
 | [] => some []
 | .int i :: r => (intsOf r).bind fun l => some (i :: l)
 | _ => none
noncomputable def sumD : List PyData -> Option PV
 | [.list l] => (intsOf l).bind fun is => some (.dat (.int is.sum))
 | _ => none
noncomputable def enumFrom : Int -> List PyData -> List PyData
 | _, [] => []
 | k, d :: r => .tuple [.int k, d] :: enumFrom (k + 1) r
noncomputable def enumD : List PyData -> Option (List PyData)
 | [d] => (seqOf d).bind fun l => some (enumFrom 0 l)
 | _ => none
theorem chain_if (a b : Prop) [Decidable a] [Decidable b] : (if a then some (PV.dat (.bool (decide b))) else some (PV.dat (.bool false))) = some (PV.dat (.bool (decide (a /\ b)))) := by
 by_cases h : a
 . rw [if_pos h]; simp [h]
 . rw [if_neg h]; simp [h]
theorem intD_int (i : Int) : intD [.int i] = some (.dat (.int i)) := rfl
theorem intD_bool (b : Bool) : intD [.bool b] = some (.dat (.int (if b = true then 1 else 0))) := rfl
theorem sumD_list (l : List PyData) : sumD [.list l] = (intsOf l).bind fun is => some (.dat (.int is.sum)) := rfl
theorem enumD_seq (d : PyData) : enumD [d] = (seqOf d).bind fun l => some (enumFrom 0 l) := rfl
theorem forD_next {gt : PyData -> Ds -> Option Ds} {G : Ds -> Option Out} {d : PyData} {r : List PyData} {ds ds1 ds2 : Ds} (h1 : gt d ds = some ds1) (h2 : G ds1 = some (.next ds2)) : forD gt G (d :: r) ds = forD gt G r ds2 := by
 rw [forD, h1]
 simp only [Option.bind_some]
 rw [h2]
 rfl
section
variable {X : Cx} {fr : Bool} {b o : Expr} {tb : TE} {Fb : Ds -> Option PV} {pos p : Pos}
theorem px_ixO (i : Nat) (ho : PE X o (tVar i)) (hb : PX X fr b tb Fb) (hs : PlainIx b := by intro _ _; rfl) : PX X fr (.Subscript o b pos) (tOp (rIx X.K) (tVar i) tb) (fIxO i Fb) := ⟨pe_ix ix_seq ho hb.p hs, by
 intro O H₀ as σ H ds pv Q S hf q
 unfold fIxO at hf
 split at hf
 . rename_i w hd
   cases h1 : Fb ds with
   | none => rw [h1] at hf; cases hf
   | some k =>
    rw [h1] at hf
    simp only [Option.bind_some] at hf
    have sl := S.slot i _ hd
    cases w with
    | dat d =>
     obtain ⟨v, e1, hv⟩ := sl
     refine ⟨v, e1, hb.t O H₀ as σ H ds k _ S h1 fun y H1 s1 r1 => ?_⟩
     exact x_ix O (vis fr as) H1 v y d k.d pv Q (S.grow s1).dm (hv.same (hid_vis.trans (hid_same s1))) (r1.dt S.dm) hf fun u H2 e2 r2 => q u H2 (s1.trans e2) (r2.back s1)
    | own l =>
     obtain ⟨a, xs, e1, e2, e3, hv⟩ := sl
     refine ⟨_, e1, hb.t O H₀ as σ H ds k _ S h1 fun y H1 s1 r1 => ?_⟩
     have dy := r1.dt S.dm
     generalize k.d = kk at hf dy
     cases dy with
     | int j =>
      have hf' : ((L2.atI l j).bind fun d => some (PV.dat d)) = some pv := hf
      cases h2 : L2.atI l j with
      | none => rw [h2] at hf'; cases hf'
      | some d =>
       rw [h2] at hf'
       cases hf'
       obtain ⟨v, h3, h4⟩ := hv.atI h2
       exact .inl ⟨a, xs, j, v, rfl, rfl, SqL.of (s1 _ _ e3), h3, q v H1 s1 (Dt.same (hid_vis.trans (hid_same s1)) h4)⟩
     | _ => cases hf
 . cases hf⟩
theorem px_const {x : Str} {u : Value} {v : V} {d : PyData} (hg : Gl X x) (h : X.mg x = some u /\ RelV v u /\ ∀ H, Dt X.K H v d) (hd : (x == ("__debug__" : Str)) = false := by decide) : PX X fr (.Name x pos) (tC v) (fC d) :=
 px_c (pe_glob hg h.1 h.2.1 hd) h.2.2
end
theorem const_tup {K : PySem.W.Frag} {mg : Str -> Option Value} {x : Str} {a : Addr} {dd : Option Addr} {its : Array Value} {n : Nat} {sl : Array (Option Value)} {vs : List V} {ds : List PyData} (hm : mg x = some (.ref a)) (hk : K.lookup a = some ⟨.type "tuple", dd, .seq its n, sl⟩) (hz : its.size <= 1000) (r : Vals vs its.toList) (hd : ∀ H, Dts K H vs ds) :
  mg x = some (.ref a) /\ RelV (.ref a) (.ref a) /\ ∀ H, Dt K H (.ref a) (.tuple ds) := ⟨hm, rfl, fun H => .tup (.inr ⟨_, its, n, hk, rfl, rfl, Nat.le_trans hz (by rw [sizeLine_eq]; decide), r⟩) (hd H)⟩
theorem const_flat {K : PySem.W.Frag} {mg : Str -> Option Value} {x : Str} {u : Value} {v : V} {d : PyData} (hm : mg x = some u) (r : RelV v u) (hd : ∀ H, Dt K H v d) : mg x = some u /\ RelV v u /\ ∀ H, Dt K H v d := ⟨hm, r, hd⟩
section
variable {X : Cx} {bs nb : List Str} {elt tg iter : Expr} {ifs : List Expr} {scope : Scope} {cpos pos pos' : Pos} {wi : TI} {g : TG} {tt : TT} {te : TE} {Fi : Ds -> Option (List PyData)} {gt : PyData -> Option (List PyData)} {Fc : Ds -> Option Bool} {Fe : Ds -> Option PV} {i : Nat} {x : Str}
theorem psx_setCD (hN : X.N.Nodup) (hi' : X.N[i]? = some x) (hx : Loc X.env.scope x) (hc : X.calm = true) (B : BlkOk X bs nb scope) (hi : PIX X true tg iter wi Fi) (go : GOwn bs.length g) (hg : ∀ cl C fp s H pins, PG (blk X bs nb scope cl C fp s H pins) tg g) (hgt : TGB X.K bs.length g gt) (ht : ∀ cl C fp s H pins, PIfsX (blk X bs nb scope cl C fp s H pins) ifs tt Fc) (he : ∀ cl C fp s H pins, PX (blk X bs nb scope cl C fp s H pins) true elt te Fe)
  (hsw : swapsWith (.ListComp elt [⟨tg, iter, ifs, 0⟩] scope cpos) (some (.Name x pos')) pos.line X.env = pure true := by rfl) (hf : X.fn x = true \/ X.env.scope.names.lookup x = some .local := by first | exact .inl rfl | exact .inr rfl | assumption)
  (hs : ∀ x, foldedSetIterable iter X.env x = pure x := by intro _; rfl) : PSX X (.Assign [.Name x pos'] (.ListComp elt [⟨tg, iter, ifs, 0⟩] scope cpos) pos) (tAsg (tComp bs wi g tt te) (gName i)) (gSetD i (fComp Fi gt Fc Fe)) :=
 ⟨ps_setC hN hi' hx hc B hi.p go hg (fun _ _ _ _ _ _ => (ht _ _ _ _ _ _).p) (fun _ _ _ _ _ _ => (he _ _ _ _ _ _).p) hsw hf hs, by
 have hF := (px_comp (pos := cpos) hc B hi go hg hgt ht he hs).t
 intro O H₀ as σ H ds D o S h q
 unfold gSetD at h
 cases e1 : fComp Fi gt Fc Fe ds with
 | none => rw [e1] at h; cases h
 | some pv =>
  rw [e1] at h
  cases h
  refine hF O H₀ as σ H ds pv _ S e1 fun v H1 s1 r1 => ?_
  exact q _ _ _ ((S.grow s1).set i (r1.dt S.dm))⟩
theorem psx_setCO (hN : X.N.Nodup) (hi' : X.N[i]? = some x) (hx : Loc X.env.scope x) (hc : X.calm = true) (B : BlkOk X bs nb scope) (hi : PIX X true tg iter wi Fi) (go : GOwn bs.length g) (hg : ∀ cl C fp s H pins, PG (blk X bs nb scope cl C fp s H pins) tg g) (hgt : TGB X.K bs.length g gt) (ht : ∀ cl C fp s H pins, PIfsX (blk X bs nb scope cl C fp s H pins) ifs tt Fc) (he : ∀ cl C fp s H pins, PX (blk X bs nb scope cl C fp s H pins) true elt te Fe)
  (hsw : swapsWith (.ListComp elt [⟨tg, iter, ifs, 0⟩] scope cpos) (some (.Name x pos')) pos.line X.env = pure true := by rfl) (hf : X.fn x = true \/ X.env.scope.names.lookup x = some .local := by first | exact .inl rfl | exact .inr rfl | assumption)
  (hs : ∀ x, foldedSetIterable iter X.env x = pure x := by intro _; rfl) : PSX X (.Assign [.Name x pos'] (.ListComp elt [⟨tg, iter, ifs, 0⟩] scope cpos) pos) (tAsg (tComp bs wi g tt te) (gName i)) (gSet i (fComp Fi gt Fc Fe)) :=
 ⟨ps_setC hN hi' hx hc B hi.p go hg (fun _ _ _ _ _ _ => (ht _ _ _ _ _ _).p) (fun _ _ _ _ _ _ => (he _ _ _ _ _ _).p) hsw hf hs, by
 have hF := (px_comp (pos := cpos) hc B hi go hg hgt ht he hs).t
 intro O H₀ as σ H ds D o S h q
 unfold gSet at h
 cases e1 : fComp Fi gt Fc Fe ds with
 | none => rw [e1] at h; cases h
 | some pv =>
  rw [e1] at h
  cases h
  refine hF O H₀ as σ H ds pv _ S e1 fun v H1 s1 r1 => ?_
  obtain ⟨as', S'⟩ := S.store s1 i r1
  exact q _ _ _ S'⟩
end
end L2
namespace L2
open PySem PySem.Spec PyProof.Rows
mutual
noncomputable def LF : PyData -> Bool
 | .none => true
 | .bool _ => true
 | .int _ => true
 | .str _ => true
 | .tuple l => LFs l
 | _ => false
noncomputable def LFs : List PyData -> Bool
 | [] => true
 | d :: r => LF d && LFs r
end
theorem seqT_lf {K : PySem.W.Frag} {H H' : Hp} {a : Addr} {xs : List V} (e : ∀ b o, H b = some o -> (∀ xs, o ≠ .lst xs) -> H' b = some o) (h : SqT K H a xs) : SqT K H' a xs := by
 rcases h with (h | ⟨o, h⟩) | h
 . exact .inl (.inl (e _ _ h (fun _ z => by cases z)))
 . exact .inl (.inr ⟨o, e _ _ h (fun _ z => by cases z)⟩)
 . exact .inr h
mutual
theorem Dt.lf {K : PySem.W.Frag} {H H' : Hp} (e : ∀ b o, H b = some o -> (∀ xs, o ≠ .lst xs) -> H' b = some o) {x : V} {d : PyData} (h : Dt K H x d) (f : LF d = true) : Dt K H' x d := by
 cases h with
 | non => exact .non
 | bl b => exact .bl b
 | int i => exact .int i
 | str y => exact .str y
 | tup hs ht => exact .tup (seqT_lf e hs) (Dts.lf e ht (by rw [LF] at f; exact f))
 | lst hs ht => simp [LF] at f
 | exc _ _ _ _ _ => simp [LF, excD] at f
 | fn _ => simp [LF, fnD] at f
theorem Dts.lf {K : PySem.W.Frag} {H H' : Hp} (e : ∀ b o, H b = some o -> (∀ xs, o ≠ .lst xs) -> H' b = some o) {xs : List V} {ds : List PyData} (h : Dts K H xs ds) (f : LFs ds = true) : Dts K H' xs ds := by
 cases h with
 | nil => exact .nil
 | cons a t =>
  rw [LFs, Bool.and_eq_true] at f
  exact .cons (Dt.lf e a f.1) (Dts.lf e t f.2)
end
noncomputable def fMeth (f : PyData -> List PyData -> Option PV) (Fo : Ds -> Option PV) (Fl : Ds -> Option (List PyData)) : Ds -> Option PV := fun ds => (Fo ds).bind fun o => (Fl ds).bind fun l => f o.d l
theorem isNone_tup (l : List PyData) : isNoneD (.tuple l) = false := rfl
theorem isNone_lst (l : List PyData) : isNoneD (.list l) = false := rfl
theorem isNone_int (i : Int) : isNoneD (.int i) = false := rfl
theorem isNone_non : isNoneD .none = true := rfl
end L2
namespace L2
open PySem PySem.Spec PyProof.Rows
section
variable {X : Cx} {pins : List (Addr × Obj)} {σ : St} {H : Hp} {s : Shared}
end
end L2
namespace L2
open PySem PySem.Spec PyProof.Rows
section
variable {X : Cx} {pins : List (Addr × Obj)} {σ : St} {H : Hp} {s : Shared} {h' : Heap}
theorem ObjOk.get {P : Program} {w : World} {H : Hp} {h : Heap} {a : Addr} {o : HO} (x : ObjOk P w H h a o) : ∃ ob, h.get? a = some ob := by
 induction o with
 | lst xs => obtain ⟨_, _, _, _, e⟩ := x; exact ⟨_, e⟩
 | tup xs => obtain ⟨_, _, _, o, e, _⟩ := x; exact ⟨_, e⟩
 | dK kvs => obtain ⟨_, _, _, _, o, _, _, e, _⟩ := x; exact ⟨_, e⟩
 | dT kvs => obtain ⟨_, _, _, _, o, _, _, e, _⟩ := x; exact ⟨_, e⟩
 | set S n => obtain ⟨o, _, _, _, e, _⟩ := x; exact ⟨_, e⟩
 | ins C dx fs => obtain ⟨_, _, _, e, _⟩ := x; exact ⟨_, e⟩
 | own y => exact x
 | xd fs => obtain ⟨_, ⟨o, _, _, e, _⟩, _⟩ := x; exact ⟨_, e⟩
 | met f y => exact ⟨_, x⟩
 | rng lo hi => obtain ⟨_, _, _, e⟩ := x; exact ⟨_, e⟩
 | frz o u ih => exact ⟨_, x.1⟩
 | tbl ps => exact ⟨_, x⟩
 | ext φ => exact x.2.1
end
end L2
namespace L2
open PySem PySem.Spec PyProof.Rows
section
variable {prog : Program} {w : World} {A : Around} {E : Value -> Shared -> Prop} {s : Shared}
end
end L2
namespace L2
open PySem PySem.Spec PyProof.Rows
theorem meets_enumK (kd : Bool) (l : Addr) (xs : Array Value) :
  Meets (Builtin.«enumerate.__new__» ⟨[.type "enumerate", .ref l], []⟩) (fun _ R s => SeqK kd s.heap l xs /\
   R (.ok (.ret (.ref (s.heap.push (itO kd l)).objs.size))) { s with heap := (s.heap.push (itO kd l)).push { cls := .type "enumerate", data := .fields #[.none, .bool false, .ref s.heap.objs.size, rawInt 0, .none, .none] } }) :=
 .of_wp fun prog w A R s h => by
  obtain ⟨hp, g, d, tk, os⟩ := s
  obtain ⟨x1, h⟩ := h
  have hsub := sub_enumerate
  have y1 : SeqK kd (Shared.heap ⟨hp, g, d, tk, os⟩) l xs := x1
  wp_walk using iterK y1
  refine wpAny_stack_any fun st => wpAny_pure ?_
  split
  . rename_i c _ _ _ _ _
    cases (c == Value.type "enumerate")
    . wp_walk using iterK y1
      exact ⟨_, rfl, h⟩
    . wp_walk using iterK y1
      exact ⟨_, rfl, h⟩
  . wp_walk using iterK y1
    exact ⟨_, rfl, h⟩
section
variable {prog : Program} {w : World} {A : Around} {E : Value -> Shared -> Prop} {s : Shared}
theorem call_enumK {kd : Bool} {l : Addr} {xs : Array Value} {Q : Value -> Shared -> Prop} (x1 : SeqK kd s.heap l xs)
  (h : ∀ h', IsEnum h' (s.heap.objs.size + 1) s.heap.objs.size 0 .none -> ItK kd h' s.heap.objs.size l 0 -> (∀ b o, s.heap.get? b = some o -> h'.get? b = some o) -> Q (.ref (s.heap.objs.size + 1)) { s with heap := h' }) :
  wpAny (model prog w) A (call (.type "enumerate") [.ref l]) Q E s := by
 refine callType_new F.called_enumerate (by decide) (F.typeCall_enumerate_1 _) (F.newCall_enumerate_1 _) (fun obj => F.args_object_init_2 obj _) F.entry_enumerate_new (meets_enumK kd l xs) ⟨x1, ?_⟩
 have hz : (s.heap.push (itO kd l)).objs.size = s.heap.objs.size + 1 := Heap.size_push ..
 have f1 : (itO kd l).isFreed = false := by cases kd <;> rfl
 show _ /\ _
 rw [hz]
 have he : IsEnum ((s.heap.push (itO kd l)).push { cls := .type "enumerate", data := .fields #[.none, .bool false, .ref s.heap.objs.size, rawInt 0, .none, .none] }) (s.heap.objs.size + 1) s.heap.objs.size 0 .none := by
  have := Heap.get?_push_size (s.heap.push (itO kd l)) (o := { cls := .type "enumerate", data := .fields #[.none, .bool false, .ref s.heap.objs.size, rawInt 0, .none, .none] }) rfl
  rw [hz] at this
  exact this
 exact ⟨⟨_, he, rfl⟩, h _ he (.new (Heap.get?_push_of_some _ (Heap.get?_push_size _ f1))) fun b o x => Heap.get?_push_of_some _ (Heap.get?_push_of_some _ x)⟩
end
theorem drawsK {prog : Program} {w : World} {A : Around} {kd : Bool} (hh : A.handled = none) (it l : Addr) (hne : l ≠ it) (xs : Array Value) :
  Draws prog w A it [it, l] xs.size (fun i v => xs[i]? = some v) (fun i h => OfK kd h it l i xs) where
 live := fun i h st => by
  cases kd
  . exact (Draws.list (prog := prog) (w := w) hh it l hne xs).live i h st
  . obtain ⟨o, ho, _⟩ := (show h.IsTupleIter it l i /\ h.IsTuple l xs from st).1
    exact ⟨o, ho⟩
 frame := fun i h h' st hk => st.kept fun b o hb e => hk b (by rcases hb with rfl | rfl <;> simp) o e
 item := fun i s Q E hi st hQ => by
  refine nextS_item st hne (x := xs[i]) (by simp [hi]) fun h' it' sb => ?_
  refine hQ _ h' s.toks (by simp [hi]) ?_ sb
  have k2 : ∀ o, s.heap.get? l = some o -> h'.get? l = some o := fun o e => sb.extBut l o hne e
  cases kd
  . obtain ⟨_, o, eo, r⟩ := (show s.heap.IsListIter it l i /\ s.heap.IsList l xs from st)
    exact ⟨it', o, k2 o eo, r⟩
  . obtain ⟨_, o, eo, r⟩ := (show s.heap.IsTupleIter it l i /\ s.heap.IsTuple l xs from st)
    exact ⟨it', o, k2 o eo, r⟩
 done := fun s Q E st hE => nextS_end hh st (by simp) hE
noncomputable def Ite (kd : Bool) (K : PySem.W.Frag) (a : Addr) : It :=
 ⟨fun i H => ∃ xs x, SqK kd K H a xs /\ xs[i]? = some x,
  fun i H v H' => ∃ p, v = .ref p /\ H p = none /\ ∃ x, H' = upd H p (.tup [.int i, x]) /\ ∀ xs, SqK kd K H a xs -> xs[i]? = some x,
  fun i H => ∃ xs, SqK kd K H a xs /\ xs.length <= i⟩
theorem turn_enum {P : Program} {w : World} {K : PySem.W.Frag} {es : List Expr} {k : Nat} {pos : Pos} {kd : Bool} {e it a : Addr} (hei : e ≠ it) :
  Turn P w K (.Tuple es k pos) (Ite kd K a) [e, it] e (fun i h => (∃ old, IsEnum h e it i old) /\ ItK kd h it a i) where
 mem := by simp
 obj := fun i h st c hc => by
  have hc' : c = e \/ c = it := by simpa using hc
  rcases hc' with rfl | rfl
  . obtain ⟨old, q⟩ := st.1
    exact ⟨_, q, fun v z => by cases z⟩
  . exact st.2.obj
 keep := fun i h h' st kk => by
  obtain ⟨old, q⟩ := st.1
  exact ⟨⟨old, kk e (by simp) _ q⟩, st.2.at fun o z => kk it (by simp) o z⟩
 item := by
  intro X hP hw hK hc i pins s σ H E I hf st hg
  subst hP hw hK
  obtain ⟨xs, x, sx, ex⟩ := hg
  obtain ⟨us, rx, ox⟩ := I.sof sx st.2
  obtain ⟨u, hu, ru⟩ := rx.get ex
  obtain ⟨old, he⟩ := st.1
  have fe := hf e (by simp)
  have fi := hf it (by simp)
  have ai : a ≠ it := sx.x.ne I fi
  have ae : a ≠ e := sx.x.ne I fe
  have hlt : i < us.toArray.size := by
   have : i < us.length := by
    by_cases c : i < us.length
    . exact c
    . rw [List.getElem?_eq_none (by omega)] at hu; cases hu
   simpa using this
  have hhd : X.A.in1.handled = none := I.ok.hd hc
  have D : Draws X.prog X.w X.A.in1 it [it, a] us.toArray.size (fun i v => us.toArray[i]? = some v) (fun i h => OfK kd h it a i us.toArray) := drawsK hhd it a ai us.toArray
  refine wpAny_pyNext_enum_itemD D he ox hlt hei (by simp; exact ⟨hei, ae.symm⟩) fun x' h' tk hP ho hs' hT' hsz hk => ?_
  have ux : x' = u := by
   have : us.toArray[i]? = some u := by simpa using hu
   rw [this] at hP
   cases hP
   rfl
  subst ux
  have hT : H s.heap.objs.size = none := I.hok.fresh (Nat.le_refl _)
  have I1 : Inv X pins σ H { s with heap := h', toks := tk + 1 } := I.turnedL (t' := tk + 1) (ch := [e, it]) (fun c o hc z => hk c o (fun q => hc (by simp [q])) (fun q => hc (by simp [q])) z) (fun c hc => hf c (by simpa using hc))
  have hTloc : s.heap.objs.size ≠ X.env.locals := Nat.ne_of_gt I.lt
  have I2 : Inv X pins σ (upd H s.heap.objs.size (.tup [.int i, x])) { s with heap := h', toks := tk + 1 } := I1.track hT hTloc (.inr I.sz)
   (fun n c z q => by
    obtain ⟨vv, q2⟩ := I.cell n c z
    exact absurd q2.lt (by rw [q]; exact Nat.lt_irrefl _))
   (fun p hp q => absurd (Heap.lt_size (I.pin p hp).1) (by rw [q]; exact Nat.lt_irrefl _))
   ⟨by show 2 <= sizeLine; rw [sizeLine_eq]; decide, [.int i tk, x'], .cons ⟨_, rfl⟩ (.cons ru .nil), ⟨_, hT', rfl, _, rfl⟩⟩
  refine ⟨_, rfl, wpAny_letOwnedTupleGo_enum ho fun h2 z2 b2 => ?_⟩
  have el : e < s.heap.objs.size := Heap.lt_size he
  have uz : ∀ c, c ∈ [e, it] -> (upd H s.heap.objs.size (.tup [.int i, x])) c = none := fun c hc => by
   have hlt : c < s.heap.objs.size := by
    have hc' : c = e \/ c = it := by simpa using hc
    rcases hc' with rfl | rfl
    . exact el
    . obtain ⟨o, z, _⟩ := st.2.obj; exact Heap.lt_size z
   rw [upd_ne (Nat.ne_of_lt hlt)]
   exact (hf c hc).1
  have I3 : Inv X pins σ (upd H s.heap.objs.size (.tup [.int i, x])) { s with heap := h2, toks := tk + 1 } := Inv.turned (s := { s with heap := h', toks := tk + 1 }) I2 (t' := tk + 1) (it := e) (fun c o hc z => b2.extBut c o hc z) (uz e (by simp)) fe.2.1 fe.2.2.2.1 fe.2.2.2.2.1 fe.2.2.2.2.2
  refine ⟨.ref s.heap.objs.size, _, I3, rfl, ⟨_, rfl, hT, x, rfl, fun xs' hx' => ?_⟩, ⟨⟨_, z2⟩, ?_⟩, uz⟩
  . rw [hx'.inj I sx]
    exact ex
  . have it' : ItK kd h' it a (i + 1) := by
      cases kd
      . exact (show h'.IsListIter it a (i + 1) /\ _ from hs').1
      . exact (show h'.IsTupleIter it a (i + 1) /\ _ from hs').1
    exact it'.at fun o q => b2.extBut _ _ hei.symm q
 done := by
  intro X hP hw hK hc i pins s σ H E I hf st hg
  subst hP hw hK
  obtain ⟨xs, sx, hend⟩ := hg
  obtain ⟨us, rx, ox⟩ := I.sof sx st.2
  obtain ⟨old, he⟩ := st.1
  have fi := hf it (by simp)
  have fe := hf e (by simp)
  have ai : a ≠ it := sx.x.ne I fi
  have hhd : X.A.in1.handled = none := I.ok.hd hc
  have lx := rx.length
  have hT : s.TypeIs (.ref e) "enumerate" := ⟨_, he, rfl⟩
  unfold pyNext
  refine wpAny_bind (wpAny_attempt (wpAny_callSpecial?_slot (name := Str.ofString "__next__") hT F.slot_enumerate_next (wpAny_call_entry F.slot_enumerate_next hT F.entry_enumerate_next ?_ (F.args_enumerate_next_1 _))))
  show wpAny _ _ (field (.ref e) 2 >>= _) _ _ _
  refine wpAny_bind (wpAny_field he rfl (x := .ref it) rfl ?_)
  refine wpAny_bind (nextS_end hhd ox (by simp; omega) fun h' x he' hx' => ?_)
  obtain ⟨o, ho, hc'⟩ := hx'
  refine wpAny_bind (wpAny_isInstance (T := "StopIteration") (b := true) ⟨o, ho, hc'⟩ isSubtype_stop ?_)
  refine wpAny_pure ⟨rfl, ?_⟩
  exact I.turnedL (t' := s.toks) (ch := [it]) (fun c o hc z => he' c o (fun q => hc (by simp [q])) z) (fun c hc => hf c (by
   have : c = it := by simpa using hc
   simp [this]))
 self := fun _ _ _ _ _ st h => by
  obtain ⟨old, q⟩ := st.1
  exact wpAny_pyIter_enum q h
section
variable {X : Cx} {fr : Bool} {a : Expr} {ta : TA} {Fl : Ds -> Option (List PyData)} {p pos : Pos}
noncomputable def iEnumX (K : PySem.W.Frag) (ta : TA) : TI := fun σ H R => ta σ H fun vs H1 => ∃ a kd, vs = [.ref a] /\ (∃ xs, SqK kd K H1 a xs) /\ R (Ite kd K a) H1
theorem boot_enumerate : bootBuiltins "enumerate" = some (.type "enumerate") := by decide +kernel
theorem pi_enumX {es : List Expr} {k : Nat} {tp : Pos} (hg : Gl X "enumerate") (hm : X.mg "enumerate" = none) (ha : PA X [a] ta) (hs : starEach [a] X.env = [(false, eval a X.env)] := by rfl) :
  PI X (.Tuple es k tp) (.Call (.Name "enumerate" p) [a] [] pos) (iEnumX X.K ta) := by
 intro pins s σ H R I h
 refine Call_ (ld_blt I hg hm boot_enumerate (PyProof.Rows.callWith_type1 (thn (ha pos pins s σ H _ I h) fun us s1 ⟨vs, H1, I1, r1, q1⟩ => ?_) (by rw [hs]; rfl) (by rfl)))
 obtain ⟨x, kd, e, ⟨xs, hx⟩, q⟩ := q1
 subst e
 obtain ⟨u, e, r2⟩ := vals1 r1
 subst e
 cases r2
 obtain ⟨us, sx⟩ := I1.seqK hx
 refine call_enumK sx fun h' Z1 Z2 kk => ?_
 refine wpAny_pyIter_enum Z1 ?_
 have I2 : Inv X pins σ H1 { s1 with heap := h' } := I1.kept (t' := s1.toks) kk
 refine ⟨s1.heap.objs.size + 1, _, _, _, H1, rfl, I2, turn_enum (e := s1.heap.objs.size + 1) (it := s1.heap.objs.size) (by show @Ne Nat _ _; omega), ⟨⟨_, Z1⟩, Z2⟩, fun b hb => ?_, q⟩
 have hb' : b = s1.heap.objs.size + 1 \/ b = s1.heap.objs.size := by simpa using hb
 have hge : s1.heap.objs.size <= b := by
  rcases hb' with e | e <;> rw [e]
  . exact Nat.le_add_right _ _
  . exact Nat.le_refl _
 exact I1.fpOk hge (I1.hok.fresh hge)
theorem enum_get : ∀ (l : List PyData) (k : Int) (i : Nat), (enumFrom k l)[i]? = (l[i]?).map fun d => .tuple [.int (k + (i : Nat)), d]
 | [], k, i => by simp [enumFrom]
 | d :: r, k, 0 => by simp [enumFrom]
 | d :: r, k, i + 1 => by
  have := enum_get r (k + 1) i
  simp only [enumFrom, List.getElem?_cons_succ]
  rw [this, show k + 1 + (i : Int) = k + ((i + 1 : Nat) : Int) by omega]
theorem enum_len : ∀ (l : List PyData) (k : Int), (enumFrom k l).length = l.length
 | [], k => rfl
 | d :: r, k => by rw [enumFrom, List.length_cons, enum_len r, List.length_cons]
theorem pix_enum {es : List Expr} {k : Nat} {tp : Pos} (hg : Gl X "enumerate") (hm : X.mg "enumerate" = none) (ha : PAX X fr [a] ta Fl) (hs : starEach [a] X.env = [(false, eval a X.env)] := by rfl) :
  PIX X fr (.Tuple es k tp) (.Call (.Name "enumerate" p) [a] [] pos) (iEnumX X.K ta) (iFn enumD Fl) := ⟨pi_enumX hg hm ha.p hs, by
 intro O H₀ as σ H ds items R S hf q
 unfold iFn at hf
 cases h1 : Fl ds with
 | none => rw [h1] at hf; cases hf
 | some l =>
  rw [h1] at hf
  simp only [Option.bind_some] at hf
  refine ha.t O H₀ as σ H ds l _ S h1 fun vs H1 e1 r1 => ?_
  unfold enumD at hf
  split at hf
  . rename_i d1
    cases hl : seqOf d1 with
    | none => rw [hl] at hf; cases hf
    | some l1 =>
     rw [hl] at hf
     cases hf
     cases r1 with
     | cons r rr =>
      cases rr
      obtain ⟨a, kd, xs, rfl, s1, t1⟩ := r.seqK hl
      refine ⟨a, kd, rfl, ⟨xs, hid_all.seqK s1⟩, q _ H1 e1 fun H' e' i => ?_⟩
      have s1' : SqK kd X.K H' a xs := e'.seqK (hid_O.seqK s1)
      have g1 := t1.length
      rw [enum_len]
      refine ⟨fun hi => ⟨xs, xs[i]'(by omega), s1', List.getElem?_eq_getElem _⟩, fun hi => ⟨xs, s1', by omega⟩, fun x H'' y hi => ?_⟩
      obtain ⟨pp, z1, z2, x', z3, z4⟩ := y
      have z5 := z4 xs s1'
      subst z1
      subst z3
      obtain ⟨dx, ex, hx⟩ := t1.get' z5
      refine ⟨Same.new z2, .tuple [.int (i : Int), dx], by rw [enum_get, ex]; simp, fun vb hv hO => ?_⟩
      refine .tup (SqT.of (hid_some.mpr ⟨fun z => ?_, fun z => ?_, upd_same⟩)) (.cons (.int _) (.cons (it_seq hx e' (Same.new z2) hv) .nil))
      . obtain ⟨o, z⟩ := hO _ z
        rw [e' _ _ z] at z2
        cases z2
      . obtain ⟨_, o, z⟩ := hv _ z
        rw [z] at z2
        cases z2
  . cases hf⟩
end
end L2
namespace L2
open PySem PySem.Spec PyProof.Rows
section
variable {prog : Program} {w : World} {A : Around} {E : Value -> Shared -> Prop} {hp : Heap} {gs : Array GenState} {dr : Drawn} {tk : Nat} {os : OsState}
variable {nm qn : Str} {C N : Addr} {bs tl base : List Value} {hd : Bool} {sn : List Str} {sub : List Value} {ab : Bool} {col : Option Bool} {dd : Option Addr} {k0 k1 k2 k3 k5 : Option Value} {B nid iid : String}
theorem made_init (F : ExcBaseFacts B nid iid base) (T : OwnTail hp base tl) {mN : Str -> Option Value} {args : List Value} {fi : Addr} {oi : Obj} {Q : PySem.Fin -> Shared -> Prop}
  (hC : hp.get? C = some (excClassObj nm qn C N bs tl hd sn sub ab col dd k0 k1 k2 k3 k5 nid)) (hn : hp.Ns N mN) (hi : mN "__init__" = some (.ref fi)) (hf : hp.get? fi = some oi) (hfc : oi.cls = .type "function") (hz : args.length <= sizeLine)
  (hq : ∀ h' e, Heap.MadeExcOf hp h' e (.ref C) args -> wpAny (model prog w) A (call (.ref fi) (.ref e :: args)) (fun r s' => r = .none /\ Q (.done (.ret (.ref e))) s') E ⟨h', gs, dr, tk, os⟩) :
  wpAny (model prog w) A (Builtin.«type.__call__» ⟨.ref C :: args, []⟩) Q E ⟨hp, gs, dr, tk, os⟩ := by
 repeat (first | with_reducible refine wpAny_loadPart_at hC ?_ | with_reducible refine wpAny_madeBy_exc hC ?_ | wp_step)
 refine codeAny_call_builtin_code (Code.quiet_builtin _ F.quiet) (wpAny_check_new_subT F T hC (codeAny_exc_new_subT F T hC (show wpAny _ _ _ _ _ _ from ?_) hz))
 have kp : ∀ b o, hp.get? b = some o -> ((hp.push { cls := .type "tuple", data := .seq args.toArray }).push { cls := .ref C, data := .fields #[.ref hp.objs.size, .none, .none, .none, .bool false, .none] }).get? b = some o :=
  fun b o q => Heap.get?_push_of_some _ (Heap.get?_push_of_some _ q)
 have at1 : ((hp.push { cls := .type "tuple", data := .seq args.toArray }).push { cls := .ref C, data := .fields #[.ref hp.objs.size, .none, .none, .none, .bool false, .none] }).get? (hp.objs.size + 1) = some { cls := .ref C, data := .fields #[.ref hp.objs.size, .none, .none, .none, .bool false, .none] } := by heap_get
 have cC : (Value.ref C :: tl).contains (.ref C) = true := by simp
 have c1 := kp _ _ hC
 have n1 : ((hp.push { cls := .type "tuple", data := .seq args.toArray }).push { cls := .ref C, data := .fields #[.ref hp.objs.size, .none, .none, .none, .bool false, .none] }).Ns N mN := let ⟨o, es, ep, q, r⟩ := hn; ⟨o, es, ep, kp _ _ q, r⟩
 unfold isInstance
 repeat (first | with_reducible refine wpAny_loadPart_at at1 ?_ | (with_reducible refine wpAny_isSubtype_exc c1 ?_; rw [cC]) | wp_step)
 refine (show wpAny _ _ (typeLookup (.ref C) _) _ _ _ from wpAny_typeLookup_tail c1 n1 (T.keeps kp) F.mroIs F.init.lookup ?_)
 rw [hi]
 refine wpAny_holding (wpAny_bind ?_)
 unfold bindSpecial
 refine wpAny_bind (wpAny_typeOf (T := "function") ⟨_, kp _ _ hf, hfc⟩ ?_)
 rw [if_pos (by decide)]
 refine wpAny_pure (wpAny_bind (wpAny_mono (hq _ (hp.objs.size + 1) ⟨kp, Heap.get?_none_of_le (Nat.le_succ _), hp.objs.size, at1, Heap.get?_none_of_le (Nat.le_refl _), Heap.get?_push_of_some _ (Heap.get?_push_at rfl rfl)⟩) (fun r s' hr => ?_) fun _ _ x => x))
 obtain ⟨rfl, hQ⟩ := hr
 wp_walk
 exact hQ
theorem call_init (F : ExcBaseFacts B nid iid base) (T : OwnTail hp base tl) {mN : Str -> Option Value} {args : List Value} {fi : Addr} {oi : Obj} {Q : Value -> Shared -> Prop}
  (hC : hp.get? C = some (excClassObj nm qn C N bs tl hd sn sub ab col dd k0 k1 k2 k3 k5 nid)) (hn : hp.Ns N mN) (hi : mN "__init__" = some (.ref fi)) (hf : hp.get? fi = some oi) (hfc : oi.cls = .type "function") (hz : args.length <= sizeLine)
  (hq : ∀ h' e, Heap.MadeExcOf hp h' e (.ref C) args -> wpAny (model prog w) (A.under (.builtin "type.__call__" ⟨.ref C :: args, []⟩)) (call (.ref fi) (.ref e :: args)) (fun r s' => r = .none /\ Q (.ref e) s') E ⟨h', gs, dr, tk, os⟩) :
  wpAny (model prog w) A (call (.ref C) args) Q E ⟨hp, gs, dr, tk, os⟩ := by
 have f1 := tc_lookup
 have f2 := tc_bind (.ref C)
 have hT : (⟨hp, gs, dr, tk, os⟩ : Shared).TypeIs (.ref C) "type" := ⟨_, hC, rfl⟩
 refine wpAny_call (codeAny_of_tree (show wpAny _ _ (callAny (.ref C) _) _ _ _ from ?_))
 repeat (any_goals (first | assumption | with_reducible refine wpAny_loadPart_at hC ?_ | wp_step))
 exact ⟨rfl, codeAny_call_builtin_at (Code.quiet_builtin _ (by decide +kernel)) entry_typeCall (wpAny_check_type_call_sub hC (made_init F T hC hn hi hf hfc hz fun h' e hm => hq h' e hm))⟩
end
end L2
namespace L2
open PySem PySem.Spec PyProof.Rows
section
variable {prog : Program} {w : World} {A : Around} {E : Value -> Shared -> Prop} {hp : Heap} {gs : Array GenState} {dr : Drawn} {tk : Nat} {os : OsState}
variable {nm qn : Str} {C N e : Addr} {bs tl base : List Value} {hd : Bool} {sn : List Str} {sub : List Value} {ab : Bool} {col : Option Bool} {dd dx : Option Addr} {k0 k1 k2 k3 k5 : Option Value} {B nid iid : String}
theorem base_init (F : ExcBaseFacts B nid iid base) (T : OwnTail hp base tl) {args : List Value} {Q : Value -> Shared -> Prop} (hC : hp.get? C = some (excClassObj nm qn C N bs tl hd sn sub ab col dd k0 k1 k2 k3 k5 nid)) (he : ExcIs e C dx hp) (hz : args.length <= sizeLine)
  (hq : ∀ h', (∀ b o, b ≠ e -> hp.get? b = some o -> h'.get? b = some o) -> ExcIs e C dx h' -> Q .none ⟨h', gs, dr, tk, os⟩) : wpAny (model prog w) A (call (.builtin iid) (.ref e :: args)) Q E ⟨hp, gs, dr, tk, os⟩ := by
 obtain ⟨t, he⟩ := he
 refine wpAny_call (codeAny_call_builtin F.init.plain F.initEntry (wpAny_check_init_subT F T hC he rfl ?_))
 wp_walk
 refine hq _ (fun b o hb q => ?_) ⟨hp.objs.size, ?_⟩
 . rw [Heap.get?_update_other _ _ (Ne.symm hb)]
   exact Heap.get?_push_of_some _ q
 . rw [Heap.get?_update_self _ (Heap.get?_push_of_some _ he) rfl]
   rfl
end
end L2
namespace L2
open PySem PySem.Spec PyProof.Rows
theorem ns1_one {h : Heap} {a : Addr} {o : Obj} {hash : Int} {name : Str} {t : Tok} {v : Value} {c : Nat} (ho : h.get? a = some o) (hd : o.data = .dict #[⟨hash, .str name t, v⟩] c) : h.Ns1 a fun n => if n = name then some v else none := by
 refine ⟨o, _, c, ho, hd, fun e he => ⟨name, t, by simp at he; rw [he]⟩, by unfold UniqKeys; exact List.pairwise_singleton _ _, fun n => ?_⟩
 unfold nsFind findBy
 by_cases hn : n = name
 . subst hn; simp [Value.isStr]
 . have z : ¬ name = n := fun z => hn z.symm
   simp [Value.isStr, z, hn]
theorem refuse_base (self : Value) : refuseLoop self "__setattr__" [.type "ValueError", .type "Exception", .type "BaseException", .type "object"] = pure () := by
 unfold refuseLoop
 simp only [List.forIn_cons, List.forIn_nil]
 kernel_rfl
noncomputable abbrev valueMro : List Value := [.type "ValueError", .type "Exception", .type "BaseException", .type "object"]
theorem refuse_tail (self : Value) : ∀ {l : List Addr}, refuseLoop self "__setattr__" (l.map Value.ref ++ valueMro) = pure ()
 | [] => refuse_base self
 | c :: r => by rw [List.map_cons, List.cons_append, refuseLoop_ref]; exact refuse_tail self
theorem exc_set {prog : Program} {w : World} {A : Around} {E : Value -> Shared -> Prop} {s : Shared} {K : PySem.W.Frag} {e C : Addr} {os : List Addr} {cd : ClassData} {name : Str} {v : Value} {Q : Unit -> Shared -> Prop} (X : K.In s.heap) (he : ExcIs e C none s.heap)
  (hs : PySem.W.findIn K (.ref C) "__setattr__" = some (some (.builtin "object.__setattr__"))) (hc : PySem.W.clsIn K C = some cd) (hm : cd.mro = os.map Value.ref ++ valueMro) (hd : cd.hasDict = true) (ha : PySem.W.findIn K (.ref C) name = some none)
  (h : ∀ h', (∀ b o, b ≠ e -> s.heap.get? b = some o -> h'.get? b = some o) -> ExcIs e C (some s.heap.objs.size) h' -> h'.Ns1 s.heap.objs.size (fun n => if n = name then some v else none) -> Q () { s with heap := h', toks := s.toks + 2 }) :
  wpAny (model prog w) A (setAttr (.ref e) name v) Q E s := by
 obtain ⟨t, hx⟩ := he
 have I : PySem.W.InstAt s.heap e _ C none := ⟨hx, rfl, rfl, True.intro⟩
 have SF := PySem.F.store_object
 have sub : PySem.W.Looks (model prog w) s.heap (isInstance (.ref e) (.type "object")) true := I.type.andThen (PySem.W.looks_mroIn X (by unfold PySem.W.mroIn; rw [hc, Option.bind_some, if_neg (by rw [hm]; simp), hm]; simp))
 refine PySem.W.set_plain X I hs (codeAny_call_builtin SF.slot.plain SF.entry (@PySem.W.check_slot (model prog w) _ _ { s with toks := s.toks + 1 } "object.__setattr__" "object" "__setattr__" (.ref e) [.str name s.toks, v] [] _ SF.kind SF.split sub (SF.args (.ref e) (.str name s.toks) v) ?_))
 have lm : PySem.W.Looks (model prog w) s.heap (mroOf (.ref C)) cd.mro := (PySem.W.looks_clsIn X hc).andThen .now
 rw [PySem.W.osa_eq, refuse_eq]
 refine wpAny_bind (wpAny_bind (PySem.W.Looks.here (s := { s with toks := s.toks + 1 }) I.type (wpAny_bind (PySem.W.Looks.here (s := { s with toks := s.toks + 1 }) lm ?_))))
 rw [hm, refuse_tail]
 refine wpAny_pure (wpAny_bind (PySem.W.Looks.here (s := { s with toks := s.toks + 1 }) I.type (wpAny_bind (PySem.W.Looks.here (s := { s with toks := s.toks + 1 }) (PySem.W.looks_findIn X ha) (wpAny_bind (wpAny_pure ?_))))))
 show wpAny _ _ (Builtin.ObjectAttr.storeInOwnDict (.ref e) (.ref C) (.str name s.toks) name v _) _ _ _
 unfold Builtin.ObjectAttr.storeInOwnDict
 have lc : PySem.W.Looks (model prog w) s.heap (classData C) cd := PySem.W.looks_clsIn X hc
 refine wpAny_bind (wpAny_pure (wpAny_bind (wpAny_bind (wpAny_loadPart hx (wpAny_bind (PySem.W.Looks.here (s := { s with toks := s.toks + 1 }) lc ?_))))))
 rw [hd]
 have lt : e < s.heap.objs.size := Heap.lt_size hx
 have a1 : (s.heap.push { cls := .type "dict", data := .dict #[] }).get? e = some { cls := .ref C, data := .fields #[.ref t, .none, .none, .none, .bool false, .none] } := Heap.get?_push_of_some _ hx
 have d1 : (s.heap.push { cls := .type "dict", data := .dict #[] }).get? s.heap.objs.size = some { cls := .type "dict", data := .dict #[] } := Heap.get?_push_size _ rfl
 refine (show wpAny _ _ (do let d <- alloc { cls := Value.type "dict", data := Data.dict #[] }; update e fun o => { o with dict := some d }; pure (some d)) _ _ _ from wpAny_bind (wpAny_alloc ?_))
 refine wpAny_bind (wpAny_update a1 (wpAny_pure ?_))
 have ne : e ≠ s.heap.objs.size := Nat.ne_of_lt lt
 have d2 : ((s.heap.push { cls := .type "dict", data := .dict #[] }).update e fun o => { o with dict := some s.heap.objs.size }).get? s.heap.objs.size = some { cls := .type "dict", data := .dict #[] } := (Heap.get?_update_other _ _ ne).trans d1
 have e2 : ((s.heap.push { cls := .type "dict", data := .dict #[] }).update e fun o => { o with dict := some s.heap.objs.size }).get? e = some { cls := .ref C, dict := some s.heap.objs.size, data := .fields #[.ref t, .none, .none, .none, .bool false, .none] } := Heap.get?_update_self _ a1 rfl
 have k2 : ∀ b o, b ≠ e -> s.heap.get? b = some o -> ((s.heap.push { cls := .type "dict", data := .dict #[] }).update e fun o => { o with dict := some s.heap.objs.size }).get? b = some o := fun b o hb q => (Heap.get?_update_other _ _ (Ne.symm hb)).trans (Heap.get?_push_of_some _ q)
 generalize (s.heap.push { cls := .type "dict", data := .dict #[] }).update e (fun o => { o with dict := some s.heap.objs.size }) = h2 at d2 e2 k2
 refine (show wpAny _ _ (Builtin.ObjectAttr.storeInDict s.heap.objs.size (.str name s.toks) name v) _ _ { s with heap := h2, toks := s.toks + 1 } from ?_)
 unfold Builtin.ObjectAttr.storeInDict nsSet
 refine wpAny_bind (wpAny_pure (wpAny_bind (wpAny_bind (wpAny_bind (wpAny_askSetting (wpAny_pure (wpAny_bind (wpAny_mkText (wpAny_bind (wpAny_loadPart d2 ?_))))))))))
 dsimp only
 rw [aRefKeyMayBeTheName_at, show ((!(#[] : Array DictEntry).any (·.key.isStr name)) && (#[] : Array DictEntry).any (·.refKey)) = false by simp]
 refine wpAny_updatePart d2 ?_
 have d3 := Heap.get?_update_self (Obj.putName name (if name.cps.isEmpty = true then 0 else reduceHash ((model prog w).w.params.strHash name.cps)) (.str name (s.toks + 1)) v) d2 rfl
 refine wpAny_bind (wpAny_lookBehind d3 (pastItsLine_dict (by simp)) (wpAny_pure (h _ (fun b o hb q => ?_) ⟨t, ?_⟩ (ns1_one d3 rfl))))
 . rw [Heap.get?_update_other _ _ (Nat.ne_of_gt (Heap.lt_size q))]
   exact k2 b o hb q
 . rw [Heap.get?_update_other _ _ (Ne.symm ne)]
   exact e2
end L2
namespace L2
open PySem PySem.Spec PyProof.Rows
structure ExcK (K : PySem.W.Frag) (C CS fi : Addr) (fld : Str) : Prop where
 cls : ∃ (nm qn : Str) (N : Addr) (bs : List Value) (sn : List Str) (sub : List Value) (ab : Bool) (col : Option Bool) (dd : Option Addr) (k0 k1 k2 k3 k5 : Option Value),
  K.lookup C = some (excClassObj nm qn C N bs (.ref CS :: valueMro) true sn sub ab col dd k0 k1 k2 k3 k5 "ValueError.__new__") /\ PySem.W.nsOkIn K N = true /\ PySem.W.nsIn K N "__init__" = some (some (.ref fi))
 tail : PySem.W.tailIn K valueMro (.ref CS :: valueMro) = true
 fn : ∃ o, K.lookup fi = some o /\ o.cls = .type "function"
 sa : PySem.W.findIn K (.ref C) "__setattr__" = some (some (.builtin "object.__setattr__"))
 nof : PySem.W.findIn K (.ref C) fld = some none
 rd : PySem.W.readsIn K CS (.type "type") = true
 ga : PySem.W.specialIn K (.ref CS) "__getattribute__" = some (some (.builtin "type.__getattribute__"))
 ini : PySem.W.findCls K (.ref CS) (.type "type") "__init__" = some (.val (.builtin "ValueError.__init__"))
section
variable {X : Cx} {C CS fi : Addr} {fld : Str} {x : Str} {p pos apos pos' : Pos} {o e e1 e2 : Expr} {t : TA} {ta tv : TE}
noncomputable def tBase (C : Addr) (t : TA) : TE := fun σ H Q => t σ H fun vs H1 => ∃ ea v dx, vs = [.ref ea, v] /\ H1 ea = some (.ext (ExcIs ea C dx)) /\ Q .non H1
theorem excIs_ok {P : Program} {w : World} {H : Hp} {h : Heap} {ea C : Addr} {dx : Option Addr} (x : ExcIs ea C dx h) : ObjOk P w H h ea (.ext (ExcIs ea C dx)) := ⟨x, let ⟨_, q⟩ := x; ⟨_, q⟩, fun _ _ y k => y.keep k⟩
theorem pe_baseInit {pl : Sem Bool} (T : ExcK X.K C CS fi fld) (hg : Gl X x) (hm : X.mg x = some (.ref CS)) (ha : PA X [e1, e2] t) (hdb : (x == ("__debug__" : Str)) = false := by decide)
  (hst : starEach [e1, e2] X.env = (false, eval e1 X.env) :: starEach [e2] X.env := by rfl) (hpl : (backTo pos (starEach [e2] X.env)).any (·.1) = false := by rfl)
  (ht : eval (.Call (.Attribute (.Name x p) "__init__" apos) [e1, e2] [] pos) X.env = (do
   let ov <- eval (.Name x p) X.env
   standAt apos.atName
   let (f, first) <- holding [ov] (getMethod ov "__init__" pl)
   callWith pos f first (backTo pos (starEach [e1, e2] X.env)) (backToKw pos (keywordEach [] X.env))) := by rfl) :
  PE X (.Call (.Attribute (.Name x p) "__init__" apos) [e1, e2] [] pos) (tBase C t) := by
 intro pins s σ H Q I h
 refine PySem.W.methodCall_KW (pl := pl) (thn (pe_glob (v := .ref CS) hg hm rfl hdb pins s σ H (fun v H' => v = .ref CS /\ H' = H) I ⟨rfl, rfl⟩) fun u s1 ⟨y, H1, I1, rx, ex, eH⟩ => ?_) ht
 subst ex
 subst eH
 obtain rfl : u = Value.ref CS := rx
 refine PySem.W.method_cls I1.kIn T.ga (PySem.W.cls_value I1.kIn T.rd T.ini (by decide +kernel) ?_)
 have I2 := I1.tok (s1.toks + 1)
 refine PyProof.Rows.callWith_builtin1 (thn (ha pos pins _ σ H1 _ I2 h) fun us s2 ⟨vs, H2, I3, r, ea, v, dx, ev, hH, q⟩ => ?_) hst hpl
 subst ev
 obtain ⟨u1, u2, rfl, r1, r2⟩ := vals2 r
 cases r1
 obtain ⟨nm, qn, N, bs, sn, sub, ab, col, dd, k0, k1, k2, k3, k5, hC, _, _⟩ := T.cls
 obtain ⟨hp, gs, dr, tk, os⟩ := s2
 have okE : ExcIs ea C dx hp := (I3.hok ea _ hH).1
 refine base_init PySem.F.excBase_ValueError (PySem.W.tail_of_in I3.kIn T.tail) (I3.kIn _ _ hC) okE (by rw [sizeLine_eq]; simp) fun h' kp ex' => ?_
 have e0 : upd H2 ea (.ext (ExcIs ea C dx)) = H2 := by
  funext b
  by_cases hb : b = ea
  . subst hb; rw [upd_same, hH]
  . rw [upd_ne hb]
 have I4 := I3.write (h' := h') (t' := tk) (x := ea) (e := ea) (o := .ext (ExcIs ea C dx)) (by rw [hH]; exact True.intro) (.inl rfl) (fun b u hb q => kp b u hb q) (let ⟨_, q⟩ := ex'; ⟨_, q⟩) (excIs_ok ex')
 rw [e0] at I4
 exact ⟨.non, H2, I4, rfl, q⟩
noncomputable def sSetE (C : Addr) (fld : Str) (ta tv : TE) : TS := fun D σ H => tv σ H fun y H1 => ta σ H1 fun x H2 => ∃ ea, x = .ref ea /\ H2 ea = some (.ext (ExcIs ea C none)) /\
 ∀ dx, H2 dx = none -> dx ≠ ea -> D.nx σ (upd (upd H2 ea (.ext (ExcIs ea C (some dx)))) dx (.xd [(fld, y)]))
theorem ps_setE (T : ExcK X.K C CS fi fld) (ha : PE X o ta) (hv : PE X e tv) (hs : swapsWith e (some (.Attribute o fld pos')) pos.line X.env = pure false := by rfl) : PS X (.Assign [.Attribute o fld pos'] e pos) (sSetE C fld ta tv) := by
 intro pins s σ H D I h
 refine plainObj_wpAny_Assign_Attribute (thn (hv pins s σ H _ I h) fun u s1 ⟨y, H1, I1, ry, q⟩ => thn (ha pins s1 σ H1 _ I1 q) fun ov s2 ⟨x, H2, I2, rx, ea, ex, hH, q2⟩ => ?_) hs
 subst ex
 obtain rfl : ov = Value.ref ea := rx
 obtain ⟨nm, qn, N, bs, sn, sub, ab, col, dd, k0, k1, k2, k3, k5, hC, _, _⟩ := T.cls
 have okE : ExcIs ea C none s2.heap := (I2.hok ea _ hH).1
 refine exc_set (os := [C, CS]) I2.kIn okE T.sa (by unfold PySem.W.clsIn; rw [hC]) rfl rfl T.nof fun h' kp ex' n1 => ?_
 have I3 := I2.write (h' := h') (t' := s2.toks + 2) (x := ea) (e := ea) (o := .ext (ExcIs ea C (some s2.heap.objs.size))) (by rw [hH]; exact True.intro) (.inl rfl) (fun b u hb q => kp b u hb q) (let ⟨_, q⟩ := ex'; ⟨_, q⟩) (excIs_ok ex')
 have hz : H2 s2.heap.objs.size = none := I2.hok.fresh (Nat.le_refl _)
 have hne : s2.heap.objs.size ≠ ea := Nat.ne_of_gt (let ⟨_, q⟩ := okE; Heap.lt_size q)
 have f := I2.fpOk (Nat.le_refl _) hz
 refine ⟨σ, _, I3.track (D := s2.heap.objs.size) (o := .xd [(fld, y)]) (by rw [upd_ne hne]; exact hz) f.2.1 f.2.2.2.1 f.2.2.2.2.1 f.2.2.2.2.2 ⟨_, n1, fun n => ?_⟩, q2 _ hz hne⟩
 show RelO ([(fld, y)].lookup n) (if n = fld then some u else none)
 by_cases hn : n = fld
 . subst hn
   simp only [List.lookup, beq_self_eq_true, if_true]
   exact ry
 . rw [if_neg hn]
   have : (n == fld) = false := by simpa using hn
   simp only [List.lookup, this]
   exact True.intro
end
end L2
namespace L2
open PySem PySem.Spec PyProof.Rows
section
variable {X : Cx} {pins : List (Addr × Obj)} {σ : St} {H : Hp} {s : Shared} {h' : Heap}
theorem Inv.laidN {t' : Nat} {D : Addr} {o : HO} (I : Inv X pins σ H s) (k : ∀ b u, s.heap.get? b = some u -> h'.get? b = some u) (hDn : s.heap.get? D = none) (new : ObjOk X.prog X.w (upd H D o) h' D o) :
  H D = none /\ Inv X pins σ (upd H D o) { s with heap := h', toks := t' } := by
 have hH : H D = none := by
  cases q : H D with
  | none => rfl
  | some u =>
   obtain ⟨o, e⟩ := ObjOk.get (I.hok D u q)
   rw [hDn] at e; cases e
 refine ⟨hH, ?_⟩
 have ne : ∀ b o, s.heap.get? b = some o -> b ≠ D := fun b o e z => by rw [z, hDn] at e; cases e
 have nh : ∀ b u, H b = some u -> b ≠ D := fun b u e z => by rw [z, hH] at e; cases e
 have hup : ∀ b u, H b = some u -> upd H D o b = some u := fun b u e => by rw [upd_ne (nh b u e)]; exact e
 refine I.step (H' := upd H D o) (g' := s.gens) (d' := s.drawn) (ch := []) (fun b hb => absurd hb (by simp)) (fun b o _ _ _ e _ => k b o e) (fun b o _ _ _ e _ => ⟨o.slots, k b o e⟩) (fun b o _ e n => by rw [upd_ne (ne b o e)]; exact n)
  (fun b o _ e => ⟨o, k b o e⟩) (fun b xs e => hup b _ e) (fun b ob u e => hup b _ e) (fun b ps e => ⟨#[], by rw [hup b _ e]; simp⟩) (fun m' hm'' => ?_) (fun b u e => ?_) I.bare
 . obtain ⟨ob, es, ep, ho, r⟩ := hm''
   exact ⟨ob, es, ep, k _ _ ho, r⟩
 . by_cases hb : b = D
   . subst hb
     rw [upd_same] at e
     cases e
     exact new
   . rw [upd_ne hb] at e
     exact (I.hok b u e).stay (fun c v _ q => k c v q) (fun c q => hup c _ q) fun c xs q => hup c _ q
end
theorem ns_at {K : PySem.W.Frag} {h : Heap} {N : Addr} {m : Str -> Option Value} {x : Str} {u : Value} (X : K.In h) (G : h.Ns N m) (e : PySem.W.nsIn K N x = some (some u)) : m x = some u := by
 obtain ⟨o, es, ep, ho, hd, _, hf⟩ := G
 unfold PySem.W.nsIn at e
 split at e
 . rename_i q
   have z := X _ _ q
   rw [ho] at z
   cases z
   cases hd
   split at e
   . rename_i he
     cases e
     rw [<- hf]
     unfold nsFind findBy
     rw [<- Array.find?_toList, he]
     rfl
   . split at e <;> cases e
 . cases e
section
variable {X : Cx} {C CS fi : Addr} {fld prm : Str} {k : Nat} {fd : FuncData}
end
end L2
namespace L2
open PySem PySem.Spec PyProof.Rows
noncomputable def Flown (e T C dx : Addr) (h : Heap) : Prop := ∃ vs oT ts, h.get? e = some { cls := .ref C, dict := some dx, data := .fields vs } /\ vs[1]? = some (.ref T) /\ T ≠ e /\ h.get? T = some oT /\ oT.data = .fields ts /\ ts[3]? = some .none
section
variable {M : Model} {A : Around} {E : Value -> Shared -> Prop} {s : Shared}
theorem entry_made {base : Heap} {env : Env} {outer : List Env} {L e C dx : Addr} {vs : Array Value} {head : Value} {had : Bool} {Q : Unit -> Shared -> Prop} (hfr : A.frames = some (env :: outer)) (hl : s.heap.FunFrames base (env :: outer)) (hf : env.frame = some L)
  (he : s.heap.get? e = some { cls := .ref C, dict := some dx, data := .fields vs }) (hz : 1 < vs.size)
  (h : ∀ h' T, s.heap.objs.size <= T -> (∀ b o, b ≠ e -> b ∉ frs (env :: outer) -> s.heap.get? b = some o -> h'.get? b = some o) -> (∀ b o, b ∈ frs (env :: outer) -> s.heap.get? b = some o -> ∃ sl, h'.get? b = some { o with slots := sl }) -> Flown e T C dx h' -> Q () { s with heap := h' }) :
  wpAny M A (do let a <- frameOf env; let pl <- entryPlaceOf L had; let b <- EntryCells.newEntry head a .none (rawInt L) .none pl; setField (.ref e) 1 b) (fun _ s' => wpAny M A (setFlight (.ref e) none) Q E s') E s := by
 have ene : e ∉ frs (env :: outer) := fun hm => by
  obtain ⟨_, o, ho, hnf⟩ := hl.mem hm
  rw [he] at ho; injection ho with ho; subst ho; exact hnf vs rfl
 refine wpAny_bind (wpAny_frameOf_fun hfr hl hf fun g1 q1 => wpAny_bind (wpAny_entryPlaceOf fun pl hpl => ?_))
 unfold EntryCells.newEntry newFields
 refine wpAny_bind (wpAny_newObj_type ?_ (hpl.sizeOk5 _ _ _ _ _))
 generalize ho : ({ cls := .type "traceback", dict := none, data := .fields ([head, .ref L, .none, rawInt L, .none] ++ (if pl.isEmpty then List.replicate 6 Value.none else pl)).toArray } : Obj) = oT
 have dT : oT.data = .fields ([head, .ref L, .none, rawInt L, .none] ++ (if pl.isEmpty then List.replicate 6 Value.none else pl)).toArray := by rw [<- ho]
 have fT : oT.isFreed = false := Obj.isFreed_of_fields dT
 have e1 : g1.get? e = some { cls := .ref C, dict := some dx, data := .fields vs } := (q1.2.1 e ene).trans he
 have e2 := Heap.get?_push_of_some (h := g1) oT e1
 have hT2 : (g1.push oT).get? g1.objs.size = some oT := Heap.get?_push_size g1 fT
 have hTe : g1.objs.size ≠ e := Nat.ne_of_gt (Heap.lt_size e1)
 refine wpAny_setField e2 rfl hz ?_
 have e3 := Heap.get?_update_self (Obj.mapFields (·.setIfInBounds 1 (Value.ref g1.objs.size))) e2 rfl
 have hT3 := (Heap.get?_update_other (g1.push oT) (Obj.mapFields (·.setIfInBounds 1 (Value.ref g1.objs.size))) (Ne.symm hTe)).trans hT2
 unfold setFlight
 refine wpAny_bind (wpAny_field (x := .ref g1.objs.size) e3 rfl (by simp [hz]) ?_)
 rw [if_pos (show (Value.ref g1.objs.size != Value.none) = true by simp)]
 have s3 : 3 < ([head, .ref L, .none, rawInt L, .none] ++ (if pl.isEmpty then List.replicate 6 Value.none else pl)).toArray.size := by simp only [List.size_toArray, List.length_append, List.length_cons, List.length_nil]; omega
 refine wpAny_setField hT3 dT s3 (h _ g1.objs.size (by rw [q1.1]; exact Nat.le_refl _) (fun b o hb hn q => ?_) (fun b o hb q => ?_) ?_)
 . have q2 : g1.get? b = some o := (q1.2.1 b hn).trans q
   rw [Heap.get?_update_other _ _ (Nat.ne_of_gt (Heap.lt_size q2)), Heap.get?_update_other _ _ (Ne.symm hb)]
   exact Heap.get?_push_of_some _ q2
 . obtain ⟨sl, q2⟩ := q1.2.2 b o q
   have hb' : b ≠ e := fun z => ene (z ▸ hb)
   refine ⟨sl, ?_⟩
   rw [Heap.get?_update_other _ _ (Nat.ne_of_gt (Heap.lt_size q2)), Heap.get?_update_other _ _ (Ne.symm hb')]
   exact Heap.get?_push_of_some _ q2
 . refine ⟨vs.setIfInBounds 1 (.ref g1.objs.size), _, _, ?_, ?_, hTe, Heap.get?_update_self _ hT3 (Obj.isFreed_of_fields (Obj.data_mapFields dT _)), Obj.data_mapFields dT _, ?_⟩
   . rw [Heap.get?_update_other _ _ hTe]
     exact e3
   . simp [hz]
   . rw [Array.getElem?_setIfInBounds_self]
     rw [if_pos s3]
     rfl
theorem leave_first {base : Heap} {env : Env} {outer : List Env} {L e C dx : Addr} {Q : Unit -> Shared -> Prop} (hfr : A.frames = some (env :: outer)) (hl : s.heap.FunFrames base (env :: outer)) (hf : env.frame = some L) (he : ExcIs e C (some dx) s.heap)
  (h : ∀ h' T, s.heap.objs.size <= T -> (∀ b o, b ≠ e -> b ∉ frs (env :: outer) -> s.heap.get? b = some o -> h'.get? b = some o) -> (∀ b o, b ∈ frs (env :: outer) -> s.heap.get? b = some o -> ∃ sl, h'.get? b = some { o with slots := sl }) -> Flown e T C dx h' -> Q () { s with heap := h' }) :
  wpAny M A (leaving env (.ref e)) Q E s := by
 obtain ⟨t, he⟩ := he
 unfold leaving noteFrame
 simp only [hf]
 refine wpAny_bind (wpAny_bind (wpAny_field (x := .none) he rfl rfl ?_))
 rw [if_neg (by decide)]
 exact entry_made hfr hl hf he (by simp) h
theorem note_next {base : Heap} {env : Env} {outer : List Env} {L e T C dx : Addr} {Q : Unit -> Shared -> Prop} (hfr : A.frames = some (env :: outer)) (hl : s.heap.FunFrames base (env :: outer)) (hf : env.frame = some L) (he : Flown e T C dx s.heap)
  (h : ∀ h' T', s.heap.objs.size <= T' -> (∀ b o, b ≠ e -> b ≠ T -> b ∉ frs (env :: outer) -> s.heap.get? b = some o -> h'.get? b = some o) -> (∀ b o, b ∈ frs (env :: outer) -> s.heap.get? b = some o -> ∃ sl, h'.get? b = some { o with slots := sl }) -> Flown e T' C dx h' -> Q () { s with heap := h' }) :
  wpAny M A (noteFrame (.ref e) env) (fun _ s' => wpAny M A (setFlight (.ref e) none) Q E s') E s := by
 obtain ⟨vs, oT, ts, he, h1, hTe, hT, hdT, h3⟩ := he
 have s1 : 1 < vs.size := (Array.getElem?_eq_some_iff.mp h1).1
 have s3 : 3 < ts.size := (Array.getElem?_eq_some_iff.mp h3).1
 unfold noteFrame
 simp only [hf]
 refine wpAny_bind (wpAny_field he rfl h1 ?_)
 rw [if_pos (show (Value.ref T != Value.none) = true by simp)]
 refine wpAny_bind (wpAny_field hT hdT h3 ?_)
 rw [if_neg (show ¬ ((Value.none == rawInt L) = true) by simp [rawInt])]
 refine wpAny_bind (wpAny_setField hT hdT s3 ?_)
 have oth : ∀ b, b ≠ T -> (s.heap.update T (Obj.mapFields (·.setIfInBounds 3 Value.none))).get? b = s.heap.get? b := fun b hb => Heap.get?_update_other _ _ (Ne.symm hb)
 have noT : T ∉ frs (env :: outer) := fun hm => by
  obtain ⟨_, o, ho, hnf⟩ := hl.mem hm
  rw [hT] at ho; injection ho with ho; subst ho; exact hnf ts hdT
 have noR : ∀ b o, s.heap.get? b = some o -> (∀ us, o.data ≠ .fields us) -> b ≠ T := fun b o q hnf z => by
  rw [z, hT] at q; injection q with q; subst q; exact hnf ts hdT
 have lt : T < s.heap.objs.size := Heap.lt_size hT
 refine entry_made (s := { s with heap := s.heap.update T (Obj.mapFields (·.setIfInBounds 3 Value.none)) }) hfr (hl.of_keeps fun b o q hnf => ⟨o, (oth b (noR b o q hnf)).trans q, rfl⟩) hf ((oth e (Ne.symm hTe)).trans he) s1
  fun h' T' hT' k1 k2 fl => h h' T' ?_ (fun b o hb hbT hn q => k1 b o hb hn ((oth b hbT).trans q)) (fun b o hb q => k2 b o hb ((oth b (fun z => noT (z ▸ hb))).trans q)) fl
 have e : (s.heap.update T (Obj.mapFields (·.setIfInBounds 3 Value.none))).objs.size = s.heap.objs.size := by simp [Heap.update]
 rw [<- e]
 exact hT'
end
end L2
namespace L2
open PySem PySem.Spec PyProof.Rows
section
variable {M : Model} {A : Around} {E : Value -> Shared -> Prop} {env : Env} {s : Shared}
variable {nm qn : Str} {C N : Addr} {bs tl : List Value} {hd : Bool} {sn : List Str} {sub : List Value} {ab : Bool} {col : Option Bool} {dd : Option Addr} {k0 k1 k2 k3 k5 : Option Value} {nid : String}
theorem raise_own {x : Sem Value} {Q : Flow -> Shared -> Prop} (hb : tl.contains (.type "BaseException") = true) (hh : A.handled = none)
  (h : wpAny M A x (fun v s1 => ∃ e dx, v = .ref e /\ s1.heap.get? C = some (excClassObj nm qn C N bs tl hd sn sub ab col dd k0 k1 k2 k3 k5 nid) /\ ExcIs e C dx s1.heap /\ E (.ref e) s1) E s) : wpAny M A (raiseStmt env (some x) none) Q E s := by
 have cB : (Value.ref C :: tl).contains (.type "BaseException") = true := by rw [List.contains_cons, hb, Bool.or_true]
 unfold raiseStmt
 refine wpAny_bind (wpAny_mono h (fun v s1 q => ?_) fun _ _ z => z)
 obtain ⟨e, dx, rfl, hC, ⟨t, he⟩, hE⟩ := q
 obtain ⟨hp, gs, dr, tk, os⟩ := s1
 repeat (first | with_reducible refine wpAny_loadPart_at he ?_ | with_reducible refine wpAny_loadPart_at hC ?_ | (with_reducible refine wpAny_isSubtype_exc hC ?_; rw [cB]) | wp_step)
 exact wpAny_raiseNew_none hh hE
end
section
variable {X : Cx} {C CS fi : Addr} {fld prm x : Str} {k : Nat} {fd : FuncData} {p pos cpos : Pos} {e : Expr} {t : TA}
end
end L2
namespace L2
open PySem PySem.Spec PyProof.Rows
theorem excAt_ok {P : Program} {w : World} {H : Hp} {h : Heap} {ea C dx : Addr} (x : ExcAt ea C dx h) : ObjOk P w H h ea (.ext (ExcAt ea C dx)) := ⟨x, let ⟨_, q⟩ := x; ⟨_, q⟩, fun _ _ y k => y.keep k⟩
theorem Flown.at {e T C dx : Addr} {h : Heap} (x : Flown e T C dx h) : ExcAt e C dx h := let ⟨vs, _, _, q, _⟩ := x; ⟨vs, q⟩
noncomputable def CX1 (P : Program) (w : World) : CXT := fun outer H s E e s' => ∃ ea T C dx H', e = .ref ea /\ s'.os = s.os /\ AllBare s'.gens /\ Un (frs outer) [] H H' s.heap s'.heap /\ HOk P w H' s'.heap /\ Flown ea T C dx s'.heap /\ H' ea = some (.ext (ExcAt ea C dx)) /\ H' T = none /\
 s.heap.objs.size <= T /\ E (.ref ea) none H'
section
variable {X : Cx} {pins : List (Addr × Obj)} {σ : St} {H : Hp} {s : Shared}
theorem Inv.flew {h' : Heap} {ea C dx : Addr} {o : HO} {ch : List Addr} (I : Inv X pins σ H s) (he : H ea = some o) (ho : (∀ xs, o ≠ .tup xs) /\ (∀ y, o ≠ .own y) /\ (∀ a u, o ≠ .frz a u) /\ ∀ ps, o ≠ .tbl ps) (hT : ∀ b ∈ ch, H b = none) (hTn : ∀ b ∈ ch, X.s₀.heap.objs.size <= b /\ b ≠ X.env.locals /\ (∀ x c, X.env.cells.lookup x = some c -> c ≠ b) /\ ∀ p ∈ X.pn ++ pins, p.1 ≠ b)
  (k1 : ∀ b o, b ≠ ea -> b ∉ ch -> b ∉ frs X.stack -> s.heap.get? b = some o -> h'.get? b = some o) (k2 : ∀ b o, b ∈ frs X.stack -> s.heap.get? b = some o -> ∃ sl, h'.get? b = some { o with slots := sl }) (hx : ExcAt ea C dx h') :
  Inv X pins σ (upd H ea (.ext (ExcAt ea C dx))) { s with heap := h' } := by
 have nea : ∀ b, H b = none -> b ≠ ea := fun b n z => by rw [z, he] at n; cases n
 have nst : ∀ b u, H b = some u -> b ∉ frs X.stack := fun b u q z => by rw [I.stkFree b z] at q; cases q
 have nT : ∀ b u, H b = some u -> b ∉ ch := fun b u q z => by rw [hT b z] at q; cases q
 refine I.call (s := s) (h' := h') (g' := s.gens) (t' := s.toks) (d' := s.drawn) (ch := ch) ⟨fun b o q n hb hc => ?_, fun b o q n hb hc => ?_, fun b o q n hc => ?_, fun b o q hc => ?_, fun b xs q => ?_, fun b o u q => ?_, fun b ps q => ?_⟩ (fun b u q => ?_) I.bare fun b hb => ?_
 . exact k1 b o (nea b n) hc hb q
 . exact k2 b o hb q
 . rw [upd_ne (nea b n)]; exact n
 . by_cases hb : b ∈ frs X.stack
   . obtain ⟨sl, z⟩ := k2 b o hb q
     exact ⟨_, z⟩
   . by_cases hbe : b = ea
     . subst hbe
       obtain ⟨vs, z⟩ := hx
       exact ⟨_, z⟩
     . exact ⟨_, k1 b o hbe hc hb q⟩
 . by_cases hb : b = ea
   . subst hb; rw [he] at q; cases q; exact absurd rfl (ho.1 xs)
   . rw [upd_ne hb]; exact q
 . by_cases hb : b = ea
   . subst hb; rw [he] at q; cases q; exact absurd rfl (ho.2.2.1 o u)
   . rw [upd_ne hb]; exact q
 . by_cases hb : b = ea
   . subst hb; rw [he] at q; cases q; exact absurd rfl (ho.2.2.2 ps)
   . rw [upd_ne hb]; exact ⟨#[], by rw [q]; simp⟩
 . by_cases hb : b = ea
   . subst hb
     rw [upd_same] at q
     cases q
     exact excAt_ok hx
   . rw [upd_ne hb] at q
     refine (I.hok b u q).stay (fun c v hc r => ?_) (fun c q2 => ?_) (fun c xs q2 => ?_)
     . rcases hc with rfl | hc
       . exact k1 c v hb (nT c u q) (nst c u q) r
       . have hce : c ≠ ea := fun z => by
           rw [z, he] at hc
           cases hc
           exact absurd rfl (ho.2.1 b)
         exact k1 c v hce (nT c _ hc) (nst c _ hc) r
     . have hce : c ≠ ea := fun z => by
         rw [z, he] at q2
         cases q2
         exact absurd rfl (ho.2.1 b)
       rw [upd_ne hce]; exact q2
     . have hce : c ≠ ea := fun z => by
         rw [z, he] at q2
         cases q2
         exact absurd rfl (ho.1 xs)
       rw [upd_ne hce]; exact q2
 . obtain ⟨a1, a2, a3, a4⟩ := hTn b hb
   exact ⟨.inr a1, a2, a3, a4⟩
theorem Inv.above (I : Inv X pins σ H s) {T : Addr} (h : s.heap.objs.size <= T) : X.s₀.heap.objs.size <= T /\ T ≠ X.env.locals /\ (∀ x c, X.env.cells.lookup x = some c -> c ≠ T) /\ ∀ p ∈ X.pn ++ pins, p.1 ≠ T := by
 refine ⟨Nat.le_trans I.sz h, fun z => ?_, fun x c e z => ?_, fun p hp z => ?_⟩
 . exact Nat.lt_irrefl _ (z ▸ Nat.lt_of_lt_of_le I.lt h)
 . obtain ⟨v, o, ho, _⟩ := I.cell x c e
   exact Nat.lt_irrefl _ (z ▸ Nat.lt_of_lt_of_le (Heap.lt_size ho) h)
 . exact Nat.lt_irrefl _ (z ▸ Nat.lt_of_lt_of_le (Heap.lt_size (I.pin p hp).1) h)
end
section
variable {P : Program} {w : World} {K : PySem.W.Frag} {mg : Str -> Option Value} {base : Heap} {N : List Str} {qual : Str} {scope : Scope} {f : Addr} {cd : Value} {A : Around} {outer : List Env} {s : Shared} {H : Hp} {E : XK}
theorem xe_leave {pins : List (Addr × Obj)} {σ : St} {H1 : Hp} {s1 : Shared} {ea C dx : Addr} (I : Inv (cxOf (CX1 P w) P w K mg base N qual scope f cd A outer s H E) pins σ H1 s1) (he : H1 ea = some (.ext (ExcIs ea C (some dx)))) (hE : E (.ref ea) none (upd H1 ea (.ext (ExcAt ea C dx)))) :
  (cxOf (CX1 P w) P w K mg base N qual scope f cd A outer s H E).xe (.ref ea) s1 := by
 have okE : ExcIs ea C (some dx) s1.heap := (I.hok ea _ he).1
 show wpAny (model P w) (A.deeper (envOfC qual scope s.heap.objs.size f cd)) (leaving (envOfC qual scope s.heap.objs.size f cd) (.ref ea)) _ _ s1
 refine leave_first (L := s.heap.objs.size) I.ok.frames I.stack rfl okE fun h' T hT k1 k2 fl => ?_
 have J := I.flew (h' := h') (ch := []) (dx := dx) he ⟨fun _ z => (by cases z), fun _ z => (by cases z), fun _ _ z => (by cases z), fun _ z => (by cases z)⟩ (fun b hb => absurd hb (by simp)) (fun b hb => absurd hb (by simp)) (fun b o hb _ hn q => k1 b o hb hn q) (fun b o hb q => k2 b o hb q) fl.at
 have hTa : upd H1 ea (.ext (ExcAt ea C dx)) T = none := by
  have n1 : H1 T = none := I.hok.fresh hT
  have n2 : T ≠ ea := fun z => by rw [z, he] at n1; cases n1
  rw [upd_ne n2]; exact n1
 exact ⟨ea, T, C, dx, _, rfl, J.os, J.bare, J.base, J.hok, fl, upd_same, hTa, Nat.le_trans I.sz hT, hE⟩
end
end L2
namespace L2
open PySem PySem.Spec PyProof.Rows
section
variable {X : Cx} {C CS fi : Addr} {fld prm x : Str} {k : Nat} {fd : FuncData} {p pos cpos : Pos} {e : Expr} {ta : TA} {Fl : Ds -> Option (List PyData)} {fr : Bool}
end
noncomputable def outX : Out -> Option (PV ⊕ PyData)
 | .ret pv => some (.inl pv)
 | .next _ => some (.inl (.dat .none))
 | .up x => some (.inr x)
 | _ => none
noncomputable def fnX (n N : Nat) (G : Ds -> Option Out) : List PyData -> Option (PV ⊕ PyData) := fun l => if l.length = n then (G (dats l ++ List.replicate (N - n) none)).bind outX else none
noncomputable def AnsOk (K : PySem.W.Frag) (O : List Addr) (H : Hp) (Q : VK) (E : XK) : PV ⊕ PyData -> Prop
 | .inl pv => ∀ v H', Same H H' -> RX K O [] H H' v pv -> Q v H'
 | .inr x => ∀ ea H', Same H H' -> Dt K (hid H' [] O) (.ref ea) x -> E (.ref ea) none H'
noncomputable def spX (K : PySem.W.Frag) (F : List PyData -> Option (PV ⊕ PyData)) : Sp := fun vs H Q E => ∃ (O : List Addr) (ds : List PyData) (a : PV ⊕ PyData), (∀ a ∈ O, ∃ u, H a = some u) /\ Dts K (hid H [] O) vs ds /\ F ds = some a /\ AnsOk K O H Q E a
section
variable {P : Program} {w : World} {K : PySem.W.Frag} {mg : Str -> Option Value} {base : Heap}
theorem Fun.okX {x qual : Str} {st : Stmt} {f : Addr} {fd : FuncData} {N ps : List Str} {k : Nat} {G : Ds -> Option Out} (F : Fun K x qual st f fd) (S : FnScope N ps (defScope st)) (hN : ps.length <= N.length)
  (hbody : ∀ (cdv : Value) (A : Around) (outer : List Env) (s : Shared) (H : Hp) (E : XK), Room k (A.deeper (envOfC qual (defScope st) s.heap.objs.size f cdv)) ->
   ∃ t, PSsX (cxOf (CX1 P w) P w K mg base N qual (defScope st) f cdv A outer s H E) (defBody st) t G) : FnOk P w K mg base (CX1 P w) (k + 1) f fd ps (spX K (fnX ps.length N.length G)) := by
 have ln : ∀ vs H Q E, spX K (fnX ps.length N.length G) vs H Q E -> vs.length = ps.length := fun vs H Q E h => by
  obtain ⟨O, ds, pv, h1, h2, h3, h4⟩ := h
  unfold fnX at h3
  split at h3
  . rename_i hl
    rw [h2.length]; exact hl
  . cases h3
 obtain ⟨oc, od, kV, doc, pm, an, cdv, ct, osl, rfl, lk, hcd⟩ := F.ex
 refine fn_of lk hcd S ln fun A outer s H vs Q E hr h => ?_
 obtain ⟨O, ds, a, h1, h2, h3, h4⟩ := h
 obtain ⟨t, ht⟩ := hbody cdv A outer s H E hr
 refine ⟨t, ht.p, ?_⟩
 unfold fnX at h3
 split at h3
 . rename_i hl
   rw [<- hl] at h3
   cases e1 : G (dats ds ++ List.replicate (N.length - ds.length) none) with
   | none => rw [e1] at h3; cases h3
   | some o =>
    rw [e1] at h3
    simp only [Option.bind_some] at h3
    refine ht.t O H _ (L2.start N vs) H _ _ o (DS.start h1 h2) e1 ?_
    cases o with
    | next ds' => cases h3; exact fun as σ H' S' => h4 _ H' S'.same Dt.non
    | ret pv' => cases h3; exact fun v H' s r => h4 v H' s r
    | brk ds' => cases h3
    | cont ds' => cases h3
    | up x =>
     cases h3
     intro ea H1 sm n0 ⟨C, dx, fld, v, d, hx, hC, hnf, q1, q2, q3, hd⟩ pins σ s1 I
     subst hx
     have hde : dx ≠ ea := fun z => by rw [z, q1] at q2; cases q2
     have eaO : ea ∉ O := fun z => by
      obtain ⟨u, z⟩ := h1 ea z
      rw [n0] at z; cases z
     refine xe_leave I q1 (h4 ea _ (fun b u z => ?_) (.exc hC hnf (hid_some.mpr ⟨eaO, by simp, upd_same⟩) (hid_some.mpr ⟨q3, by simp, by rw [upd_ne hde]; exact q2⟩) (hd.same (hid_le fun b u z1 z2 z3 => ⟨fun z => z1 (List.mem_cons_of_mem _ z), by simp, ?_⟩))))
     . rw [upd_ne (ne_of_none z n0)]; exact sm b u z
     . rw [upd_ne fun z => z1 (by rw [z]; exact List.mem_cons_self)]; exact z3
 . cases h3
end
end L2
namespace L2
open PySem PySem.Spec PyProof.Rows
noncomputable def Cx.marked (X : Cx) (ea : Addr) : Cx := { X with A := X.A.mark (some (.ref ea)), calm := false, xe := fun _ _ => False }
theorem Cx.Ok.marked {X : Cx} (ok : X.Ok) (ea : Addr) : (X.marked ea).Ok :=
 ⟨ok.mod, ok.kind, ok.glob, ok.blt, ok.above, ok.inj, ok.has, ok.cab, fun z => (by cases z), ok.frames, ok.stk, ok.exf, ok.bs, ok.bsz, ok.noex, ok.exfs, ok.funs, ok.frf⟩
section
variable {X : Cx} {pins : List (Addr × Obj)} {σ : St} {H : Hp} {s : Shared}
theorem Inv.marked (I : Inv X pins σ H s) (ea : Addr) : Inv (X.marked ea) pins σ H s := ⟨I.ok.marked ea, I.os, I.bare, I.base, I.loc, I.cell, I.free, I.freeC, I.pin, I.hok, I.len⟩
theorem Inv.unmarked {ea : Addr} (I : Inv (X.marked ea) pins σ H s) (ok : X.Ok) : Inv X pins σ H s := ⟨ok, I.os, I.bare, I.base, I.loc, I.cell, I.free, I.freeC, I.pin, I.hok, I.len⟩
theorem goes_ok {M : Model} {A : Around} {E : Value -> Shared -> Prop} {j : Nat} {n : Str} {pos : Pos} {Q : Unit -> Shared -> Prop} (I : Inv X pins σ H s) (hN : X.N.Nodup) (hj : X.N[j]? = some n) (hk : X.env.scope.names.lookup n = some .local)
  (h : ∀ s', Inv X pins (σ.set j none) H s' -> Q () s') : wpAny M A (do bindName X.env n .none; unbindBehindTheSuite X.env n pos) Q E s := by
 obtain ⟨m, hn, hl⟩ := id I.loc
 have hcls : (X.env.scope.kind == .class || (X.env.scope.kind == .module && X.env.locals != X.env.globals)) = false := by rw [I.ok.kind]; rfl
 have hiσ : j < σ.length := by rw [I.len]; exact (List.getElem?_eq_some_iff.mp hj).1
 have cne := I.cne
 refine wpAny_nameGoes_keeps hk hn hcls fun h' v hn' hs => ?_
 obtain ⟨oL, _, _, hoL, _⟩ := id hn
 have tracked : HOk X.prog X.w H h' := fun b ob e => by
  refine (I.hok b ob e).stay (fun c w' hc q => (hs.2 c ?_).trans q) (fun _ q => q) fun _ _ q => q
  rintro rfl
  rcases hc with rfl | hc
  . rw [I.free] at e; cases e
  . rw [I.free] at hc; cases hc
 refine h _ ⟨I.ok, I.os, I.bare, ⟨fun b o e n hb hx => ?_, fun b o e n hb hx => ?_, I.base.free, fun b o e hx => ?_, I.base.tups, I.base.frzs, I.base.tbls⟩, ⟨_, hn', fun i y v' e1 e2 e3 => ?_⟩, fun y c e => ?_, I.free, I.freeC, fun p hp => ?_, tracked, by simpa using I.len⟩
 . exact (hs.2 b (Nat.ne_of_lt (Nat.lt_of_lt_of_le (Heap.lt_size e) I.ok.above))).trans (I.base.keep b o e n hb hx)
 . obtain ⟨sl, e1⟩ := I.base.slot b o e n hb hx
   exact ⟨sl, (hs.2 b (Nat.ne_of_lt (Nat.lt_of_lt_of_le (Heap.lt_size e) I.ok.above))).trans e1⟩
 . obtain ⟨o', e1⟩ := I.base.there b o e hx
   exact ⟨o', (hs.2 b (Nat.ne_of_lt (Nat.lt_of_lt_of_le (Heap.lt_size e) I.ok.above))).trans e1⟩
 . by_cases hij : i = j
   . subst hij
     rw [List.getElem?_set_self hiσ] at e2
     cases e2
   . rw [List.getElem?_set_ne (Ne.symm hij)] at e2
     obtain ⟨u', r', q⟩ := hl i y v' e1 e2 e3
     refine ⟨u', r', ?_⟩
     rcases q with ⟨k, e⟩ | ⟨k, c, e, z⟩
     . refine .inl ⟨k, ?_⟩
       have : y ≠ n := fun e => hij (nodup_ix hN e1 (e ▸ hj))
       simp [this, e]
     . exact .inr ⟨k, c, e, z.sameBut hs (cne y c e)⟩
 . obtain ⟨w', z⟩ := I.cell y c e
   exact ⟨w', z.sameBut hs (cne y c e)⟩
 . obtain ⟨e, n, ne, nf, d⟩ := I.pin p hp
   exact ⟨(hs.2 p.1 ne).trans e, n, ne, nf, d⟩
end
noncomputable def dHand (j : Nat) (D : Ends) : Ends := { nx := fun σ H => D.nx (σ.set j none) H, rt := D.rt, bk := fun σ H => D.bk (σ.set j none) H, ct := fun σ H => D.ct (σ.set j none) H }
section
variable {X : Cx} {C CS fi : Addr} {fld : Str} {pins : List (Addr × Obj)} {σ : St} {H : Hp} {s s' : Shared} {E : XK} {D : Ends} {cn n : Str} {p3 p4 : Pos} {b₀ : Stmt} {suite : List Stmt} {tb : TS} {j : Nat} {e : Value}
theorem caught (hst : X.stack = X.env :: X.outer /\ X.env.frame = some X.env.locals) (T : ExcK X.K C CS fi fld) (hgc : Gl X cn) (hmc : X.mg cn = some (.ref C)) (hN : X.N.Nodup) (hj : X.N[j]? = some n) (hn : X.env.scope.names.lookup n = some .local)
  (hs : ∀ ea, PSs (X.marked ea) (b₀ :: suite) tb) (I0 : Inv X pins σ H s) (hq : CX1 X.prog X.w X.stack H s E e s')
  (hE : ∀ ev H', E ev none H' -> ∃ ea dx, ev = .ref ea /\ H' ea = some (.ext (ExcAt ea C dx)) /\ tb (dHand j D) (σ.set j (some (.ref ea))) H') (hdb : (cn == ("__debug__" : Str)) = false := by decide) :
  wpAny (model X.prog X.w) X.A (noteFrame e X.env) (fun _ s₂ => wpAny (model X.prog X.w) X.A (setFlight e none) (fun _ s₃ => wpAny (model X.prog X.w) X.A (handleBy e X.env [.ExceptHandler (some (.Name cn p3)) (some n) (b₀ :: suite) p4]) (SP X pins D) X.xe s₃) X.xe s₂) X.xe s' := by
 obtain ⟨ea, T1, C', dx, H', rfl, os, bare, un, hok, fl, h1, hT, hsz, hw⟩ := hq
 obtain ⟨ea', dx', ev, h2, ht⟩ := hE _ _ hw
 cases ev
 have I1 : Inv X pins σ H' s' := I0.call' (ch := []) os un hok bare fun b z => absurd z (by simp)
 have eC : C' = C := by
  obtain ⟨vs, q1⟩ := fl.at
  obtain ⟨vs', q2⟩ := (I1.hok ea _ h2).1
  rw [q1] at q2
  injection q2 with q2
  injection q2 with q2
  injection q2
 subst eC
 have hl := I1.stack
 have hfr := I1.ok.frames
 rw [hst.1] at hl hfr
 refine note_next hfr hl hst.2 fl fun h' T' hT' k1 k2 fl2 => ?_
 have a1 := I0.above hsz
 have I2 := I1.flew (h' := h') (ch := [T1]) (C := C') (dx := dx) h1 ⟨fun _ z => (by cases z), fun _ z => (by cases z), fun _ _ z => (by cases z), fun _ z => (by cases z)⟩ (fun b hb => by rw [List.mem_singleton.mp hb]; exact hT) (fun b hb => by rw [List.mem_singleton.mp hb]; exact a1)
  (fun b o hb hc hnf q => k1 b o hb (fun z => hc (by simp [z])) (by rw [<- hst.1]; exact hnf) q) (fun b o hb q => k2 b o (by rw [<- hst.1]; exact hb) q) fl2.at
 have e0 : upd H' ea (.ext (ExcAt ea C' dx)) = H' := by
  funext b
  by_cases hb : b = ea
  . subst hb; rw [upd_same, h1]
  . rw [upd_ne hb]
 rw [e0] at I2
 have I3 := I2.marked ea
 obtain ⟨nm, qn, N, bs, sn, sub, ab, col, dd, c0, c1, c2, c3, c5, hC, _, _⟩ := T.cls
 refine wpAny_handleBy_cons (codeAny_handlers_test (show wpAny (model (X.marked ea).prog (X.marked ea).w) (X.marked ea).A (eval (.Name cn p3) (X.marked ea).env) _ _ _ from ld_glob I3 hgc hmc ?_ hdb)) (by intro q; cases q)
 obtain ⟨vs, q1⟩ := fl2.at
 refine wpAny_excMatches_sub_self (I2.kIn _ _ hC) q1 rfl (by simp [valueMro]) ?_
 refine codeAny_handlers_suite_as ?_
 obtain ⟨us, oT, ts, g1, g2, g3, g4, g5, g6⟩ := fl2
 refine wpAny_setFlight_none g1 rfl g2 g4 g5 (Array.getElem?_eq_some_iff.mp g6).1 ?_
 have a2 := I1.above hT'
 have nT' : H' T' = none := I1.hok.fresh hT'
 have I4 := I3.turned (h' := h'.update T' (Obj.mapFields (·.setIfInBounds 3 .none))) (t' := s'.toks) (it := T') (fun b o hb q => by rw [Heap.get?_update_other _ _ (Ne.symm hb)]; exact q) nT' a2.2.1 (.inr a2.1) a2.2.2.1 a2.2.2.2
 refine store_ok (X := X.marked ea) I4 hN hj (.inl hn) (v := .ref ea) (u := .ref ea) rfl (fun s5 I5 => ?_) (.inr hn)
 refine wpAny_mono (hs ea pins s5 _ H' (dHand j D) I5 ht) (fun f s6 q => ?_) fun _ _ z => False.elim z
 have fin : ∀ {σ' : St} {H3 : Hp} {Q : Unit -> Shared -> Prop}, Inv (X.marked ea) pins σ' H3 s6 -> (∀ s7, Inv X pins (σ'.set j none) H3 s7 -> Q () s7) -> wpAny (model X.prog X.w) X.A (do bindName X.env n .none; unbindBehindTheSuite X.env n p4) Q X.xe s6 :=
  fun {σ' H3 Q} J k => goes_ok (J.unmarked I0.ok) hN hj hn k
 cases f with
 | next => obtain ⟨σ', H3, J, q⟩ := q; exact fin J fun s7 J7 => ⟨_, H3, J7, q⟩
 | brk => obtain ⟨σ', H3, J, q⟩ := q; exact fin J fun s7 J7 => ⟨_, H3, J7, q⟩
 | cont => obtain ⟨σ', H3, J, q⟩ := q; exact fin J fun s7 J7 => ⟨_, H3, J7, q⟩
 | ret u => obtain ⟨v, σ', H3, J, r, q⟩ := q; exact fin J fun s7 J7 => ⟨v, _, H3, J7, r, q⟩
end
end L2
namespace L2
open PySem PySem.Spec PyProof.Rows
noncomputable def tTry (C : Addr) (nx : Ends -> St -> VK) (j : Nat) (sp : Sp) (t : TA) (tb : TS) : TS := fun D σ H => t σ H fun vs H1 => sp vs H1 (fun v H2 => nx D σ v H2) (fun ev _ H2 => ∃ ea dx, ev = .ref ea /\ H2 ea = some (.ext (ExcAt ea C dx)) /\ tb (dHand j D) (σ.set j (some (.ref ea))) H2)
noncomputable def nxA (i : Nat) : Ends -> St -> VK := fun D σ v H => D.nx (σ.set i (some v)) H
section
variable {X : Cx} {C CS fi f : Addr} {fld x y cn n : Str} {fd : FuncData} {ps : List Str} {sp : Sp} {k i j : Nat} {e : Expr} {es : List Expr} {t : TA} {tb : TS} {p p1 p2 p3 p4 p5 pos : Pos} {b₀ : Stmt} {suite : List Stmt}
end
noncomputable def isExc (C : Addr) : PyData -> Bool
 | .dict [(.tuple [.int n, .str _], _)] => n == ((C : Nat) : Int)
 | _ => false
noncomputable def unOut (j : Nat) : Out -> Option Out
 | .next ds => some (.next (ds.set j none))
 | .brk ds => some (.brk (ds.set j none))
 | .cont ds => some (.cont (ds.set j none))
 | .ret pv => some (.ret pv)
 | .up _ => none
noncomputable def gTryA (C : Addr) (i j : Nat) (FX : List PyData -> Option (PV ⊕ PyData)) (Fl : Ds -> Option (List PyData)) (Gb : Ds -> Option Out) : Ds -> Option Out := fun ds => (Fl ds).bind fun l => (FX l).bind fun a => match a with
 | .inl pv => some (.next (ds.set i (some (.dat pv.d))))
 | .inr x => if isExc C x = true then (Gb (ds.set j (some (.dat x)))).bind (unOut j) else none
theorem DS.unset {K : PySem.W.Frag} {O : List Addr} {H₀ H : Hp} {as : As} {σ : St} {ds : Ds} (S : DS K O H₀ as σ H ds) (i : Nat) : DS K O H₀ (as.set i none) (σ.set i none) H (ds.set i none) := by
 have sub : ∀ b, some b ∈ as.set i none -> some b ∈ as := fun b z => by
  rcases List.mem_or_eq_of_mem_set z with z | z
  . exact z
  . cases z
 refine ⟨by simp [S.ls], by simp [S.la], S.same, fun a h => S.new a (sub a h), S.dom, fun j k a h1 h2 => ?_, fun j pv hj => ?_⟩
 . have f : ∀ j, (as.set i none)[j]? = some (some a) -> as[j]? = some (some a) := fun j z => by
     rw [List.getElem?_set] at z
     split at z
     . split at z <;> cases z
     . exact z
   exact S.inj j k a (f j h1) (f k h2)
 . by_cases hij : i = j
   . subst hij
     rw [List.getElem?_set, if_pos rfl] at hj
     split at hj <;> cases hj
   . rw [List.getElem?_set_ne hij] at hj
     have sl := S.slot j pv hj
     rw [List.getElem?_set_ne hij, List.getElem?_set_ne hij]
     cases pv with
     | dat d => obtain ⟨v, e1, h⟩ := sl; exact ⟨v, e1, h.same (hid_sub (Same.refl _) sub)⟩
     | own l' => obtain ⟨a, xs, e1, e2, e3, h⟩ := sl; exact ⟨a, xs, e1, e2, e3, h.same (hid_sub (Same.refl _) sub)⟩
theorem Dt.isExc {K : PySem.W.Frag} {H : Hp} {C : Addr} {v : V} {x : PyData} (h : Dt K H v x) (e : isExc C x = true) : ∃ ea dx, v = .ref ea /\ H ea = some (.ext (ExcAt ea C dx)) := by
 cases h with
 | exc c nf h1 h2 t =>
  rename_i ea C' dx fld v d
  have e' : (((C' : Nat) : Int) == ((C : Nat) : Int)) = true := e
  have : C' = C := Int.ofNat.inj (beq_iff_eq.mp e')
  subst this
  exact ⟨ea, dx, rfl, h1⟩
 | _ => cases e
theorem EndsOk.hand {X : Cx} {O : List Addr} {H₀ : Hp} {D : Ends} {o o' : Out} {j : Nat} {ea : Addr} (h : EndsOk X O H₀ D o') (e : unOut j o = some o') : EndsOk (X.marked ea) O H₀ (dHand j D) o := by
 cases o with
 | next ds => cases e; exact fun as σ H S => h _ _ _ (S.unset j)
 | brk ds => cases e; exact fun as σ H S => h _ _ _ (S.unset j)
 | cont ds => cases e; exact fun as σ H S => h _ _ _ (S.unset j)
 | ret pv => cases e; exact fun v H s r => h v H s r
 | up x => cases e
section
variable {X : Cx} {C CS fi f : Addr} {fld x y cn n : Str} {fd : FuncData} {ps : List Str} {FX : List PyData -> Option (PV ⊕ PyData)} {k i j : Nat} {e : Expr} {es : List Expr} {t : TA} {tb : TS} {Fl : Ds -> Option (List PyData)} {Gb : Ds -> Option Out} {p p1 p2 p3 p4 p5 pos : Pos} {b₀ : Stmt} {suite : List Stmt}
end
end L2
namespace L2
open PySem PySem.Spec PyProof.Rows
theorem look_ns {h : Heap} {a : Addr} {m : Str -> Option Value} {x : Str} {u : Value} (N : h.Ns1 a m) (e : m x = some u) : ∃ o, h.get? a = some o /\ PySem.W.lookIn x o = some (some u) := by
 obtain ⟨o, es, ep, ho, hd, hk, hu, hm⟩ := N
 refine ⟨o, ho, ?_⟩
 unfold PySem.W.lookIn
 rw [hd]
 have z := hm x
 rw [e] at z
 unfold nsFind findBy at z
 rw [<- Array.find?_toList] at z
 cases q : es.toList.find? (·.key.isStr x) with
 | none => rw [q] at z; cases z
 | some d =>
  rw [q] at z
  have z' : some d.val = some u := z
  dsimp only
  rw [q]
  exact congrArg some z'
noncomputable def excField (fld : Str) : PyData -> Option PyData
 | .dict [(.tuple [.int _, .str f], d)] => if f = fld then some d else none
 | _ => none
noncomputable def fFld (fld : Str) (F : Ds -> Option PV) : Ds -> Option PV := fun ds => (F ds).bind fun x => (excField fld x.d).bind fun d => some (.dat d)
noncomputable def tExF (K : PySem.W.Frag) (fld : Str) (t : TE) : TE := fun σ H Q => t σ H fun x H1 => ∃ ea C dx v, x = .ref ea /\ ExcC K C /\ PySem.W.findIn K (.ref C) fld = some none /\ H1 ea = some (.ext (ExcAt ea C dx)) /\ H1 dx = some (.xd [(fld, v)]) /\ Q v H1
section
variable {X : Cx} {fr : Bool} {e c : Expr} {te : TE} {F : Ds -> Option PV} {fld x : Str} {p pos : Pos}
theorem pe_exF (he : PE X e te) (hb : attributeBase e fld X.env (eval e X.env) = eval e X.env := by rfl) : PE X (.Attribute e fld pos) (tExF X.K fld te) := by
 intro pins s σ H Q I h
 refine attr_of hb (thn (he pins s σ H _ I h) fun u s1 ⟨y, H1, I1, ry, ea, C, dx, v, ey, hC, hnf, h1, h2, q⟩ => ?_)
 subst ey
 obtain rfl : u = Value.ref ea := ry
 obtain ⟨vs, hx⟩ := (I1.hok ea _ h1).1
 obtain ⟨mA, N, r⟩ := I1.hok dx _ h2
 obtain ⟨w, hw, rw'⟩ := RelO.some_of (v := v) (o := mA fld) (by have := r fld; simpa [List.lookup] using this)
 obtain ⟨o, ho, hlk⟩ := look_ns N hw
 exact exc_attr hC I1.kIn (ox := _) (od := some o) ⟨hx, rfl, rfl, ho⟩ (PySem.W.findObj_own hC.hd hnf rfl hlk) (handed_of rw') ⟨v, H1, I1.tok _, rw', q⟩
theorem px_fld (he : PX X fr e te F) (hb : attributeBase e fld X.env (eval e X.env) = eval e X.env := by rfl) : PX X fr (.Attribute e fld pos) (tExF X.K fld te) (fFld fld F) := ⟨pe_exF he.p hb, by
 intro O H₀ as σ H ds pv Q S hf q
 unfold fFld at hf
 cases h1 : F ds with
 | none => rw [h1] at hf; cases hf
 | some w =>
  rw [h1] at hf
  simp only [Option.bind_some] at hf
  refine he.t O H₀ as σ H ds w _ S h1 fun v H1 e1 r1 => ?_
  have dt := r1.dt S.dm
  revert hf
  generalize w.d = d at dt
  intro hf
  cases dt with
  | exc cc nf g1 g2 t =>
   rename_i ea C dx f' v' d'
   have hf' : ((if f' = fld then some d' else none).bind fun d => some (PV.dat d)) = some pv := hf
   by_cases hff : f' = fld
   . subst hff
     rw [if_pos rfl] at hf'
     cases hf'
     exact ⟨ea, C, dx, v', rfl, cc, nf, hid_all _ _ g1, hid_all _ _ g2, q _ H1 e1 t⟩
   . rw [if_neg hff] at hf'; cases hf'
  | _ => cases hf⟩
theorem seqK_up (x : PyData) (G : Ds -> Option Out) : seqK (some (.up x)) G = some (.up x) := rfl
theorem isExc_self (C : Addr) (f : Str) (d : PyData) : isExc C (excD C f d) = true := beq_self_eq_true _
theorem excField_self (C : Addr) (f : Str) (d : PyData) : excField f (excD C f d) = some d := if_pos rfl
theorem isNone_exc (C : Addr) (f : Str) (d : PyData) : isNoneD (excD C f d) = false := rfl
noncomputable def fIsE (C : Addr) (b : Bool) (F : Ds -> Option PV) : Ds -> Option PV := fun ds => (F ds).bind fun x => if isExc C x.d = true then some (.dat (.bool b)) else if isNoneD x.d = true then some (.dat (.bool false)) else none
noncomputable def rIsE (K : PySem.W.Frag) (C : Addr) (vc : V) (b : Bool) : List V -> Hp -> VK -> Prop := fun xs H Q => ∃ y d, xs = [y, vc] /\ Dt K H y d /\ ((isExc C d = true /\ Q (.bl b) H) \/ (d = .none /\ Q (.bl false) H))
theorem call_isE {C : Addr} {vc : V} {uc : Value} {b : Bool} (hv : ∀ u, RelV vc u -> u = uc) (h1 : PySem.W.kitOne X.K (.ref C) uc = some b) (h0 : PySem.W.kitOne X.K (.type "NoneType") uc = some false) : CallR X (.builtin "isinstance") (rIsE X.K C vc b) := by
 intro pins s σ H xs us Q I r h
 obtain ⟨y, d, rfl, hd, q⟩ := h
 obtain ⟨u, c, rfl, rx, rc⟩ := vals2 r
 obtain rfl := hv c rc
 rcases q with ⟨hx, q⟩ | ⟨rfl, q⟩
 . cases hd with
   | exc cc nf g1 g2 t =>
    rename_i ea C' dx f' v' d'
    have e' : (((C' : Nat) : Int) == ((C : Nat) : Int)) = true := hx
    have : C' = C := Int.ofNat.inj (beq_iff_eq.mp e')
    subst this
    cases rx
    obtain ⟨mA, ⟨ob, es, ep, ho, _⟩, _⟩ := I.hok _ _ g2
    exact PySem.W.kia_one (kitx_exc cc) I.kIn ⟨(I.hok _ _ g1).1, ob, ho⟩ h1 (fun z => nomatch z) fun tk => ⟨.bl _, H, I.tok tk, rfl, q⟩
   | _ => cases hx
 . cases hd
   cases rx
   exact PySem.W.kia_one PySem.W.kitx_none I.kIn True.intro h0 (fun z => nomatch z) fun tk => ⟨.bl _, H, I.tok tk, rfl, q⟩
theorem px_isE {C : Addr} {vc : V} {uc : Value} {b : Bool} (hvu : ∀ u, RelV vc u -> u = uc) (h1 : PySem.W.kitOne X.K (.ref C) uc = some b) (h0 : PySem.W.kitOne X.K (.type "NoneType") uc = some false) (hg : Gl X x) (hm : X.mg x = none) (hv : bootBuiltins x = some (.builtin "isinstance")) (h : PX X fr e te F) (hc : PE X c (tC vc)) (hn : x ≠ "__name__" := by decide) (hdb : (x == ("__debug__" : Str)) = false := by decide)
  (hs1 : starEach [e, c] X.env = (false, eval e X.env) :: starEach [c] X.env := by rfl) (hs2 : starEach [c] X.env = (false, eval c X.env) :: starEach [] X.env := by rfl) (hpl : (backTo pos (starEach [c] X.env)).any (·.1) = false := by rfl) :
  PX X fr (.Call (.Name x p) [e, c] [] pos) (tCB (rIsE X.K C vc b) (tCons te (tCons (tC vc) tNil))) (fIsE C b F) :=
 ⟨pe_callB (call_isE hvu h1 h0) hg hm hv (pa_cons h.p (pa_cons hc pa_nil hs2) hs1) hn hdb hs1 hpl, by
 intro O H₀ as σ H ds pv Q S hf q
 unfold fIsE at hf
 cases hF : F ds with
 | none => rw [hF] at hf; cases hf
 | some w =>
  rw [hF] at hf
  simp only [Option.bind_some] at hf
  refine h.t O H₀ as σ H ds w _ S hF fun v H1 e1 r1 => ?_
  refine ⟨v, w.d, rfl, (r1.dt S.dm).same hid_all, ?_⟩
  split at hf
  . rename_i hx
    cases hf
    exact .inl ⟨hx, q _ H1 e1 (Dt.bl _)⟩
  . split at hf
    . rename_i hx
      cases hf
      refine .inr ⟨?_, q _ H1 e1 (Dt.bl _)⟩
      revert hx
      generalize w.d = d
      intro hx
      unfold isNoneD at hx
      split at hx
      . rfl
      . cases hx
    . cases hf⟩
end
end L2
namespace L2
open PySem PySem.Spec PyProof.Rows
noncomputable def spInitP (P : V -> Prop) (C : Addr) (fld : Str) : Sp := fun vs H Q _ => ∃ ea v, vs = [.ref ea, v] /\ P v /\ H ea = some (.ext (ExcIs ea C none)) /\ ∀ dx, H dx = none -> dx ≠ ea -> Q .non (upd (upd H ea (.ext (ExcIs ea C (some dx)))) dx (.xd [(fld, v)]))
section
variable {X : Cx} {C CS fi : Addr} {fld prm x : Str} {k : Nat} {fd : FuncData} {P : V -> Prop} {p pos cpos : Pos} {e : Expr} {t : TA}
theorem run_excP {pins : List (Addr × Obj)} {σ : St} {H : Hp} {s : Shared} {Q : VK} {u : Value} {v : V} (T : ExcK X.K C CS fi fld) (F : FnOk X.prog X.w X.K X.mg X.base CX0 k fi fd ["self", prm] (spInitP P C fld)) (hr : Room (k + 1) X.A) (hb : Binds X.K fd ["self", prm] []) (hP : P v)
  (I : Inv X pins σ H s) (r : RelV v u) (h : ∀ ea dx, H ea = none -> H dx = none -> dx ≠ ea -> Q (.ref ea) (upd (upd H ea (.ext (ExcIs ea C (some dx)))) dx (.xd [(fld, v)]))) :
  wpAny (model X.prog X.w) X.A (call (.ref C) [u]) (EP X pins σ Q) X.xe s := by
 obtain ⟨nm, qn, N, bs, sn, sub, ab, col, dd, k0, k1, k2, k3, k5, hC, hok, hin⟩ := T.cls
 obtain ⟨oi, hoi, hfc⟩ := T.fn
 obtain ⟨hp, gs, dr, tk, os⟩ := s
 have nsN : hp.Ns N (hp.nsMap N) := .of_isNs (PySem.W.isNs_of_in I.kIn hok)
 refine call_init PySem.F.excBase_ValueError (PySem.W.tail_of_in I.kIn T.tail) (I.kIn _ _ hC) nsN (ns_at I.kIn nsN hin) (I.kIn _ _ hoi) hfc (by rw [sizeLine_eq]; simp) fun h' e hm => ?_
 obtain ⟨t, ht, _, _⟩ := hm.there
 obtain ⟨hH, I2⟩ := I.laidN (t' := tk) (D := e) (o := .ext (ExcIs e C none)) hm.keeps hm.new (excIs_ok ⟨t, ht⟩)
 have r2 : Vals [V.ref e, v] [Value.ref e, u] := .cons rfl (.cons r .nil)
 have sp : spInitP P C fld [.ref e, v] (upd H e (.ext (ExcIs e C none))) (fun y H2 => y = .non /\ Q (.ref e) H2) E0 := ⟨e, v, rfl, hP, upd_same, fun dx hdx hne => ⟨rfl, by
  rw [upd_upd]
  rw [upd_ne hne] at hdx
  exact h e dx hH hdx hne⟩⟩
 refine wpAny_call (codeAny_mono (F.run _ X.stack _ _ ⟨[.ref e, u], []⟩ [.ref e, u] _ _ E0 (hr.make C [u] []) (I2.env0.make C [u] []) (hb _ [.ref e, u] I2.kIn rfl) r2 sp) fun r s' hq' => ?_)
 cases r with
 | error e => exact hq'.elim
 | ok fl =>
  cases fl with
  | ret u' =>
   obtain ⟨y, H', I3, ry, ev, q3⟩ := I2.after hq'
   subst ev
   exact ⟨ry, ⟨V.ref e, H', I3, rfl, q3⟩⟩
  | next => exact False.elim hq'
  | brk => exact False.elim hq'
  | cont => exact False.elim hq'
noncomputable def tExcP (P : V -> Prop) (C : Addr) (fld : Str) (t : TA) : TE := fun σ H Q => t σ H fun vs H1 => ∃ v, vs = [v] /\ P v /\ ∀ ea dx, H1 ea = none -> H1 dx = none -> dx ≠ ea -> Q (.ref ea) (upd (upd H1 ea (.ext (ExcIs ea C (some dx)))) dx (.xd [(fld, v)]))
theorem pe_excP (T : ExcK X.K C CS fi fld) (F : FnOk X.prog X.w X.K X.mg X.base CX0 k fi fd ["self", prm] (spInitP P C fld)) (hr : Room (k + 1) X.A) (hb : Binds X.K fd ["self", prm] []) (hkp : PySem.W.keepIn X.K (.ref C) = true) (hg : Gl X x) (hm : X.mg x = some (.ref C)) (ha : PA X [e] t)
  (hdb : (x == ("__debug__" : Str)) = false := by decide) (he : starEach [e] X.env = (false, eval e X.env) :: starEach [] X.env := by rfl) (hpl : (backTo cpos (starEach [] X.env)).any (·.1) = false := by rfl) : PE X (.Call (.Name x p) [e] [] cpos) (tExcP P C fld t) := by
 intro pins s σ H Q I h
 refine wpAny_Call_Name_kw (ld_glob I hg hm ?_ hdb)
 refine PySem.W.callWith_K (h₀ := X.base) I.ok.mod.kin hkp (thn (ha cpos pins s σ H _ I h) fun us s1 ⟨vs, H1, I1, r, v, ev, hP, q⟩ => ⟨I1.kIn, ?_⟩) he hpl
 subst ev
 obtain ⟨u, rfl, ru⟩ := vals1 r
 exact run_excP T F hr hb hP I1 ru q
theorem ps_raiseP (T : ExcK X.K C CS fi fld) (W : Addr -> Addr -> V -> Hp -> Prop) (hc : X.A.handled = none) (he : PE X e (tExcP P C fld t))
  (hxe : ∀ pins σ H s ea dx v, Inv X pins σ H s -> H ea = some (.ext (ExcIs ea C (some dx))) -> H dx = some (.xd [(fld, v)]) -> W ea dx v H -> X.xe (.ref ea) s) :
  PS X (.Raise (some e) none pos) (fun _ σ H => tExcP P C fld t σ H fun y H2 => ∃ ea dx v, y = .ref ea /\ H2 ea = some (.ext (ExcIs ea C (some dx))) /\ H2 dx = some (.xd [(fld, v)]) /\ W ea dx v H2) := by
 intro pins s σ H D I h
 obtain ⟨nm, qn, N, bs, sn, sub, ab, col, dd, k0, k1, k2, k3, k5, hC, _, _⟩ := T.cls
 rw [arm_exec_Raise]
 refine wpAny_bind (wpAny_standAt (raise_own (C := C) (nm := nm) (qn := qn) (N := N) (bs := bs) (tl := .ref CS :: valueMro) (hd := true) (sn := sn) (sub := sub) (ab := ab) (col := col) (dd := dd) (k0 := k0) (k1 := k1) (k2 := k2) (k3 := k3) (k5 := k5) (nid := "ValueError.__new__") (by simp [valueMro]) hc ?_))
 refine wpAny_bind (thn (he pins s σ H _ I h) fun v s1 ⟨y, H1, I1, ry, ea, dx, v', ey, h1, h2, hw⟩ => wpAny_bind (wpAny_standAt (wpAny_pure ?_)))
 subst ey
 obtain rfl : v = Value.ref ea := ry
 exact ⟨ea, some dx, rfl, I1.kIn _ _ hC, (I1.hok ea _ h1).1, hxe pins σ H1 s1 ea dx v' I1 h1 h2 hw⟩
end
noncomputable def gUpP (pd : PyData -> Bool) (C : Addr) (fld : Str) (F : Ds -> Option (List PyData)) : Ds -> Option Out := fun ds => (F ds).bind fun l => match l with
 | [d] => if pd d = true then some (.up (excD C fld d)) else none
 | _ => none
section
variable {X : Cx} {C CS fi : Addr} {fld prm x : Str} {k : Nat} {fd : FuncData} {p pos cpos : Pos} {e : Expr} {ta : TA} {Fl : Ds -> Option (List PyData)} {fr : Bool} {P : V -> Prop} {pd : PyData -> Bool}
noncomputable def sRaiseP (P : V -> Prop) (X : Cx) (C : Addr) (fld : Str) (ta : TA) : TS := fun _ σ H => tExcP P C fld ta σ H fun y H2 => ∃ ea dx v, y = .ref ea /\ H2 ea = some (.ext (ExcIs ea C (some dx))) /\ H2 dx = some (.xd [(fld, v)]) /\ ∀ pins σ s, Inv X pins σ H2 s -> X.xe (.ref ea) s
theorem psx_raiseP (hPd : ∀ H v d, Dt X.K H v d -> pd d = true -> P v) (T : ExcK X.K C CS fi fld) (TC : ExcC X.K C) (F : FnOk X.prog X.w X.K X.mg X.base CX0 k fi fd ["self", prm] (spInitP P C fld)) (hr : Room (k + 1) X.A) (hb : Binds X.K fd ["self", prm] []) (hkp : PySem.W.keepIn X.K (.ref C) = true) (hc : X.A.handled = none) (hg : Gl X x) (hm : X.mg x = some (.ref C)) (ha : PAX X fr [e] ta Fl)
  (hdb : (x == ("__debug__" : Str)) = false := by decide) (he : starEach [e] X.env = (false, eval e X.env) :: starEach [] X.env := by rfl) (hpl : (backTo cpos (starEach [] X.env)).any (·.1) = false := by rfl) :
  PSX X (.Raise (some (.Call (.Name x p) [e] [] cpos)) none pos) (sRaiseP P X C fld ta) (gUpP pd C fld Fl) := by
 refine ⟨ps_raiseP T (fun ea dx v H2 => ∀ pins σ s, Inv X pins σ H2 s -> X.xe (.ref ea) s) hc (pe_excP T F hr hb hkp hg hm ha.p hdb he hpl) fun pins σ H s ea dx v I _ _ w => w pins σ s I, ?_⟩
 intro O H₀ as σ H ds D o S hf q
 unfold gUpP at hf
 cases h1 : Fl ds with
 | none => rw [h1] at hf; cases hf
 | some l =>
  rw [h1] at hf
  simp only [Option.bind_some] at hf
  split at hf
  . rename_i d
    split at hf
    . rename_i hpd
      cases hf
      refine ha.t O H₀ as σ H ds [d] _ S h1 fun vs H1 e1 r1 => ?_
      obtain ⟨v, rfl, hv⟩ := r1.inv1
      refine ⟨v, rfl, hPd _ _ _ hv hpd, fun ea dx n1 n2 hne => ⟨ea, dx, v, rfl, ?_, upd_same, ?_⟩⟩
      . rw [upd_ne (Ne.symm hne), upd_same]
      . have sm1 : Same H1 (upd (upd H1 ea (.ext (ExcIs ea C (some dx)))) dx (.xd [(fld, v)])) := fun b u z => by
          rw [upd_ne (ne_of_none z n2), upd_ne (ne_of_none z n1)]; exact z
        have sm0 : Same H₀ H1 := S.same.trans e1
        refine q ea _ (sm0.trans sm1) (sm0.free n1) ⟨C, dx, fld, v, d, rfl, TC, T.nof, by rw [upd_ne (Ne.symm hne), upd_same], upd_same, fun z => ?_, hv.same (hid_le fun b u z1 z2 z3 => ⟨fun z => ?_, by simp, sm1 b u z3⟩)⟩
        . obtain ⟨u, z⟩ := S.dom dx z
          rw [sm0.free n2] at z; cases z
        . rcases List.mem_cons.mp z with z | z
          . rw [z, n1] at z3; cases z3
          . exact z1 z
    . cases hf
  . cases hf
end
noncomputable def SmallV (v : V) : Prop := ∃ i : Int, v = .int i /\ i.natAbs.log2 < 1920
noncomputable def smallD : PyData -> Bool
 | .int i => decide (i.natAbs.log2 < 1920)
 | _ => false
theorem small_dt {K : PySem.W.Frag} (H : Hp) (v : V) (d : PyData) (h : Dt K H v d) (e : smallD d = true) : SmallV v := by
 cases h with
 | int i => exact ⟨_, rfl, of_decide_eq_true e⟩
 | _ => cases e
section
variable {X : Cx}
noncomputable def tFmt (i : Nat) : TE := fun σ H Q => ∃ n : Int, σ[i]? = some (some (.int n)) /\ n.natAbs.log2 < 1920 /\ ∀ x : Str, Q (.str x) H
end
section
variable {M : Model} {A : Around} {E : Value -> Shared -> Prop} {nm q nm2 qq2 : Str} {C N C2 N2 : Addr} {bs bm bs2 bm2 : List Value} {hdct hdct2 : Bool} {sn sn2 : List Str} {sub sub2 : List Value} {ab ab2 : Bool} {col col2 : Option Bool} {dd dd2 : Option Addr} {k0 k1 k2 k3 k5 l0 l1 l2 l3 l5 : Option Value} {newId newId2 : String}
theorem excMatches_base {h : Heap} {g : Array GenState} {d : Drawn} {t : Nat} {os : OsState} {e : Addr} {oe : Obj} {Q : Bool -> Shared -> Prop}
  (hC : h.get? C = some (excClassObj nm q C N bs bm hdct sn sub ab col dd k0 k1 k2 k3 k5 newId)) (hB : h.get? C2 = some (excClassObj nm2 qq2 C2 N2 bs2 bm2 hdct2 sn2 sub2 ab2 col2 dd2 l0 l1 l2 l3 l5 newId2)) (he : h.get? e = some oe) (hcls : oe.cls = .ref C) (hbase : bm2.contains (.type "BaseException") = true) (hin : bm.contains (.ref C2) = true)
  (hq : Q true ⟨h, g, d, t, os⟩) : wpAny M A (excMatches (.ref e) (.ref C2)) Q E ⟨h, g, d, t, os⟩ := by
 have hcB : (Value.ref C2 :: bm2).contains (.type "BaseException") = true := by rw [List.contains_cons, hbase, Bool.or_true]
 have hcC : (Value.ref C :: bm).contains (.ref C2) = true := by rw [List.contains_cons, hin, Bool.or_true]
 have f := tc_notTuple
 unfold excMatches
 repeat (first | (with_reducible refine wpAny_loadPart_at he ?_; rw [hcls]) | with_reducible refine wpAny_loadPart_at hB ?_ | (with_reducible refine wpAny_isSubtype_exc hB ?_; rw [hcB]) | (with_reducible refine wpAny_isSubtype_exc hC ?_; rw [hcC]) | wp_step)
 exact hq
end
section
variable {X : Cx} {C CS fi : Addr} {fld : Str} {pins : List (Addr × Obj)} {σ : St} {H : Hp} {s s' : Shared} {E : XK} {D : Ends} {cn n : Str} {p3 p4 : Pos} {b₀ : Stmt} {suite : List Stmt} {tb : TS} {j : Nat} {e : Value}
theorem caughtB (hB : ∃ (nm qn : Str) (N : Addr) (bs tl : List Value) (hd : Bool) (sn : List Str) (sub : List Value) (ab : Bool) (col : Option Bool) (dd : Option Addr) (k0 k1 k2 k3 k5 : Option Value) (nid : String), X.K.lookup CS = some (excClassObj nm qn CS N bs tl hd sn sub ab col dd k0 k1 k2 k3 k5 nid) /\ tl.contains (.type "BaseException") = true) (hst : X.stack = X.env :: X.outer /\ X.env.frame = some X.env.locals) (T : ExcK X.K C CS fi fld) (hgc : Gl X cn) (hmc : X.mg cn = some (.ref CS)) (hN : X.N.Nodup) (hj : X.N[j]? = some n) (hn : X.env.scope.names.lookup n = some .local)
  (hs : ∀ ea, PSs (X.marked ea) (b₀ :: suite) tb) (I0 : Inv X pins σ H s) (hq : CX1 X.prog X.w X.stack H s E e s')
  (hE : ∀ ev H', E ev none H' -> ∃ ea dx, ev = .ref ea /\ H' ea = some (.ext (ExcAt ea C dx)) /\ tb (dHand j D) (σ.set j (some (.ref ea))) H') (hdb : (cn == ("__debug__" : Str)) = false := by decide) :
  wpAny (model X.prog X.w) X.A (noteFrame e X.env) (fun _ s₂ => wpAny (model X.prog X.w) X.A (setFlight e none) (fun _ s₃ => wpAny (model X.prog X.w) X.A (handleBy e X.env [.ExceptHandler (some (.Name cn p3)) (some n) (b₀ :: suite) p4]) (SP X pins D) X.xe s₃) X.xe s₂) X.xe s' := by
 obtain ⟨ea, T1, C', dx, H', rfl, os, bare, un, hok, fl, h1, hT, hsz, hw⟩ := hq
 obtain ⟨ea', dx', ev, h2, ht⟩ := hE _ _ hw
 cases ev
 have I1 : Inv X pins σ H' s' := I0.call' (ch := []) os un hok bare fun b z => absurd z (by simp)
 have eC : C' = C := by
  obtain ⟨vs, q1⟩ := fl.at
  obtain ⟨vs', q2⟩ := (I1.hok ea _ h2).1
  rw [q1] at q2
  injection q2 with q2
  injection q2 with q2
  injection q2
 subst eC
 have hl := I1.stack
 have hfr := I1.ok.frames
 rw [hst.1] at hl hfr
 refine note_next hfr hl hst.2 fl fun h' T' hT' k1 k2 fl2 => ?_
 have a1 := I0.above hsz
 have I2 := I1.flew (h' := h') (ch := [T1]) (C := C') (dx := dx) h1 ⟨fun _ z => (by cases z), fun _ z => (by cases z), fun _ _ z => (by cases z), fun _ z => (by cases z)⟩ (fun b hb => by rw [List.mem_singleton.mp hb]; exact hT) (fun b hb => by rw [List.mem_singleton.mp hb]; exact a1)
  (fun b o hb hc hnf q => k1 b o hb (fun z => hc (by simp [z])) (by rw [<- hst.1]; exact hnf) q) (fun b o hb q => k2 b o (by rw [<- hst.1]; exact hb) q) fl2.at
 have e0 : upd H' ea (.ext (ExcAt ea C' dx)) = H' := by
  funext b
  by_cases hb : b = ea
  . subst hb; rw [upd_same, h1]
  . rw [upd_ne hb]
 rw [e0] at I2
 have I3 := I2.marked ea
 obtain ⟨nm, qn, N, bs, sn, sub, ab, col, dd, c0, c1, c2, c3, c5, hC, _, _⟩ := T.cls
 obtain ⟨nm', qn', N', bs', tl', hd', sn', sub', ab', col', dd', d0, d1, d2, d3, d5, nid', hCB, htl⟩ := hB
 refine wpAny_handleBy_cons (codeAny_handlers_test (show wpAny (model (X.marked ea).prog (X.marked ea).w) (X.marked ea).A (eval (.Name cn p3) (X.marked ea).env) _ _ _ from ld_glob I3 hgc hmc ?_ hdb)) (by intro q; cases q)
 obtain ⟨vs, q1⟩ := fl2.at
 refine excMatches_base (I2.kIn _ _ hC) (I2.kIn _ _ hCB) q1 rfl htl (by simp) ?_
 refine codeAny_handlers_suite_as ?_
 obtain ⟨us, oT, ts, g1, g2, g3, g4, g5, g6⟩ := fl2
 refine wpAny_setFlight_none g1 rfl g2 g4 g5 (Array.getElem?_eq_some_iff.mp g6).1 ?_
 have a2 := I1.above hT'
 have nT' : H' T' = none := I1.hok.fresh hT'
 have I4 := I3.turned (h' := h'.update T' (Obj.mapFields (·.setIfInBounds 3 .none))) (t' := s'.toks) (it := T') (fun b o hb q => by rw [Heap.get?_update_other _ _ (Ne.symm hb)]; exact q) nT' a2.2.1 (.inr a2.1) a2.2.2.1 a2.2.2.2
 refine store_ok (X := X.marked ea) I4 hN hj (.inl hn) (v := .ref ea) (u := .ref ea) rfl (fun s5 I5 => ?_) (.inr hn)
 refine wpAny_mono (hs ea pins s5 _ H' (dHand j D) I5 ht) (fun f s6 q => ?_) fun _ _ z => False.elim z
 have fin : ∀ {σ' : St} {H3 : Hp} {Q : Unit -> Shared -> Prop}, Inv (X.marked ea) pins σ' H3 s6 -> (∀ s7, Inv X pins (σ'.set j none) H3 s7 -> Q () s7) -> wpAny (model X.prog X.w) X.A (do bindName X.env n .none; unbindBehindTheSuite X.env n p4) Q X.xe s6 :=
  fun {σ' H3 Q} J k => goes_ok (J.unmarked I0.ok) hN hj hn k
 cases f with
 | next => obtain ⟨σ', H3, J, q⟩ := q; exact fin J fun s7 J7 => ⟨_, H3, J7, q⟩
 | brk => obtain ⟨σ', H3, J, q⟩ := q; exact fin J fun s7 J7 => ⟨_, H3, J7, q⟩
 | cont => obtain ⟨σ', H3, J, q⟩ := q; exact fin J fun s7 J7 => ⟨_, H3, J7, q⟩
 | ret u => obtain ⟨v, σ', H3, J, r, q⟩ := q; exact fin J fun s7 J7 => ⟨v, _, H3, J7, r, q⟩
end
section
variable {X : Cx} {C CS fi f : Addr} {fld x y cn n : Str} {fd : FuncData} {ps : List Str} {sp : Sp} {k i j : Nat} {e : Expr} {es : List Expr} {t : TA} {tb : TS} {p p1 p2 p3 p4 p5 pos : Pos} {b₀ : Stmt} {suite : List Stmt}
end
noncomputable def gTryE (C : Addr) (j : Nat) (FX : List PyData -> Option (PV ⊕ PyData)) (Fl : Ds -> Option (List PyData)) (Gb : Ds -> Option Out) : Ds -> Option Out := fun ds => (Fl ds).bind fun l => (FX l).bind fun a => match a with
 | .inl _ => some (.next ds)
 | .inr x => if isExc C x = true then (Gb (ds.set j (some (.dat x)))).bind (unOut j) else none
section
variable {X : Cx} {C CS fi f : Addr} {fld x y cn n : Str} {fd : FuncData} {ps : List Str} {FX : List PyData -> Option (PV ⊕ PyData)} {k i j : Nat} {e : Expr} {es : List Expr} {t : TA} {tb : TS} {Fl : Ds -> Option (List PyData)} {Gb : Ds -> Option Out} {p p1 p2 p3 p4 p5 pos : Pos} {b₀ : Stmt} {suite : List Stmt}
end
end L2
namespace L2
open PySem PySem.Spec PyProof.Rows
section
variable {X : Cx} {fr : Bool} {x : Str} {p pos tpos : Pos} {e : Expr} {te : TE} {F : Ds -> Option PV}
end
end L2
namespace L2
open PySem PySem.Spec PyProof.Rows
section
variable {X : Cx}
theorem pe_fmt3 {a b : Str} {j j2 : Nat} {v : Expr} {p1 p2 p3 pos : Pos} (i : Nat) (hv : PE X v (tVar i)) (ha : a.length <= 1000) (hb : b.length <= 1000) : PE X (.JoinedStr [.Constant (.str a) j p1, .FormattedValue v (-1) none p2, .Constant (.str b) j2 p3] pos) (tFmt i) := by
 intro pins s σ H Q I h
 obtain ⟨n, hn, hs, q⟩ := h
 refine JoinedStr_many (joinParts_cons ?_)
 refine Calls.Constant_str ⟨?_, joinParts_cons ?_⟩
 . show (Str.empty ++ a).length <= sizeLine
   rw [strLen_append, sizeLine_eq]
   show 0 + a.length <= _
   omega
 . refine FormattedValue_plain (thn (hv pins _ σ H (fun x H1 => x = .int n /\ H1 = H) (I.tok _) ⟨_, hn, rfl, rfl⟩) fun u s1 ⟨x, H1, I1, r1, q1⟩ => ?_)
   obtain ⟨rfl, rfl⟩ := q1
   obtain ⟨t, rfl⟩ := r1
   have L : (Str.empty ++ a ++ Str.ofString (toString n)).length <= 10000 := by
    have e := int_text_length_le (k := 1920) (by decide) hs
    rw [strLen_append, strLen_append, PySem.ofString_length]
    have z : Str.empty.length = 0 := rfl
    omega
   have L2 : (Str.empty ++ a ++ Str.ofString (toString n) ++ b).length <= sizeLine := by
    rw [strLen_append, sizeLine_eq]
    omega
   refine formatField_int_small hs ⟨by rw [sizeLine_eq]; omega, joinParts_cons ?_⟩
   exact Calls.Constant_str ⟨L2, joinParts_nil ⟨.str _, H1, ((I1.tok _).tok _).tok _, ⟨_, rfl⟩, q _⟩ L2⟩
theorem px_fldK {K' : PySem.W.Frag} {fr : Bool} {e : Expr} {te : TE} {F : Ds -> Option PV} {fld : Str} {pos : Pos} (eK : X.K = K') (he : PX X fr e te F) (hb : attributeBase e fld X.env (eval e X.env) = eval e X.env := by rfl) : PX X fr (.Attribute e fld pos) (tExF K' fld te) (fFld fld F) := by
 subst eK
 exact px_fld he hb
end
end L2
namespace L2
open PySem PySem.Spec PyProof.Rows
section
variable {X : Cx}
theorem mt_starts : MtR X "str.startswith" (fun x xs H Q => ∃ z y, x = .str z /\ xs = [.str y] /\ Q (.bl (Txt.startswith z y)) H) := by
 intro pins s σ H x xs v us Q I rx rxs h
 obtain ⟨z, y, rfl, rfl, q⟩ := h
 obtain ⟨t, rfl⟩ := rx
 obtain ⟨u, rfl, t2, rfl⟩ := vals1 rxs
 exact SC.startswith ⟨.bl _, H, I, rfl, q⟩
theorem mt_zfill : MtR X "str.zfill" (fun x xs H Q => ∃ z i, x = .str z /\ xs = [.int i] /\ PadOk i = true /\ Q (.str (Txt.zfill z i)) H) := by
 intro pins s σ H x xs v us Q I rx rxs h
 obtain ⟨z, i, rfl, rfl, hp, q⟩ := h
 obtain ⟨t, rfl⟩ := rx
 obtain ⟨u, rfl, t2, rfl⟩ := vals1 rxs
 exact SC.zfill hp fun t' k => ⟨.str _, H, I.tok k, ⟨t', rfl⟩, q⟩
noncomputable def cutAtD (x y : Str) : List Str := match Builtin.Str.occurrences x y 0 x.length 1 with
 | i :: _ => [Builtin.Str.strSub x 0 i, y, Builtin.Str.strSub x (i + y.length) x.length]
 | [] => [x, Str.empty, Str.empty]
theorem mt_part : MtR X "str.partition" (fun x xs H Q => ∃ z y, x = .str z /\ xs = [.str y] /\ (y.length == 0) = false /\ z.length <= sizeLine /\ ∀ p, H p = none -> Q (.ref p) (upd H p (.tup ((cutAtD z y).map V.str)))) := by
 intro pins s σ H x xs v us Q I rx rxs h
 obtain ⟨z, y, rfl, rfl, hy, hz, q⟩ := h
 obtain ⟨t, rfl⟩ := rx
 obtain ⟨u, rfl, t2, rfl⟩ := vals1 rxs
 refine call_meets F.slot_str_partition (typeIs_str _ _ _) F.entry_str_partition (F.args_str_partition_2 _ _) (meets_str_partition z y t t2 hy hz) ?_
 have hf : H s.heap.objs.size = none := I.hok.fresh (Nat.le_refl _)
 have q' := q _ hf
 unfold cutAtD at q'
 cases ho : Builtin.Str.occurrences z y 0 z.length 1 with
 | nil =>
  rw [ho] at q'
  refine ⟨.ref s.heap.objs.size, _, I.laid (t' := s.toks + 1) (o := .tup [.str z, .str Str.empty, .str Str.empty]) (fun b ob q => Heap.get?_push_of_some _ q) (Nat.le_refl _) ?_, rfl, q'⟩
  exact ⟨(show 3 <= sizeLine by decide), _, .cons ⟨t, rfl⟩ (.cons ⟨_, rfl⟩ (.cons ⟨_, rfl⟩ .nil)), IsTup.new _ _⟩
 | cons i r =>
  rw [ho] at q'
  refine ⟨.ref s.heap.objs.size, _, I.laid (t' := s.toks + 1 + 1) (o := .tup [.str (Builtin.Str.strSub z 0 i), .str y, .str (Builtin.Str.strSub z (i + y.length) z.length)]) (fun b ob q => Heap.get?_push_of_some _ q) (Nat.le_refl _) ?_, rfl, q'⟩
  exact ⟨(show 3 <= sizeLine by decide), _, .cons ⟨_, rfl⟩ (.cons ⟨_, rfl⟩ (.cons ⟨_, rfl⟩ .nil)), IsTup.new _ _⟩
theorem vals_strs : ∀ {ts : List Str} {us : List Value}, Vals (ts.map V.str) us -> ∃ l : List (Str × Tok), us = strValues l /\ l.map (·.1) = ts
 | [], _, h => by cases h; exact ⟨[], rfl, rfl⟩
 | a :: r, _, h => by
  cases h with
  | cons h1 h2 =>
   obtain ⟨t, rfl⟩ := h1
   obtain ⟨l, rfl, e⟩ := vals_strs h2
   exact ⟨(a, t) :: l, rfl, by rw [List.map_cons, e]⟩
theorem mt_join : MtR X "str.join" (fun x xs H Q => ∃ z a ts, x = .str z /\ xs = [.ref a] /\ SqL X.K H a (ts.map V.str) /\ JoinOk z ts = true /\ Q (.str (Txt.join z ts)) H) := by
 intro pins s σ H x xs v us Q I rx rxs h
 obtain ⟨z, a, ts, rfl, rfl, hs, hok, q⟩ := h
 obtain ⟨t, rfl⟩ := rx
 obtain ⟨u, rfl, ru⟩ := vals1 rxs
 cases ru
 obtain ⟨its, r', pl, hz⟩ := I.list hs
 obtain ⟨l, e, hl⟩ := vals_strs r'
 have pl' := pl.isList
 rw [e] at pl'
 exact SC.join (l := l) pl' hl hok fun t' k => ⟨.str _, H, I.tok k, ⟨t', rfl⟩, q⟩
noncomputable def MNX (K : PySem.W.Frag) (r : V -> List V -> Hp -> VK -> Prop) (f : PyData -> List PyData -> Option PV) : Prop :=
 ∀ (O : List Addr) (va : As) (H : Hp) (z : Str) (xs : List V) (ds : List PyData) (pv : PV) (Q : VK), Dom H va O -> Dts K (hid H va O) xs ds -> f (.str z) ds = some pv -> (∀ w H', Same H H' -> RX K O va H H' w pv -> Q w H') -> r (.str z) xs H Q
variable {fr : Bool} {o e : Expr} {es : List Expr} {to : TE} {t : TA} {Fo : Ds -> Option PV} {Fl : Ds -> Option (List PyData)} {apos cpos : Pos} {name : Str} {id : String} {r : V -> List V -> Hp -> VK -> Prop} {f : PyData -> List PyData -> Option PV}
theorem px_sm (slot : Slot "str" name id) (hty : typeOf (.builtin id) = pure (.type "method_descriptor")) (hm : MtR X id r) (hr : MNX X.K r f) (hs0 : ∀ d l pv, f d l = some pv -> ∃ z, d = .str z) (ho : PX X fr o to Fo) (ha : PAX X fr (e :: es) t Fl)
  (hbase : attributeBase o name X.env (eval o X.env) = eval o X.env := by rfl)
  (hfew : ((backTo cpos (starEach (e :: es) X.env)).all (fun x => !x.1) && (backToKw cpos (keywordEach [] X.env)).all (fun x => x.1.isSome)
   && decide ((e :: es).length + ([] : List Keyword).length + (if ([] : List Keyword).isEmpty then 0 else 1) < 30)) = true := by rfl)
  (hline : (apos.endLine == cpos.line) = true := by rfl) (hs : starEach (e :: es) X.env = (false, eval e X.env) :: starEach es X.env := by rfl) (hplain : (backTo cpos (starEach es X.env)).any (·.1) = false := by rfl) :
  PX X fr (.Call (.Attribute o name apos) (e :: es) [] cpos) (tBM X.K "str" r to t) (fMeth f Fo Fl) :=
 ⟨pe_bm F.plainAttrs_str slot hty hm ho.p ha.p hbase hfew hline hs hplain, by
 intro O H₀ as σ H ds pv Q S hf q
 unfold fMeth at hf
 cases h1 : Fo ds with
 | none => rw [h1] at hf; cases hf
 | some x =>
  cases h2 : Fl ds with
  | none => rw [h1, h2] at hf; cases hf
  | some l =>
   rw [h1, h2] at hf
   simp only [Option.bind_some] at hf
   refine ho.t O H₀ as σ H ds x _ S h1 fun v H1 e1 r1 => ?_
   have d1 := r1.dt S.dm
   obtain ⟨z, ez⟩ := hs0 _ _ _ hf
   rw [ez] at hf d1
   cases d1
   refine ⟨rfl, ha.t O H₀ as σ H1 ds l _ (S.grow e1) h2 fun vs H2 e2 r2 => ?_⟩
   exact hr O (vis fr as) H2 z vs l pv Q ((S.grow e1).grow e2).dm r2 hf fun w H3 e3 r3 => q w H3 ((e1.trans e2).trans e3) (r3.back (e1.trans e2))⟩
noncomputable def startsD : PyData -> List PyData -> Option PV
 | .str z, [.str y] => some (.dat (.bool (Txt.startswith z y)))
 | _, _ => none
noncomputable def findD : PyData -> List PyData -> Option PV
 | .str z, [.str y] => some (.dat (.int (Txt.find z y)))
 | _, _ => none
noncomputable def zfillD : PyData -> List PyData -> Option PV
 | .str z, [.int i] => if PadOk i = true then some (.dat (.str (Txt.zfill z i))) else none
 | _, _ => none
noncomputable def partD : PyData -> List PyData -> Option PV
 | .str z, [.str y] => if (y.length == 0) = false /\ z.length <= 1000000 then some (.dat (.tuple ((cutAtD z y).map .str))) else none
 | _, _ => none
noncomputable def strsOf : List PyData -> Option (List Str)
 | [] => some []
 | .str z :: r => (strsOf r).bind fun l => some (z :: l)
 | _ => none
noncomputable def joinD : PyData -> List PyData -> Option PV
 | .str z, [.list l] => (strsOf l).bind fun ts => if JoinOk z ts = true then some (.dat (.str (Txt.join z ts))) else none
 | _, _ => none
theorem startsD_str {d : PyData} {l : List PyData} {pv : PV} (h : startsD d l = some pv) : ∃ z, d = .str z := by
 unfold startsD at h
 split at h
 . exact ⟨_, rfl⟩
 . cases h
theorem zfillD_str {d : PyData} {l : List PyData} {pv : PV} (h : zfillD d l = some pv) : ∃ z, d = .str z := by
 unfold zfillD at h
 split at h
 . exact ⟨_, rfl⟩
 . cases h
theorem partD_str {d : PyData} {l : List PyData} {pv : PV} (h : partD d l = some pv) : ∃ z, d = .str z := by
 unfold partD at h
 split at h
 . exact ⟨_, rfl⟩
 . cases h
theorem joinD_str {d : PyData} {l : List PyData} {pv : PV} (h : joinD d l = some pv) : ∃ z, d = .str z := by
 unfold joinD at h
 split at h
 . exact ⟨_, rfl⟩
 . cases h
theorem x_starts {K : PySem.W.Frag} : MNX K (fun x xs H Q => ∃ z y, x = .str z /\ xs = [.str y] /\ Q (.bl (Txt.startswith z y)) H) startsD := by
 intro O va H z xs ds pv Q D hx hf q
 unfold startsD at hf
 split at hf
 . rename_i z' y e
   cases e
   cases hf
   obtain ⟨x, rfl, h⟩ := hx.inv1
   cases h
   exact ⟨z, y, rfl, rfl, q _ H (Same.refl H) (Dt.bl _)⟩
 . cases hf
theorem x_zfill {K : PySem.W.Frag} : MNX K (fun x xs H Q => ∃ z i, x = .str z /\ xs = [.int i] /\ PadOk i = true /\ Q (.str (Txt.zfill z i)) H) zfillD := by
 intro O va H z xs ds pv Q D hx hf q
 unfold zfillD at hf
 split at hf
 . rename_i z' i e
   cases e
   split at hf
   . rename_i hp
     cases hf
     obtain ⟨x, rfl, h⟩ := hx.inv1
     cases h
     exact ⟨z, i, rfl, rfl, hp, q _ H (Same.refl H) (Dt.str _)⟩
   . cases hf
 . cases hf
theorem dts_strs {K : PySem.W.Frag} {H : Hp} : ∀ l : List Str, Dts K H (l.map V.str) (l.map .str)
 | [] => .nil
 | a :: r => .cons (.str a) (dts_strs r)
theorem x_part {K : PySem.W.Frag} : MNX K (fun x xs H Q => ∃ z y, x = .str z /\ xs = [.str y] /\ (y.length == 0) = false /\ z.length <= sizeLine /\ ∀ p, H p = none -> Q (.ref p) (upd H p (.tup ((cutAtD z y).map V.str)))) partD := by
 intro O va H z xs ds pv Q D hx hf q
 unfold partD at hf
 split at hf
 . rename_i z' y e
   cases e
   split at hf
   . rename_i hp
     cases hf
     obtain ⟨x, rfl, h⟩ := hx.inv1
     cases h
     exact ⟨z, y, rfl, rfl, hp.1, Nat.le_trans hp.2 (by decide), fun p hp => q _ _ (Same.new hp) (rx_tup D hp (dts_strs _))⟩
   . cases hf
 . cases hf
theorem Dts.strs {K : PySem.W.Frag} {H : Hp} : ∀ {l : List PyData} {xs : List V} {ts : List Str}, Dts K H xs l -> strsOf l = some ts -> xs = ts.map V.str
 | [], _, _, .nil, e => by cases e; rfl
 | d :: r, _, ts, .cons (x := x) h t, e => by
  cases h with
  | str z =>
   have e' : ((strsOf r).bind fun l => some (z :: l)) = some ts := e
   cases h2 : strsOf r with
   | none => rw [h2] at e'; cases e'
   | some js =>
    rw [h2] at e'
    cases e'
    rw [t.strs h2]
    rfl
  | _ => cases e
theorem x_join {K : PySem.W.Frag} : MNX K (fun x xs H Q => ∃ z a ts, x = .str z /\ xs = [.ref a] /\ SqL K H a (ts.map V.str) /\ JoinOk z ts = true /\ Q (.str (Txt.join z ts)) H) joinD := by
 intro O va H z xs ds pv Q D hx hf q
 unfold joinD at hf
 split at hf
 . rename_i z' l e
   cases e
   cases h1 : strsOf l with
   | none => rw [h1] at hf; cases hf
   | some ts =>
    rw [h1] at hf
    simp only [Option.bind_some] at hf
    split at hf
    . rename_i hp
      cases hf
      obtain ⟨x, rfl, h⟩ := hx.inv1
      cases h with
      | lst hs ht =>
       have ex := ht.strs h1
       subst ex
       exact ⟨z, _, ts, rfl, rfl, hid_all.seq hs, hp, q _ H (Same.refl H) (Dt.str _)⟩
    . cases hf
 . cases hf
end
end L2
namespace L2
open PySem PySem.Spec PyProof.Rows
noncomputable def Its (x : Str) : It := ⟨fun i _ => i < x.cps.size, fun i H v H' => H' = H /\ ∃ c, x.cps[i]? = some c /\ v = .str ⟨#[c]⟩, fun i _ => x.cps.size <= i⟩
theorem turn_str {P : Program} {w : World} {K : PySem.W.Frag} {tg : Expr} (x : Str) (t : Tok) (it : Addr) : Turn P w K tg (Its x) [it] it (fun i h => h.IsStrIter it (strIterType x) x t i) where
 mem := by simp
 obj := fun i h st b hb => by
  have e : b = it := by simpa using hb
  subst e
  obtain ⟨o, e, c, d⟩ := st
  exact ⟨o, e, fun v z => by rw [d] at z; cases z⟩
 keep := fun i h h' st k => by
  obtain ⟨o, e, r⟩ := st
  exact ⟨o, k it (by simp) o e, r⟩
 item := by
  intro X hP hw hK hc i pins s σ H E I hf st hg
  subst hP hw hK
  obtain ⟨f0, f1, f2, f3, f4, f5⟩ := hf it (by simp)
  have hg' : i < x.cps.size := hg
  have hx : x.cps[i]? = some x.cps[i] := Array.getElem?_eq_getElem hg'
  have fin : ∀ h', h'.IsStrIter it (strIterType x) x t (i + 1) -> Heap.SameBut it s.heap h' -> ∃ u, some (Value.str ⟨#[x.cps[i]]⟩ s.toks) = some u /\ wpAny (model X.prog X.w) X.A (letOwnedTupleGo tg (.ref it) u) (fun _ s2 => ∃ y H', Inv X pins σ H' s2 /\ RelV y u /\ (Its x).yld i H y H' /\ s2.heap.IsStrIter it (strIterType x) x t (i + 1) /\ ∀ b ∈ [it], H' b = none) E { s with heap := h', toks := s.toks + 1 } := fun h' st' sb => by
   have I1 : Inv X pins σ H { s with heap := h', toks := s.toks + 1 } := I.turned (fun b o hb e => (sb.2 b hb).trans e) f0 f1 f3 f4 f5
   obtain ⟨o, e, c, d⟩ := id st'
   refine ⟨_, rfl, go_of (n := strIterType x) (s := { s with heap := h', toks := s.toks + 1 }) e c d (by unfold strIterType; split <;> decide) ⟨.str ⟨#[x.cps[i]]⟩, H, I1, ⟨_, rfl⟩, ⟨rfl, _, hx, rfl⟩, st', fun b hb => (hf b hb).1⟩⟩
  cases ha : x.cps.all (· < 128) with
  | true =>
   have et : strIterType x = "str_ascii_iterator" := by unfold strIterType; rw [if_pos ha]
   rw [et] at st fin
   exact wpAny_pyNext_ascii_item st hx fun h' st' sb => by rw [et]; exact fin h' st' sb
  | false =>
   have et : strIterType x = "str_iterator" := by unfold strIterType; rw [if_neg (by rw [ha]; decide)]
   rw [et] at st fin
   exact wpAny_pyNext_wide_item st hx fun h' st' sb => by rw [et]; exact fin h' st' sb
 done := by
  intro X hP hw hK hc i pins s σ H E I hf st hg
  subst hP hw hK
  obtain ⟨f0, f1, f2, f3, f4, f5⟩ := hf it (by simp)
  have hx : x.cps[i]? = none := Array.getElem?_eq_none hg
  cases ha : x.cps.all (· < 128) with
  | true =>
   have et : strIterType x = "str_ascii_iterator" := by unfold strIterType; rw [if_pos ha]
   rw [et] at st
   exact wpAny_pyNext_ascii_end (I.ok.hd hc) st hx fun h' eb => ⟨rfl, I.turned (t' := s.toks) (fun b o hb e => eb b o hb e) f0 f1 f3 f4 f5⟩
  | false =>
   have et : strIterType x = "str_iterator" := by unfold strIterType; rw [if_neg (by rw [ha]; decide)]
   rw [et] at st
   exact wpAny_pyNext_wide_end (I.ok.hd hc) st hx fun h' eb => ⟨rfl, I.turned (t' := s.toks) (fun b o hb e => eb b o hb e) f0 f1 f3 f4 f5⟩
 self := fun A i s Q E st h => by
  cases ha : x.cps.all (· < 128) with
  | true =>
   have et : strIterType x = "str_ascii_iterator" := by unfold strIterType; rw [if_pos ha]
   rw [et] at st
   exact wpAny_pyIter_striter_ascii st h
  | false =>
   have et : strIterType x = "str_iterator" := by unfold strIterType; rw [if_neg (by rw [ha]; decide)]
   rw [et] at st
   exact wpAny_pyIter_striter_wide st h
section
variable {X : Cx} {fr : Bool} {tg e : Expr} {te : TE} {F : Ds -> Option PV}
noncomputable def signs (z : Str) : List PyData := z.cps.toList.map fun c => .str ⟨#[c]⟩
end
section
variable {X : Cx}
theorem part_of {v : Value} {k : Option Int} (h : IsPart v k) : ∃ l : Option (Int × Tok), v = partValue l /\ l.map (·.1) = k := by
 cases h with
 | none => exact ⟨none, rfl, rfl⟩
 | int i t => exact ⟨some (i, t), rfl, rfl⟩
noncomputable def rSlS : V -> Option Int -> Option Int -> Hp -> VK -> Prop := fun x lo hi H Q => ∃ z, x = .str z /\ z.length <= sizeLine /\ Q (.str (Txt.slice z lo hi)) H
theorem sl_str : SlR X rSlS := by
 intro pins s σ H x v vl vu lo hi sl Q I rx hs pl pu h
 obtain ⟨z, rfl, hz, q⟩ := h
 obtain ⟨t, rfl⟩ := rx
 obtain ⟨l, rfl, el⟩ := part_of pl
 obtain ⟨u, rfl, eu⟩ := part_of pu
 refine ⟨"str", _, F.slot_str_getitem.lookup, typeIs_str _ _ _, ?_⟩
 subst el eu
 exact wpAny_getItem_str_slice (l := l) (u := u) (st := none) hs rfl (post_val_or_str ⟨Nat.le_trans (Txt.slice_le z _ _) hz, fun t' k => ⟨.str _, H, I.tok k, ⟨t', rfl⟩, q⟩⟩)
noncomputable def rSlA (K : PySem.W.Frag) : V -> Option Int -> Option Int -> Hp -> VK -> Prop := fun x lo hi H Q => rSl K x lo hi H Q \/ rSlS x lo hi H Q
theorem sl_any : SlR X (rSlA X.K) := sl_seq.or sl_str
noncomputable def slAD : PyData -> Option Int -> Option Int -> Option PV
 | .str z, lo, hi => if z.length <= 1000000 then some (.dat (.str (Txt.slice z lo hi))) else none
 | d, lo, hi => slD d lo hi
theorem x_slA {K : PySem.W.Frag} : R3X K (rSlA K) slAD := by
 intro O va H x lo hi d pv Q D hx hf q
 unfold slAD at hf
 split at hf
 . split at hf
   . rename_i z hz
     cases hf
     cases hx
     exact .inr ⟨z, rfl, Nat.le_trans hz (by decide), q _ H (Same.refl H) (Dt.str _)⟩
   . cases hf
 . exact .inl (x_sl O va H x lo hi d pv Q D hx hf q)
end
end L2
namespace L2
open PySem PySem.Spec PyProof.Rows
section
variable {X : Cx}
noncomputable def rIntS : List V -> Hp -> VK -> Prop := fun xs H Q => ∃ z n, xs = [.str z] /\ PySem.intText? z = some n /\ z.length <= 640 /\ Q (.int n) H
theorem call_intS : CallR X (.type "int") rIntS := by
 intro pins s σ H xs us Q I r h
 obtain ⟨z, n, rfl, hn, hl, q⟩ := h
 obtain ⟨u, rfl, t, rfl⟩ := vals1 r
 exact PySem.W.KIN.call_text hn hl ⟨.int n, H, I.tok _, ⟨_, rfl⟩, q⟩
noncomputable def intSD : List PyData -> Option PV
 | [.str z] => if z.length <= 640 then (PySem.intText? z).bind fun n => some (.dat (.int n)) else none
 | _ => none
theorem x_intS {K : PySem.W.Frag} : RNX K rIntS intSD := by
 intro O va H xs ds pv Q D hx hf q
 unfold intSD at hf
 split at hf
 . rename_i z
   split at hf
   . rename_i hl
     cases hn : PySem.intText? z with
     | none => rw [hn] at hf; cases hf
     | some n =>
      rw [hn] at hf
      cases hf
      obtain ⟨x, rfl, h⟩ := hx.inv1
      cases h
      exact ⟨z, n, rfl, hn, hl, q _ H (Same.refl H) (Dt.int _)⟩
   . cases hf
 . cases hf
noncomputable def rInS (neg : Bool) : R2 := fun x y H Q => ∃ i j, x = .str i /\ y = .str j /\ Q (.bl (if neg then !Txt.contains j i else Txt.contains j i)) H
theorem op_inS : OpR X (compareOp .In) (rInS false) := fun pins s σ H x y v u Q I rx ry h => op_in_str pins s σ H x y v u Q I rx ry h
theorem op_notInS : OpR X (compareOp .NotIn) (rInS true) := fun pins s σ H x y v u Q I rx ry h => op_notIn_str pins s σ H x y v u Q I rx ry h
noncomputable def inSD : PyData -> PyData -> Option PV
 | .str i, .str j => some (.dat (.bool (Txt.contains j i)))
 | _, _ => none
noncomputable def notInSD : PyData -> PyData -> Option PV
 | .str i, .str j => some (.dat (.bool (!Txt.contains j i)))
 | _, _ => none
theorem x_inS {K : PySem.W.Frag} : R2X K (rInS false) inSD := by
 intro O va H x y d e pv Q D hx hy hf q
 unfold inSD at hf
 split at hf
 . cases hf
   cases hx
   cases hy
   exact ⟨_, _, rfl, rfl, q _ H (Same.refl H) (Dt.bl _)⟩
 . cases hf
theorem x_notInS {K : PySem.W.Frag} : R2X K (rInS true) notInSD := by
 intro O va H x y d e pv Q D hx hy hf q
 unfold notInSD at hf
 split at hf
 . cases hf
   cases hx
   cases hy
   exact ⟨_, _, rfl, rfl, q _ H (Same.refl H) (Dt.bl _)⟩
 . cases hf
end
end L2
namespace L2
open PySem PySem.Spec PyProof.Rows
theorem isNone_str (z : Str) : isNoneD (.str z) = false := rfl
noncomputable def or2 (f g : PyData -> PyData -> Option PV) : PyData -> PyData -> Option PV := fun d e => match f d e with
 | some pv => some pv
 | none => g d e
noncomputable def or1 (f g : List PyData -> Option PV) : List PyData -> Option PV := fun l => match f l with
 | some pv => some pv
 | none => g l
theorem R2X.or {K : PySem.W.Frag} {r r' : R2} {f g : PyData -> PyData -> Option PV} (h : R2X K r f) (h' : R2X K r' g) : R2X K (fun x y H Q => r x y H Q \/ r' x y H Q) (or2 f g) := by
 intro O va H x y d e pv Q D hx hy hf q
 unfold or2 at hf
 split at hf
 . rename_i pv' he
   cases hf
   exact .inl (h O va H x y d e pv Q D hx hy he q)
 . exact .inr (h' O va H x y d e pv Q D hx hy hf q)
theorem RNX.or {K : PySem.W.Frag} {r r' : List V -> Hp -> VK -> Prop} {f g : List PyData -> Option PV} (h : RNX K r f) (h' : RNX K r' g) : RNX K (fun xs H Q => r xs H Q \/ r' xs H Q) (or1 f g) := by
 intro O va H xs ds pv Q D hx hf q
 unfold or1 at hf
 split at hf
 . rename_i pv' he
   cases hf
   exact .inl (h O va H xs ds pv Q D hx he q)
 . exact .inr (h' O va H xs ds pv Q D hx hf q)
noncomputable def rInA (K : PySem.W.Frag) (neg : Bool) : R2 := fun x y H Q => rIn K neg x y H Q \/ rInS neg x y H Q
theorem op_inA {X : Cx} : OpR X (compareOp .In) (rInA X.K false) := op_in_seq.or op_inS
theorem op_notInA {X : Cx} : OpR X (compareOp .NotIn) (rInA X.K true) := op_notIn_seq.or op_notInS
theorem x_inA {K : PySem.W.Frag} : R2X K (rInA K false) (or2 inD inSD) := x_in.or x_inS
theorem x_notInA {K : PySem.W.Frag} : R2X K (rInA K true) (or2 notInD notInSD) := x_notIn.or x_notInS
noncomputable def iAny (K : PySem.W.Frag) (tl : TE) : TI := fun σ H R => tl σ H fun x H1 => (∃ a, x = .ref a /\ (((∃ xs, SqL K H1 a xs) /\ R (Itl K a) H1) \/ ((∃ xs, SqT K H1 a xs) /\ R (Itt K a) H1))) \/ ∃ z, x = .str z /\ R (Its z) H1
section
variable {X : Cx} {fr : Bool} {tg e : Expr} {te : TE} {F : Ds -> Option PV}
theorem pi_any (hl : PE X e te) : PI X tg e (iAny X.K te) := by
 intro pins s σ H R I h
 have hw := hl pins s σ H _ I h
 refine thn hw fun v s1 ⟨y, H1, I1, r1, q1⟩ => ?_
 rcases q1 with q1 | ⟨z, rfl, q⟩
 . obtain ⟨a, rfl, (⟨⟨xs, hq⟩, q⟩ | ⟨⟨xs, hq⟩, q⟩)⟩ := q1
   . cases r1
     obtain ⟨its, rv, p, hz⟩ := I1.list hq
     refine wpAny_pyIter_list p.isList ?_
     refine ⟨s1.heap.objs.size, [s1.heap.objs.size], _, _, H1, rfl, I1.kept (t' := s1.toks) fun b o e => Heap.get?_push_of_some _ e, turn_list a _, ⟨_, Heap.get?_push_size _ rfl, rfl, rfl⟩, fun b hb => ?_, q⟩
     have e : b = s1.heap.objs.size := by simpa using hb
     subst e
     exact I1.fpOk (Nat.le_refl _) (I1.hok.fresh (Nat.le_refl _))
   . cases r1
     obtain ⟨its, rv, p, hz⟩ := I1.tuple hq
     refine wpAny_pyIter_tuple (show s1.heap.IsTuple a its.toArray from p) ?_
     refine ⟨s1.heap.objs.size, [s1.heap.objs.size], _, _, H1, rfl, I1.kept (t' := s1.toks) fun b o e => Heap.get?_push_of_some _ e, turn_tuple a _, ⟨_, Heap.get?_push_size _ rfl, rfl, rfl⟩, fun b hb => ?_, q⟩
     have e : b = s1.heap.objs.size := by simpa using hb
     subst e
     exact I1.fpOk (Nat.le_refl _) (I1.hok.fresh (Nat.le_refl _))
 . obtain ⟨t, rfl⟩ := r1
   refine wpAny_pyIter_strU ?_
   refine ⟨s1.heap.objs.size, [s1.heap.objs.size], _, _, H1, rfl, I1.kept (t' := s1.toks) fun b o e => Heap.get?_push_of_some _ e, turn_str z t _, ⟨_, Heap.get?_push_size _ rfl, rfl, rfl⟩, fun b hb => ?_, q⟩
   have e : b = s1.heap.objs.size := by simpa using hb
   subst e
   exact I1.fpOk (Nat.le_refl _) (I1.hok.fresh (Nat.le_refl _))
noncomputable def walkOf : PyData -> Option (List PyData)
 | .str z => some (signs z)
 | d => seqOf d
noncomputable def iWk (F : Ds -> Option PV) : Ds -> Option (List PyData) := fun ds => (F ds).bind fun pv => walkOf pv.d
theorem pix_any (h : PX X fr e te F) : PIX X fr tg e (iAny X.K te) (iWk F) := ⟨pi_any h.p, by
 intro O H₀ as σ H ds items R S hf q
 unfold iWk at hf
 cases h1 : F ds with
 | none => rw [h1] at hf; cases hf
 | some pv =>
  rw [h1] at hf
  simp only [Option.bind_some] at hf
  by_cases hs : ∃ z, pv.d = .str z
  . obtain ⟨z, ez⟩ := hs
    rw [ez] at hf
    cases hf
    refine h.t O H₀ as σ H ds pv _ S h1 fun v H1 e1 r1 => ?_
    have d := r1.dt S.dm
    rw [ez] at d
    cases d
    have hl : (signs z).length = z.cps.size := by simp [signs]
    refine .inr ⟨z, rfl, q _ H1 e1 fun H' e' i => ?_⟩
    refine ⟨fun hi => (show i < z.cps.size by omega), fun hi => (show z.cps.size <= i by omega), fun x H'' y hi => ?_⟩
    obtain ⟨e3, c, hc, ev⟩ := y
    subst e3 ev
    refine ⟨Same.refl _, .str ⟨#[c]⟩, ?_, fun vb hv _ => .str _⟩
    unfold signs
    rw [List.getElem?_map, Array.getElem?_toList, hc]
    rfl
  . have hf' : seqOf pv.d = some items := by
      revert hf hs
      generalize pv.d = d
      intro hf hs
      cases d <;> first | exact hf | exact absurd ⟨_, rfl⟩ hs
    refine h.t O H₀ as σ H ds pv _ S h1 fun v H1 e1 r1 => .inl ?_
    have d := r1.dt S.dm
    generalize pv.d = z at d hf'
    cases d with
    | lst hs ht =>
     rename_i a xs l
     cases hf'
     have hl := ht.length
     refine ⟨a, rfl, .inl ⟨⟨xs, hid_all.seq hs⟩, q _ H1 e1 fun H' e' i => ?_⟩⟩
     have hs' : SqL X.K H' a xs := e'.seq (hid_O.seq hs)
     refine ⟨fun hi => ⟨xs, xs[i]'(by omega), hs', List.getElem?_eq_getElem _⟩, fun hi => ⟨xs, hs', by omega⟩, fun x H'' y hi => ?_⟩
     obtain ⟨e3, y⟩ := y
     subst e3
     obtain ⟨d, ed, dd⟩ := ht.get' (y xs hs')
     exact ⟨Same.refl _, d, ed, fun vb hv _ => it_seq dd e' (Same.refl _) hv⟩
    | tup hs ht =>
     rename_i a xs l
     cases hf'
     have hl := ht.length
     refine ⟨a, rfl, .inr ⟨⟨xs, hid_all.seqT hs⟩, q _ H1 e1 fun H' e' i => ?_⟩⟩
     have hs' : SqT X.K H' a xs := e'.seqT (hid_O.seqT hs)
     refine ⟨fun hi => ⟨xs, xs[i]'(by omega), hs', List.getElem?_eq_getElem _⟩, fun hi => ⟨xs, hs', by omega⟩, fun x H'' y hi => ?_⟩
     obtain ⟨e3, y⟩ := y
     subst e3
     obtain ⟨d, ed, dd⟩ := ht.get' (y xs hs')
     exact ⟨Same.refl _, d, ed, fun vb hv _ => it_seq dd e' (Same.refl _) hv⟩
    | _ => cases hf'⟩
end
end L2
namespace L2
open PySem PySem.Spec PyProof.Rows PySem.NumText
noncomputable abbrev lz (z : Str) : List Nat := z.cps.toList
theorem str_ext {x y : Str} (h : lz x = lz y) : x = y := by
 obtain ⟨a⟩ := x
 obtain ⟨b⟩ := y
 have : a = b := Array.toList_inj.mp h
 rw [this]
theorem lz_app (x y : Str) : lz (x ++ y) = lz x ++ lz y := by
 show (x.cps ++ y.cps).toList = _
 simp
theorem lz_len (x : Str) : x.length = (lz x).length := by simp [Str.length]
theorem lz_mk (l : List Nat) : lz ⟨l.toArray⟩ = l := by simp
theorem lz_one (c : Nat) : lz ⟨#[c]⟩ = [c] := rfl
noncomputable def numL (n : Nat) : List Nat := (Nat.toDigits 10 n).map Char.toNat
noncomputable def intL (i : Int) : List Nat := if i < 0 then 45 :: numL i.natAbs else numL i.natAbs
theorem lz_nat (n : Nat) : lz (Str.ofString (toString (n : Int))) = numL n := PySem.W.KIN.signs_num n
theorem lz_int (i : Int) : lz (Str.ofString (toString i)) = intL i := by
 unfold intL
 split
 . rename_i h
   obtain ⟨n, rfl⟩ : ∃ n : Nat, i = Int.negSucc n := by
    cases i with
    | ofNat n => exact absurd h (by simp)
    | negSucc n => exact ⟨n, rfl⟩
   rw [show lz (Str.ofString (toString (Int.negSucc n))) = (toString (Int.negSucc n)).toList.map Char.toNat from signs_ofString _]
   have e : toString (Int.negSucc n) = "-" ++ Nat.repr (n + 1) := rfl
   rw [e, String.toList_append, List.map_append, Nat.toList_repr]
   rfl
 . rename_i h
   obtain ⟨n, rfl⟩ := Int.eq_ofNat_of_zero_le (show 0 <= i by omega)
   exact lz_nat n
theorem digit_le {c : Char} (h : c.isDigit = true) : 48 <= c.toNat /\ c.toNat <= 57 := by
 unfold Char.isDigit at h
 rw [Bool.and_eq_true] at h
 have h1 := of_decide_eq_true h.1
 have h2 := of_decide_eq_true h.2
 exact ⟨by simpa using UInt32.le_iff_toNat_le.mp h1, by simpa using UInt32.le_iff_toNat_le.mp h2⟩
theorem numL_digits (n : Nat) : AllDigits (numL n) := by
 intro c hc
 obtain ⟨ch, hch, e⟩ := List.mem_map.mp hc
 rw [<- e]
 exact digit_le (Nat.isDigit_of_mem_toDigits (by decide) (by decide) hch)
theorem numL_val (n : Nat) : digitsVal (numL n) = n := PySem.W.KIN.val_back n
theorem numL_len {n k : Nat} (hk : 0 < k) : (numL n).length <= k ↔ n < 10 ^ k := by
 unfold numL
 rw [List.length_map]
 exact Nat.length_toDigits_le_iff (by decide) hk
theorem numL_ne (n : Nat) : numL n ≠ [] := fun h => by
 have h1 := numL_val n
 rw [h] at h1
 have h2 : n = 0 := h1.symm
 subst h2
 exact absurd h (by decide)
noncomputable def Plain (cs : List Nat) : Prop := AllDigits cs /\ cs ≠ [] /\ (cs.head? ≠ some 48 \/ cs = [48])
theorem toNat_ofNat {c : Nat} (h : 48 <= c /\ c <= 57) : (Char.ofNat c).toNat = c := by
 have : ∀ c : Fin 58, 48 <= c.1 -> (Char.ofNat c.1).toNat = c.1 := by decide
 exact this ⟨c, by omega⟩ h.1
theorem numL_of {cs : List Nat} (h : Plain cs) : numL (digitsVal cs) = cs := by
 obtain ⟨hd, hne, hz⟩ := h
 unfold numL
 rw [toDigits_all cs hd]
 have back : ∀ l : List Nat, AllDigits l -> (l.map Char.ofNat).map Char.toNat = l := fun l hl => by
  rw [List.map_map]
  conv => rhs; rw [<- List.map_id l]
  exact List.map_congr_left fun c hc => toNat_ofNat (hl c hc)
 cases cs with
 | nil => exact absurd rfl hne
 | cons c r =>
  rcases hz with hz | hz
  . have hc : (c == 48) = false := by
      simp only [List.head?_cons, ne_eq, Option.some.injEq] at hz
      simpa using hz
    rw [List.dropWhile_cons, hc]
    exact back _ hd
  . rw [hz]; rfl
theorem numL_plain (n : Nat) : Plain (numL n) := by
 refine ⟨numL_digits n, numL_ne n, ?_⟩
 by_cases h0 : n = 0
 . subst h0; exact .inr rfl
 . refine .inl fun hz => ?_
   cases e : numL n with
   | nil => exact numL_ne n e
   | cons c r =>
    rw [e] at hz
    have hc : c = 48 := by simpa using hz
    subst hc
    have hv := numL_val n
    have hd := numL_digits n
    rw [e] at hv hd
    have h2 : digitsVal r = n := hv
    have hl := (numL_len (n := n) (k := r.length) (by
     cases r with
     | nil => exact absurd h2.symm (by simpa [digitsVal] using h0)
     | cons _ _ => exact Nat.succ_pos _))
    have hlt : digitsVal r < 10 ^ r.length := by
     have key : ∀ (l : List Nat) (a : Nat), AllDigits l -> l.foldl (fun acc c => acc * 10 + (c - 48)) a < (a + 1) * 10 ^ l.length := by
      intro l
      induction l with
      | nil => intro a _; simp
      | cons d l ih =>
       intro a hl
       have hd := hl.head
       have := ih (a * 10 + (d - 48)) hl.tail
       rw [List.foldl_cons]
       refine Nat.lt_of_lt_of_le this ?_
       rw [List.length_cons, Nat.pow_succ, Nat.mul_comm (10 ^ l.length) 10, <- Nat.mul_assoc]
       exact Nat.mul_le_mul_right _ (by omega)
     have := key r 0 hd.tail
     simpa [digitsVal] using this
    have h3 := hl.mpr (by rw [<- h2]; exact hlt)
    rw [e, List.length_cons] at h3
    omega
end L2
namespace L2
open PySem PySem.Spec PyProof.Rows PySem.NumText PySem.StrLaws
open Builtin.Str (occurrences strSub subAt strSliceIndices)
theorem slice_core (x : Str) {a b : Nat} (hab : a <= b) (hb : b <= x.length) {l u : Option Int} (e : strSliceIndices l u 1 x.length = strSliceIndices (some (a : Int)) (some (b : Int)) 1 x.length) : lz (Txt.slice x l u) = ((lz x).drop a).take (b - a) := by
 unfold Txt.slice
 rw [e]
 split
 . rename_i h
   have hl : (strSliceIndices (some (a : Int)) (some (b : Int)) 1 x.length).length = x.length := by simpa using h
   rw [strSliceIndices_plain hab hb, List.length_map, List.length_range] at hl
   have ha : a = 0 := by omega
   have hb' : b = (lz x).length := by rw [<- lz_len]; omega
   subst ha
   rw [List.drop_zero, Nat.sub_zero, hb', List.take_length]
 . rw [sliced_plain x hab hb, lz_mk]
theorem lz_from (x : Str) (i : Nat) : lz (Txt.slice x (some (i : Int)) none) = (lz x).drop i := by
 have e : strSliceIndices (some (i : Int)) none 1 x.length = strSliceIndices (some ((min i x.length : Nat) : Int)) (some (x.length : Int)) 1 x.length := by
  unfold strSliceIndices
  have h1 : ¬ ((i : Int) < 0) := by omega
  have h2 : ¬ ((x.length : Int) < 0) := by omega
  have h3 : ¬ (((min i x.length : Nat) : Int) < 0) := by omega
  simp only [h1, h2, h3, if_false, show ((1 : Int) > 0) = True from by simp, if_true]
  congr 1
  . omega
  . omega
 rw [slice_core x (Nat.min_le_right _ _) (Nat.le_refl _) e]
 have hl := lz_len x
 rw [List.take_of_length_le (by rw [List.length_drop]; omega)]
 by_cases h : i <= x.length
 . rw [Nat.min_eq_left h]
 . rw [Nat.min_eq_right (by omega), List.drop_of_length_le (by omega), List.drop_of_length_le (by omega)]
theorem lz_to (x : Str) (j : Nat) : lz (Txt.slice x none (some (j : Int))) = (lz x).take j := by
 have e : strSliceIndices none (some (j : Int)) 1 x.length = strSliceIndices (some ((0 : Nat) : Int)) (some ((min j x.length : Nat) : Int)) 1 x.length := by
  unfold strSliceIndices
  have h1 : ¬ ((j : Int) < 0) := by omega
  have h2 : ¬ (((0 : Nat) : Int) < 0) := by omega
  have h3 : ¬ (((min j x.length : Nat) : Int) < 0) := by omega
  simp only [h1, h2, h3, if_false, show ((1 : Int) > 0) = True from by simp, if_true]
  congr 1
  all_goals omega
 rw [slice_core x (Nat.zero_le _) (Nat.min_le_right _ _) e, List.drop_zero, Nat.sub_zero]
 have hl := lz_len x
 by_cases h : j <= x.length
 . rw [Nat.min_eq_left h]
 . rw [Nat.min_eq_right (by omega), List.take_of_length_le (by omega), List.take_of_length_le (by omega)]
theorem starts_one (x : Str) (c : Nat) : Txt.startswith x ⟨#[c]⟩ = decide ((lz x).head? = some c) := by
 have h := subAt_one x c 0
 rw [<- List.head?_eq_getElem?] at h
 unfold Txt.startswith
 by_cases hc : (lz x).head? = some c
 . obtain ⟨h1, h2⟩ := h.mpr hc
   rw [h2, decide_eq_true h1, decide_eq_true hc]
   rfl
 . rw [decide_eq_false hc]
   cases h2 : subAt x ⟨#[c]⟩ 0 with
   | false => rw [Bool.and_false]
   | true =>
    have : ¬ (0 + (⟨#[c]⟩ : Str).length <= x.length) := fun h1 => hc (h.mp ⟨h1, h2⟩)
    rw [decide_eq_false this]
    rfl
theorem occ_stays (s sub : Str) (hi : Nat) : ∀ (l : List Nat) (st : Array Nat × Nat), 1 <= st.fst.size -> (forIn l st (occBody s sub hi 1)).run.fst = st.fst
 | [], st, h => rfl
 | a :: l, st, h => by
  rw [List.forIn_cons]
  unfold occBody
  rw [if_neg (by intro z; have := z.1.1.1; omega)]
  exact occ_stays s sub hi l (st.fst, st.snd) h
theorem occ_first (x : Str) (c : Nat) : ∀ (n a free : Nat), free <= a -> (forIn (List.range' a n) ((#[] : Array Nat), free) (occBody x ⟨#[c]⟩ x.length 1)).run.fst.toList = (((List.range' a n).find? fun i => decide ((lz x)[i]? = some c)).toList)
 | 0, a, free, _ => rfl
 | n + 1, a, free, hf => by
  rw [List.range'_succ, List.forIn_cons, List.find?_cons]
  have h := subAt_one x c a
  by_cases hc : (lz x)[a]? = some c
  . obtain ⟨h1, h2⟩ := h.mpr hc
    have e : occBody x ⟨#[c]⟩ x.length 1 a ((#[] : Array Nat), free) = pure (ForInStep.yield ((#[] : Array Nat).push a, a + (⟨#[c]⟩ : Str).length)) := by
     unfold occBody
     rw [if_pos ⟨⟨⟨by simp, hf⟩, h1⟩, h2⟩]
    rw [e, decide_eq_true hc]
    have := occ_stays x ⟨#[c]⟩ x.length (List.range' (a + 1) n) ((#[] : Array Nat).push a, a + (⟨#[c]⟩ : Str).length) (by simp)
    show (forIn (List.range' (a + 1) n) ((#[] : Array Nat).push a, a + (⟨#[c]⟩ : Str).length) (occBody x ⟨#[c]⟩ x.length 1)).run.fst.toList = _
    rw [this]
    rfl
  . have e : occBody x ⟨#[c]⟩ x.length 1 a ((#[] : Array Nat), free) = pure (ForInStep.yield ((#[] : Array Nat), free)) := by
      unfold occBody
      rw [if_neg (fun z => hc (h.mp ⟨z.1.2, z.2⟩))]
    rw [e, decide_eq_false hc]
    exact occ_first x c n (a + 1) free (by omega)
theorem find_range {cs : List Nat} {c : Nat} : ∀ (n a : Nat), (List.range' a n).find? (fun i => decide (cs[i]? = some c)) = (if c ∈ (cs.drop a).take n then some (a + ((cs.drop a).idxOf c)) else none)
 | 0, a => by simp
 | n + 1, a => by
  rw [List.range'_succ, List.find?_cons]
  cases hd : cs.drop a with
  | nil =>
   have hl : cs.length <= a := List.drop_eq_nil_iff.mp hd
   have h0 : cs[a]? = none := List.getElem?_eq_none hl
   rw [h0, decide_eq_false (by simp), find_range n (a + 1)]
   rw [List.drop_of_length_le (by omega)]
   simp
  | cons d r =>
   have h0 : cs[a]? = some d := by
    have := List.getElem?_drop (xs := cs) (i := a) (j := 0)
    rw [hd] at this
    simpa using this.symm
   have hr : cs.drop (a + 1) = r := by
    have : cs.drop (a + 1) = (cs.drop a).drop 1 := by rw [List.drop_drop]
    rw [this, hd]; rfl
   rw [h0]
   by_cases hc : d = c
   . subst hc
     rw [decide_eq_true rfl]
     simp
   . rw [decide_eq_false (by simpa using hc), find_range n (a + 1), hr]
     have e1 : (c ∈ (d :: r).take (n + 1)) ↔ c ∈ r.take n := by
      rw [List.take_succ_cons, List.mem_cons]
      constructor
      . rintro (z | z)
        . exact absurd z.symm hc
        . exact z
      . exact .inr
     by_cases hm : c ∈ r.take n
     . rw [if_pos hm, if_pos (e1.mpr hm), List.idxOf_cons, beq_eq_false_iff_ne.mpr hc, cond_false]
       show some _ = some _
       congr 1
       omega
     . rw [if_neg hm, if_neg (fun z => hm (e1.mp z))]
theorem occ_one (x : Str) (c : Nat) : occurrences x ⟨#[c]⟩ 0 x.length 1 = if c ∈ lz x then [(lz x).idxOf c] else [] := by
 rw [occ_eq, occ_first x c _ 0 0 (Nat.le_refl _), find_range]
 have hl := lz_len x
 rw [List.drop_zero, List.take_of_length_le (by omega), Nat.zero_add]
 split <;> rfl
theorem lz_sub (x : Str) (i j : Nat) : lz (strSub x i j) = ((lz x).drop i).take (j - i) := by
 show (x.cps.extract i j).toList = _
 rw [Array.toList_extract]
theorem cut_one (x : Str) (c : Nat) : (cutAtD x ⟨#[c]⟩).map lz = if c ∈ lz x then [(lz x).take ((lz x).idxOf c), [c], (lz x).drop ((lz x).idxOf c + 1)] else [lz x, [], []] := by
 unfold cutAtD
 rw [occ_one]
 have hl := lz_len x
 by_cases h : c ∈ lz x
 . rw [if_pos h, if_pos h]
   show [lz (strSub x 0 _), lz ⟨#[c]⟩, lz (strSub x (_ + (⟨#[c]⟩ : Str).length) x.length)] = _
   rw [lz_sub, lz_sub, lz_one, List.drop_zero, Nat.sub_zero]
   have e : (⟨#[c]⟩ : Str).length = 1 := rfl
   rw [e, List.take_of_length_le (l := (lz x).drop _) (by rw [List.length_drop]; omega)]
 . rw [if_neg h, if_neg h]
   rfl
theorem contains_one (x : Str) (c : Nat) : Txt.contains x ⟨#[c]⟩ = decide (c ∈ lz x) := found_one x c
end L2
namespace L2
open PySem PySem.Spec PyProof.Rows
section
variable {X : Cx}
theorem relv_strs : ∀ l : List (Str × Tok), Vals ((l.map (·.1)).map V.str) (strValues l)
 | [] => .nil
 | (a, t) :: r => .cons ⟨t, rfl⟩ (relv_strs r)
theorem split_size (z y : Str) (hz : z.length <= 100000) : (Txt.split z y).length <= 100002 := by
 unfold Txt.split
 split
 . simp
 . split
   . simp
   . have e1 := StrLaws.occ_length_le z y 0 z.length (z.length + 1)
     rw [length_partsBetween]; omega
theorem mt_split : MtR X "str.split" (fun x xs H Q => ∃ z y, x = .str z /\ xs = [.str y] /\ (y.length == 0) = false /\ z.length <= 100000 /\ ∀ p, H p = none -> Q (.ref p) (upd H p (.lst ((Txt.split z y).map V.str)))) := by
 intro pins s σ H x xs v us Q I rx rxs h
 obtain ⟨z, y, rfl, rfl, hy, hz, q⟩ := h
 obtain ⟨t, rfl⟩ := rx
 obtain ⟨u, rfl, t2, rfl⟩ := vals1 rxs
 have hf : H s.heap.objs.size = none := I.hok.fresh (Nat.le_refl _)
 have q' := q _ hf
 have hs := split_size z y hz
 have hl : 100002 <= sizeLine := by decide
 have fin : ∀ (l : List (Str × Tok)) (k : Nat), l.map (·.1) = Txt.split z y -> EP X pins σ Q (.ref s.heap.objs.size) { s with toks := k, heap := s.heap.push { cls := .type "list", data := .seq (strValues l).toArray } } := fun l k e => by
  rw [<- e] at q' hs
  refine ⟨.ref s.heap.objs.size, _, I.laid (t' := k) (o := .lst ((l.map (·.1)).map V.str)) (fun b ob q => Heap.get?_push_of_some _ q) (Nat.le_refl _) ?_, rfl, q'⟩
  exact ⟨by rw [List.length_map]; omega, _, 0, relv_strs l, Heap.get?_push_size _ rfl⟩
 have hn : (Builtin.Str.partsBetween z (Builtin.Str.occurrences z y 0 z.length (z.length + 1)) y.length).length <= sizeLine := by
  have e1 := StrLaws.occ_length_le z y 0 z.length (z.length + 1)
  rw [length_partsBetween]; omega
 cases h1 : (decide (z.length < y.length) || decide (Builtin.Str.strKind z < Builtin.Str.strKind y))
 . cases hff : (Builtin.Str.occurrences z y 0 z.length (z.length + 1)).isEmpty
   . refine call_meets F.slot_str_split (typeIs_str _ _ _) F.entry_str_split (F.args_str_split_2 _ _) (meets_str_split_sep z y t t2 h1 hy hff (by omega) hn) ?_
     show EP X pins σ Q _ { s with toks := _, heap := s.heap.push { cls := .type "list", data := .seq (strsFrom s.toks (Builtin.Str.partsBetween z (Builtin.Str.occurrences z y 0 z.length (z.length + 1)) y.length)).toArray } }
     rw [strsFrom_eq]
     exact fin (numbered s.toks _) _ ((numbered_texts _ _).trans ((if_neg (ne_true_of_eq_false h1)).trans (if_neg (ne_true_of_eq_false hff))).symm)
   . exact call_meets F.slot_str_split (typeIs_str _ _ _) F.entry_str_split (F.args_str_split_2 _ _) (meets_str_split_not_found z y t t2 h1 hy hff) (fin [(z, t)] s.toks ((if_neg (ne_true_of_eq_false h1)).trans (if_pos hff)).symm)
 . exact call_meets F.slot_str_split (typeIs_str _ _ _) F.entry_str_split (F.args_str_split_2 _ _) (meets_str_split_cannot_occur z y t t2 h1) (fin [(z, t)] s.toks (if_pos h1).symm)
noncomputable def splitD : PyData -> List PyData -> Option PV
 | .str z, [.str y] => if (y.length == 0) = false /\ z.length <= 100000 then some (.own ((Txt.split z y).map .str)) else none
 | _, _ => none
theorem splitD_str {d : PyData} {l : List PyData} {pv : PV} (h : splitD d l = some pv) : ∃ z, d = .str z := by
 unfold splitD at h
 split at h
 . exact ⟨_, rfl⟩
 . cases h
theorem x_split {K : PySem.W.Frag} : MNX K (fun x xs H Q => ∃ z y, x = .str z /\ xs = [.str y] /\ (y.length == 0) = false /\ z.length <= 100000 /\ ∀ p, H p = none -> Q (.ref p) (upd H p (.lst ((Txt.split z y).map V.str)))) splitD := by
 intro O va H z xs ds pv Q D hx hf q
 unfold splitD at hf
 split at hf
 . rename_i z' y e
   cases e
   split at hf
   . rename_i hp
     cases hf
     obtain ⟨x, rfl, h⟩ := hx.inv1
     cases h
     exact ⟨z, y, rfl, rfl, hp.1, hp.2, fun p hp => q _ _ (Same.new hp) (rx_lst hp (dts_strs _))⟩
   . cases hf
 . cases hf
theorem call_str_str : CallR X (.type "str") (fun xs H Q => ∃ z, xs = [.str z] /\ Q (.str z) H) := by
 intro pins s σ H xs us Q I r h
 obtain ⟨z, rfl, q⟩ := h
 obtain ⟨u, rfl, t, rfl⟩ := vals1 r
 exact PySem.P.str_of_str ⟨.str _, H, I, ⟨_, rfl⟩, q⟩
noncomputable def strSD : List PyData -> Option PV
 | [.str z] => some (.dat (.str z))
 | _ => none
theorem x_strS {K : PySem.W.Frag} : RNX K (fun xs H Q => ∃ z, xs = [.str z] /\ Q (.str z) H) strSD := by
 intro O va H xs ds pv Q D hx hf q
 unfold strSD at hf
 split at hf
 . cases hf
   obtain ⟨x, rfl, h⟩ := hx.inv1
   cases h
   exact ⟨_, rfl, q _ H (Same.refl H) (Dt.str _)⟩
 . cases hf
noncomputable def SlR3 (X : Cx) (r : V -> Option Int -> Option Int -> Option Int -> Hp -> VK -> Prop) : Prop :=
 ∀ (pins : List (Addr × Obj)) (s : Shared) (σ : St) (H : Hp) (x : V) (v vl vu vs : Value) (lo hi st : Option Int) (sl : Addr) (Q : VK), Inv X pins σ H s -> RelV x v -> s.heap.IsSliceOf sl vl vu vs -> IsPart vl lo -> IsPart vu hi -> IsPart vs st -> r x lo hi st H Q ->
  ∃ T id, typeLookup (.type T) "__getitem__" = pure (some (.builtin id)) /\ s.TypeIs v T /\ wpAny (model X.prog X.w) X.A (getItem v (.ref sl)) (EP X pins σ Q) X.xe s
noncomputable def tSl3 (r : V -> Option Int -> Option Int -> Option Int -> Hp -> VK -> Prop) (te : TE) (tl th ts : TO) : TE := fun σ H Q => te σ H fun x H1 => tl σ H1 fun l H2 => th σ H2 fun u H3 => ts σ H3 fun k H4 => r x l u k H4 Q
theorem pe_slice3 {e : Expr} {te : TE} {lo hi : Option Expr} {st : Expr} {tl th ts : TO} {pos p2 : Pos} {r : V -> Option Int -> Option Int -> Option Int -> Hp -> VK -> Prop} (hr : SlR3 X r) (he : PE X e te) (hl : PO X lo tl) (hu : PO X hi th) (hst : PO X (some st) ts) : PE X (.Subscript e (.Slice lo hi (some st) p2) pos) (tSl3 r te tl th ts) := by
 intro pins s σ H Q I h
 refine Subscript_ (thn (he pins s σ H _ I h) fun v s1 ⟨x, H1, I1, r1, q1⟩ => ?_)
 refine wpAny_Slice (thn (hl pins s1 σ H1 _ I1 q1) fun vl s2 ⟨l, H2, I2, pl, q2⟩ => thn (hu pins s2 σ H2 _ I2 q2) fun vu s3 ⟨u, H3, I3, pu, q3⟩ => thn (hst pins s3 σ H3 _ I3 q3) fun vs s4 ⟨k, H4, I4, ps, q4⟩ => ?_)
 have I5 : Inv X pins σ H4 { s4 with heap := s4.heap.push { cls := .type "slice", data := .fields #[vl, vu, vs] } } := I4.kept (t' := s4.toks) fun b ob q => Heap.get?_push_of_some _ q
 obtain ⟨T, id, hT, ht, hg⟩ := hr pins { s4 with heap := s4.heap.push { cls := .type "slice", data := .fields #[vl, vu, vs] } } σ H4 x v vl vu vs l u k s4.heap.objs.size Q I5 r1 (Heap.IsSliceOf.new ..) pl pu ps q4
 show wpAny (model X.prog X.w) X.A (subscriptTail e (.Slice lo hi (some st) p2) v (.ref s4.heap.objs.size)) (EP X pins σ Q) X.xe { s4 with heap := s4.heap.push { cls := .type "slice", data := .fields #[vl, vu, vs] } }
 exact tail_any (ops := [v, .ref s4.heap.objs.size]) ht hT hg (by with_unfolding_all rfl)
theorem pick6a {a b c d e f : Value} : slicePick #[a, b, c, d, e, f] (some 0) none (some 2) = #[a, c, e] := by with_unfolding_all rfl
theorem pick6b {a b c d e f : Value} : slicePick #[a, b, c, d, e, f] (some 1) none (some 2) = #[b, d, f] := by with_unfolding_all rfl
noncomputable def six {α : Type} : List α -> Option Int -> Option Int -> Option Int -> Option (List α)
 | [a, b, c, d, e, f], some lo, none, some 2 => if lo = 0 then some [a, c, e] else if lo = 1 then some [b, d, f] else none
 | _, _, _, _ => none
noncomputable def rSl6 (K : PySem.W.Frag) : V -> Option Int -> Option Int -> Option Int -> Hp -> VK -> Prop := fun x lo hi st H Q => ∃ a xs ys, x = .ref a /\ SqL K H a xs /\ six xs lo hi st = some ys /\ ∀ p, H p = none -> Q (.ref p) (upd H p (.lst ys))
theorem sl_six : SlR3 X (rSl6 X.K) := by
 intro pins s σ H x v vl vu vs lo hi st sl Q I rx hs pl pu ps h
 obtain ⟨a, xs, ys, rfl, hx, h6, q⟩ := h
 cases rx
 obtain ⟨its, r, ht, hz⟩ := I.list hx
 refine ⟨"list", _, slot_list_getitem.lookup, ht.isList.typeIs, ?_⟩
 unfold six at h6
 split at h6
 . rename_i A B C D E F lo'
   cases r with | cons r1 r => cases r with | cons r2 r => cases r with | cons r3 r => cases r with | cons r4 r => cases r with | cons r5 r => cases r with | cons r6 r =>
   cases r
   split at h6
   . rename_i e0
     subst e0
     cases h6
     refine wpAny_getItem_list_slice ht.isList hs pl pu ps (by simp) ?_ (show 6 <= sizeLine by decide)
     rw [pick6a]
     refine ⟨.ref s.heap.objs.size, _, I.laid (t' := s.toks) (o := .lst [A, C, E]) (fun b ob q => Heap.get?_push_of_some _ q) (Nat.le_refl _) ?_, rfl, q _ (I.hok.fresh (Nat.le_refl _))⟩
     exact ⟨show 3 <= sizeLine by decide, _, 0, .cons r1 (.cons r3 (.cons r5 .nil)), Heap.get?_push_size _ rfl⟩
   . split at h6
     . rename_i e1
       subst e1
       cases h6
       refine wpAny_getItem_list_slice ht.isList hs pl pu ps (by simp) ?_ (show 6 <= sizeLine by decide)
       rw [pick6b]
       refine ⟨.ref s.heap.objs.size, _, I.laid (t' := s.toks) (o := .lst [B, D, F]) (fun b ob q => Heap.get?_push_of_some _ q) (Nat.le_refl _) ?_, rfl, q _ (I.hok.fresh (Nat.le_refl _))⟩
       exact ⟨show 3 <= sizeLine by decide, _, 0, .cons r2 (.cons r4 (.cons r6 .nil)), Heap.get?_push_size _ rfl⟩
     . cases h6
 . cases h6
noncomputable def six1 : PyData -> Option Int -> Option Int -> Option Int -> Option PV
 | .list l, lo, hi, st => (six l lo hi st).bind fun m => some (.own m)
 | _, _, _, _ => none
theorem six_dts {K : PySem.W.Frag} {H : Hp} {xs : List V} {l m : List PyData} {lo hi st : Option Int} (h : Dts K H xs l) (e : six l lo hi st = some m) : ∃ ys, six xs lo hi st = some ys /\ Dts K H ys m := by
 unfold six at e
 split at e
 . cases h with | cons h1 h => cases h with | cons h2 h => cases h with | cons h3 h => cases h with | cons h4 h => cases h with | cons h5 h => cases h with | cons h6 h =>
   cases h
   unfold six
   split at e
   . rename_i z
     cases e
     exact ⟨_, if_pos z, .cons h1 (.cons h3 (.cons h5 .nil))⟩
   . rename_i z
     split at e
     . rename_i z1
       cases e
       exact ⟨_, (if_neg z).trans (if_pos z1), .cons h2 (.cons h4 (.cons h6 .nil))⟩
     . cases e
 . cases e
noncomputable def R4X (K : PySem.W.Frag) (r : V -> Option Int -> Option Int -> Option Int -> Hp -> VK -> Prop) (f : PyData -> Option Int -> Option Int -> Option Int -> Option PV) : Prop :=
 ∀ (O : List Addr) (va : As) (H : Hp) (x : V) (lo hi st : Option Int) (d : PyData) (pv : PV) (Q : VK), Dom H va O -> Dt K (hid H va O) x d -> f d lo hi st = some pv -> (∀ v H', Same H H' -> RX K O va H H' v pv -> Q v H') -> r x lo hi st H Q
theorem x_six {K : PySem.W.Frag} : R4X K (rSl6 K) six1 := by
 intro O va H x lo hi st d pv Q D hx hf q
 cases hx with
 | lst hs ht =>
  rename_i xs l
  have hf' : ((six l lo hi st).bind fun m => some (PV.own m)) = some pv := hf
  cases h1 : six l lo hi st with
  | none => rw [h1] at hf'; cases hf'
  | some m =>
   rw [h1] at hf'
   cases hf'
   obtain ⟨ys, e, hd⟩ := six_dts ht h1
   exact ⟨_, _, ys, rfl, hid_all.seq hs, e, fun p hp => q _ _ (Same.new hp) (rx_lst hp hd)⟩
 | _ => cases hf
noncomputable def fSl3 (f : PyData -> Option Int -> Option Int -> Option Int -> Option PV) (F : Ds -> Option PV) (Fl Fh Fs : Ds -> Option (Option Int)) : Ds -> Option PV := fun ds => (F ds).bind fun x => (Fl ds).bind fun lo => (Fh ds).bind fun hi => (Fs ds).bind fun st => f x.d lo hi st
theorem px_slice3 {fr : Bool} {e : Expr} {te : TE} {F : Ds -> Option PV} {pos p2 : Pos} {lo hi : Option Expr} {st : Expr} {tl th ts : TO} {Fl Fh Fs : Ds -> Option (Option Int)} (he : PX X fr e te F) (hl : POX X lo tl Fl) (hh : POX X hi th Fh) (hst : POX X (some st) ts Fs) :
  PX X fr (.Subscript e (.Slice lo hi (some st) p2) pos) (tSl3 (rSl6 X.K) te tl th ts) (fSl3 six1 F Fl Fh Fs) := ⟨pe_slice3 sl_six he.p hl.p hh.p hst.p, by
 intro O H₀ as σ H ds pv Q S hf q
 unfold fSl3 at hf
 cases h1 : F ds with
 | none => rw [h1] at hf; cases hf
 | some x =>
  cases h2 : Fl ds with
  | none => rw [h1, h2] at hf; cases hf
  | some l =>
   cases h3 : Fh ds with
   | none => rw [h1, h2, h3] at hf; cases hf
   | some h =>
    cases h4 : Fs ds with
    | none => rw [h1, h2, h3, h4] at hf; cases hf
    | some k =>
     rw [h1, h2, h3, h4] at hf
     simp only [Option.bind_some] at hf
     refine he.t O H₀ as σ H ds x _ S h1 fun v H1 e1 r1 => ?_
     refine hl.t O H₀ as σ H1 ds l _ (S.grow e1) h2 fun H2 e2 => ?_
     refine hh.t O H₀ as σ H2 ds h _ ((S.grow e1).grow e2) h3 fun H3 e3 => ?_
     refine hst.t O H₀ as σ H3 ds k _ (((S.grow e1).grow e2).grow e3) h4 fun H4 e4 => ?_
     refine x_six O (vis fr as) H4 v l h k x.d pv Q ((((S.grow e1).grow e2).grow e3).grow e4).dm ((r1.grow ((e2.trans e3).trans e4)).dt S.dm) hf fun w H5 e5 r5 => ?_
     exact q w H5 ((((e1.trans e2).trans e3).trans e4).trans e5) (r5.back (((e1.trans e2).trans e3).trans e4))⟩
noncomputable def muLen (i : Nat) (ds : Ds) : Nat := match ds[i]? with
 | some (some (.dat (.list l))) => l.length + 1
 | _ => 0
end
end L2
namespace L2
open PySem PySem.Spec PyProof.Rows
section
variable {X : Cx} {CX : CXT} {k i : Nat} {f : Addr} {fd : FuncData} {ps : List Str} {sp : Sp} {E : XK} {x : Str} {p pos : Pos} {e : Expr} {es : List Expr} {t : TA} {fr : Bool} {Fl : Ds -> Option (List PyData)}
noncomputable def fAlt (F1 F2 : Ds -> Option PV) : Ds -> Option PV := fun ds => match F1 ds with
 | some pv => some pv
 | none => F2 ds
end
section
variable {X : Cx} {fr : Bool} {o e : Expr} {es : List Expr} {to : TE} {t : TA} {Fo : Ds -> Option PV} {Fl : Ds -> Option (List PyData)} {apos cpos : Pos} {name : Str} {id : String} {r : V -> List V -> Hp -> VK -> Prop} {f : PyData -> List PyData -> Option PV}
end
end L2
namespace L2
open PySem PySem.Spec PyProof.Rows
section
variable {X : Cx}
end
section
variable {X : Cx} {e k o : Expr} {te tk : TE} {F Fk : Ds -> Option PV} {pos cpos apos : Pos}
end
section
variable {X : Cx}
end
section
variable {X : Cx} {C CS fi f : Addr} {fld x y cn n : Str} {fd : FuncData} {ps : List Str} {sp : Sp} {k i j : Nat} {e : Expr} {es : List Expr} {t : TA} {tb : TS} {p p1 p2 p3 p4 p5 pos : Pos} {b₀ : Stmt} {suite : List Stmt}
end
section
variable {X : Cx} {C CS fi f : Addr} {fld x y cn n : Str} {fd : FuncData} {ps : List Str} {FX : List PyData -> Option (PV ⊕ PyData)} {k i j : Nat} {e : Expr} {es : List Expr} {t : TA} {tb : TS} {Fl : Ds -> Option (List PyData)} {Gb : Ds -> Option Out} {p p1 p2 p3 p4 p5 pos : Pos} {b₀ : Stmt} {suite : List Stmt}
end
end L2
namespace L2
open PySem PySem.Spec PyProof.Rows
section
variable {X : Cx} {o k : Expr} {tk : TE} {pos cpos apos : Pos}
theorem te_pop {i : Nat} {d : PyData} {l : List PyData} {O : List Addr} {H₀ : Hp} {as : As} {σ : St} {H : Hp} {ds : Ds} {Q : VK} (hz : PX X true k tk (fC (.int 0))) (S : DS X.K O H₀ as σ H ds) (hd : ds[i]? = some (some (.own (d :: l)))) (hl : l.length < 1000000)
  (q : ∀ v H', DS X.K O H₀ as σ H' (ds.set i (some (.own l))) -> Dt X.K (hid H' as O) v d -> Q v H') : tBM X.K "list" rPopAt (tVar i) (tCons tk tNil) σ H Q := by
 obtain ⟨a, xs, z1, z2, z3, z4⟩ := S.slot i _ hd
 cases z4 with
 | cons hv ht =>
  rename_i v vs
  refine ⟨_, z1, .inl ⟨rfl, v :: vs, SqL.of z3⟩, ?_⟩
  refine hz.t O H₀ as σ H ds (.dat (.int 0)) _ S rfl fun w H1 s1 r1 => ?_
  have dk := r1.dt S.dm
  cases dk
  have S1 := S.grow s1
  have ht1 := ht.same (hid_same s1)
  have hv1 := hv.same (hid_same s1)
  refine ⟨a, v :: vs, 0, 0, v, rfl, rfl, s1 _ _ z3, by decide, by decide, ?_, rfl, ?_⟩
  . have := ht.length
    exact seqIndex_of (by decide) (by simp)
  . have S2 := S1.turn (xs := v :: vs) (xs' := vs) hd z1 z2 ht1
    have ha := List.mem_of_getElem? z2
    refine q v _ S2 (hv1.same (hid_le fun b u h1 h2 h3 => ⟨h1, h2, ?_⟩))
    rw [upd_ne (fun z => h2 (by rw [z]; exact ha))]
    exact h3
noncomputable def gPop (i j : Nat) : Ds -> Option Out := fun ds => match ds[i]? with
 | some (some (.own (d :: l))) => if l.length < 1000000 then some (.next ((ds.set i (some (.own l))).set j (some (.dat d)))) else none
 | _ => none
theorem psx_pop {i j : Nat} {y : Str} {pos' : Pos} (ho : PE X o (tVar i)) (hz : PX X true k tk (fC (.int 0))) (hN : X.N.Nodup) (hi : X.N[j]? = some y) (hy : Loc X.env.scope y) (hst : starEach [k] X.env = (false, eval k X.env) :: starEach [] X.env := by rfl)
  (hbase : attributeBase o "pop" X.env (eval o X.env) = eval o X.env := by rfl)
  (hfew : ((backTo cpos (starEach [k] X.env)).all (fun x => !x.1) && (backToKw cpos (keywordEach [] X.env)).all (fun x => x.1.isSome)
   && decide ([k].length + ([] : List Keyword).length + (if ([] : List Keyword).isEmpty then 0 else 1) < 30)) = true := by rfl)
  (hline : (apos.endLine == cpos.line) = true := by rfl) (hplain : (backTo cpos (starEach [] X.env)).any (·.1) = false := by rfl)
  (hs : swapsWith (.Call (.Attribute o "pop" apos) [k] [] cpos) (some (.Name y pos')) pos.line X.env = pure false := by rfl) (hf : X.fn y = true \/ X.env.scope.names.lookup y = some .local := by first | exact .inl rfl | exact .inr rfl | assumption) :
  PSX X (.Assign [.Name y pos'] (.Call (.Attribute o "pop" apos) [k] [] cpos) pos) (tAsg (tBM X.K "list" rPopAt (tVar i) (tCons tk tNil)) (gName j)) (gPop i j) :=
 ⟨ps_set hN hi hy (pe_bm PySem.F.plainAttrs_list PySem.F.slot_list_pop PySem.F.type_list_pop mt_popAt ho (pa_cons hz.p pa_nil hst) hbase hfew hline hst hplain) hs hf, by
 intro O H₀ as σ H ds D o S h q
 unfold gPop at h
 split at h
 . rename_i d l hd
   split at h
   . rename_i hl
     cases h
     exact te_pop hz S hd hl fun v H' S' dv => q _ _ _ (S'.set j dv)
   . cases h
 . cases h⟩
end
noncomputable def gIfPop (i : Nat) (F1 : Ds -> Option Bool) (f : List PyData -> Option PV) (F2 : Ds -> Option PV) (G1 G2 : Ds -> Option Out) : Ds -> Option Out := fun ds => (F1 ds).bind fun b1 => if b1 = true then G1 ds else match ds[i]? with
 | some (some (.own (d :: l))) => if l.length < 1000000 then (F2 (ds.set i (some (.own l)))).bind fun v => (f [d, v.d]).bind fun r => (asB r.d).bind fun b => if b = true then G2 (ds.set i (some (.own l))) else G1 (ds.set i (some (.own l))) else none
 | _ => none
section
variable {X : Cx} {o k c1 e2 : Expr} {tk te2 : TE} {t1 : TT} {F1 : Ds -> Option Bool} {F2 : Ds -> Option PV} {sa sb : List Stmt} {t u : TS} {G1 G2 : Ds -> Option Out} {pos cpos apos pc pn pb p : Pos} {K' : PySem.W.Frag} {CX : CXT} {E : XK} {n : Nat} {f : Addr} {fd : FuncData} {ps : List Str} {x : Str} {f' : List PyData -> Option PV}
theorem psx_ifPop {i : Nat} (eK : X.K = K') (G : FnOk X.prog X.w K' X.mg X.base CX n f fd ps (spF K' f')) (hr : Room n X.A) (hg : Gl X x) (hm : X.mg x = some (.ref f)) (hk : PySem.W.keepIn K' (.ref f) = true) (hb : Binds K' fd ps []) (hx : Passes CX X E)
  (h1 : PTX X c1 t1 F1) (ho : PE X o (tVar i)) (hz : PX X true k tk (fC (.int 0))) (he2 : PX X true e2 te2 F2) (ha : PSsX X sa t G1) (hb2 : PSsX X sb u G2)
  (hdb : (x == ("__debug__" : Str)) = false := by decide) (hst : starEach [k] X.env = (false, eval k X.env) :: starEach [] X.env := by rfl)
  (hbase : attributeBase o "pop" X.env (eval o X.env) = eval o X.env := by rfl)
  (hfew : ((backTo cpos (starEach [k] X.env)).all (fun x => !x.1) && (backToKw cpos (keywordEach [] X.env)).all (fun x => x.1.isSome)
   && decide ([k].length + ([] : List Keyword).length + (if ([] : List Keyword).isEmpty then 0 else 1) < 30)) = true := by rfl)
  (hline : (apos.endLine == cpos.line) = true := by rfl) (hplain : (backTo cpos (starEach [] X.env)).any (·.1) = false := by rfl)
  (hs1 : starEach [.Call (.Attribute o "pop" apos) [k] [] cpos, e2] X.env = (false, eval (.Call (.Attribute o "pop" apos) [k] [] cpos) X.env) :: starEach [e2] X.env := by rfl) (hs2 : starEach [e2] X.env = (false, eval e2 X.env) :: starEach [] X.env := by rfl) (hpl : (backTo pc (starEach [e2] X.env)).any (·.1) = false := by rfl) :
  PSX X (.If (.BoolOp .Or [c1, .UnaryOp .Not (.Call (.Name x p) [.Call (.Attribute o "pop" apos) [k] [] cpos, e2] [] pc) pn] pb) sa sb pos)
   (tIfS (tOr t1 (tNot (tB (tCall (spF K' f') [] E (tCons (tBM X.K "list" rPopAt (tVar i) (tCons tk tNil)) (tCons te2 tNil)))))) t u) (gIfPop i F1 f' F2 G1 G2) := by
 subst eK
 refine ⟨ps_if (PW.pt (pw_or h1.p (pw_or1 (pt_not (pt_val (pe_call G hr hg hm hk hb .nil hx (pa_cons (pe_bm PySem.F.plainAttrs_list PySem.F.slot_list_pop PySem.F.type_list_pop mt_popAt ho (pa_cons hz.p pa_nil hst) hbase hfew hline hst hplain) (pa_cons he2.p pa_nil hs2) hs1) hdb hs1 hpl)))))) ha.p hb2.p, ?_⟩
 intro O H₀ as σ H ds D o S h q
 unfold gIfPop at h
 cases e1 : F1 ds with
 | none => rw [e1] at h; cases h
 | some b1 =>
  rw [e1] at h
  simp only [Option.bind_some] at h
  refine h1.t O H₀ as σ H ds b1 _ S e1 fun H1 s1 => ?_
  have S1 := S.grow s1
  cases b1 with
  | true => exact ha.t O H₀ as σ H1 ds D o S1 h q
  | false =>
   simp only [Bool.false_eq_true, if_false] at h
   split at h
   . rename_i d l hd
     split at h
     . rename_i hl
       cases e3 : F2 (ds.set i (some (.own l))) with
       | none => rw [e3] at h; cases h
       | some v2 =>
        rw [e3] at h
        simp only [Option.bind_some] at h
        cases e4 : f' [d, v2.d] with
        | none => rw [e4] at h; cases h
        | some r =>
         rw [e4] at h
         simp only [Option.bind_some] at h
         cases e5 : asB r.d with
         | none => rw [e5] at h; cases h
         | some b =>
          rw [e5] at h
          simp only [Option.bind_some] at h
          refine te_pop hz S1 hd hl fun v H2 S2 dv => ?_
          refine he2.t O H₀ as σ H2 _ v2 _ S2 e3 fun w H3 s3 r3 => ?_
          have S3 := S2.grow s3
          have D3 := S3.dm (fr := true)
          have hh : ∀ H, hid H (vis true as) O = hid H [] (O ++ (vis true as).filterMap id) := fun H => hid_as (bs := [])
          have dv3 : Dt X.K (hid H3 as O) v d := dv.same (hid_same s3)
          have dw3 : Dt X.K (hid H3 as O) w v2.d := r3.dt S2.dm
          refine ⟨O ++ (vis true as).filterMap id, [d, v2.d], r, fun a ha' => ?_, by rw [<- hh]; exact .cons dv3 (.cons dw3 .nil), e4, fun y H4 s4 r4 => ?_⟩
          . rcases List.mem_append.mp ha' with z | z
            . exact D3.o a z
            . obtain ⟨x', hx', e⟩ := List.mem_filterMap.mp z
              have e' : x' = some a := e
              subst e'
              exact D3.a a hx'
          . have S4 := S3.grow s4
            cases r with
            | own l' => cases e5
            | dat d5 =>
             have r4' : Dt X.K (hid H4 [] (O ++ (vis true as).filterMap id)) y d5 := r4
             cases d5 with
             | bool c =>
              have eb : c = b := by
               have e6 : some c = some b := e5
               exact Option.some.inj e6
              subst eb
              cases r4'
              refine ⟨_, rfl, ?_⟩
              cases c with
              | true => exact hb2.t O H₀ as σ H4 _ D o S4 h q
              | false => exact ha.t O H₀ as σ H4 _ D o S4 h q
             | _ => cases e5
     . cases h
   . cases h
end
section
variable {X : Cx} {C CS fi f : Addr} {fld x y cn n : Str} {fd : FuncData} {ps : List Str} {sp : Sp} {k i j : Nat} {e : Expr} {es : List Expr} {t : TA} {tb : TS} {p p1 p2 p3 p4 p5 pos : Pos} {b₀ : Stmt} {suite : List Stmt}
theorem ps_tryAB (hB : ∃ (nm qn : Str) (N : Addr) (bs tl : List Value) (hd : Bool) (sn : List Str) (sub : List Value) (ab : Bool) (col : Option Bool) (dd : Option Addr) (k0 k1 k2 k3 k5 : Option Value) (nid : String), X.K.lookup CS = some (excClassObj nm qn CS N bs tl hd sn sub ab col dd k0 k1 k2 k3 k5 nid) /\ tl.contains (.type "BaseException") = true) (hst : X.stack = X.env :: X.outer /\ X.env.frame = some X.env.locals) (hnx : ∀ e s, ¬ X.xe e s) (F : FnOk X.prog X.w X.K X.mg X.base (CX1 X.prog X.w) k f fd ps sp) (hr : Room k X.A) (hg : Gl X x) (hm : X.mg x = some (.ref f)) (hk : PySem.W.keepIn X.K (.ref f) = true) (hb : Binds X.K fd ps [])
  (ha : PA X (e :: es) t) (T : ExcK X.K C CS fi fld) (hgc : Gl X cn) (hmc : X.mg cn = some (.ref CS)) (hN : X.N.Nodup) (hi : X.N[i]? = some y) (hy : Loc X.env.scope y) (hj : X.N[j]? = some n) (hn : X.env.scope.names.lookup n = some .local) (hs : ∀ ea, PSs (X.marked ea) (b₀ :: suite) tb)
  (hdb : (x == ("__debug__" : Str)) = false := by decide) (hdc : (cn == ("__debug__" : Str)) = false := by decide) (he : starEach (e :: es) X.env = (false, eval e X.env) :: starEach es X.env := by rfl) (hpl : (backTo pos (starEach es X.env)).any (·.1) = false := by rfl)
  (hsw : swapsWith (.Call (.Name x p) (e :: es) [] pos) (some (.Name y p1)) p2.line X.env = pure false := by rfl) (hf : X.fn y = true \/ X.env.scope.names.lookup y = some .local := by first | exact .inl rfl | exact .inr rfl | assumption) :
  PS X (.Try [.Assign [.Name y p1] (.Call (.Name x p) (e :: es) [] pos) p2] [.ExceptHandler (some (.Name cn p3)) (some n) (b₀ :: suite) p4] [] [] p5) (tTry C (nxA i) j sp t tb) := by
 intro pins s σ H D I h
 refine wpAny_Try_except (wpAny_execs_cons (wpAny_Assign_Name (wpAny_Call_Name_kw (ld_glob I hg hm ?_ hdb)) hsw))
 refine PySem.W.callWith_K (h₀ := X.base) I.ok.mod.kin hk (wpAny_mono (ha pos pins s σ H _ I h) (fun us s1 ⟨vs, H1, I1, r, q⟩ => ⟨I1.kIn, ?_⟩) fun e s z => (hnx e s z).elim) he hpl
 have hl : us.length = ps.length := by rw [<- r.length]; exact F.len _ _ _ _ q
 have hbd := hb s1 us I1.kIn (by rw [List.append_nil]; exact hl)
 rw [List.append_nil] at hbd
 refine wpAny_call (codeAny_mono (F.run X.A X.stack s1 H1 ⟨us, []⟩ us vs _ _ hr I1.env0 hbd r q) fun r s' hq => ?_)
 cases r with
 | error e =>
  have hq' : CX1 X.prog X.w X.stack H1 s1 (fun ev _ H2 => ∃ ea dx, ev = .ref ea /\ H2 ea = some (.ext (ExcAt ea C dx)) /\ tb (dHand j D) (σ.set j (some (.ref ea))) H2) e s' := hq
  exact caughtB hB hst T hgc hmc hN hj hn hs I1 hq' (fun ev H' z => z) hdc
 | ok fl =>
  cases fl with
  | ret u =>
   obtain ⟨v, H2, I2, rv, q2⟩ := I1.after hq
   exact store_ok I2 hN hi hy rv (fun s3 I3 => wpAny_execs_nil (wpAny_execs_nil ⟨_, H2, I3, q2⟩)) hf
  | next => exact False.elim hq
  | brk => exact False.elim hq
  | cont => exact False.elim hq
end
section
variable {X : Cx} {C CS fi f : Addr} {fld x y cn n : Str} {fd : FuncData} {ps : List Str} {FX : List PyData -> Option (PV ⊕ PyData)} {k i j : Nat} {e : Expr} {es : List Expr} {t : TA} {tb : TS} {Fl : Ds -> Option (List PyData)} {Gb : Ds -> Option Out} {p p1 p2 p3 p4 p5 pos : Pos} {b₀ : Stmt} {suite : List Stmt}
theorem psx_tryAB (hB : ∃ (nm qn : Str) (N : Addr) (bs tl : List Value) (hd : Bool) (sn : List Str) (sub : List Value) (ab : Bool) (col : Option Bool) (dd : Option Addr) (k0 k1 k2 k3 k5 : Option Value) (nid : String), X.K.lookup CS = some (excClassObj nm qn CS N bs tl hd sn sub ab col dd k0 k1 k2 k3 k5 nid) /\ tl.contains (.type "BaseException") = true) (hst : X.stack = X.env :: X.outer /\ X.env.frame = some X.env.locals) (hnx : ∀ e s, ¬ X.xe e s) (F : FnOk X.prog X.w X.K X.mg X.base (CX1 X.prog X.w) k f fd ps (spX X.K FX)) (hr : Room k X.A) (hg : Gl X x) (hm : X.mg x = some (.ref f)) (hk : PySem.W.keepIn X.K (.ref f) = true) (hb : Binds X.K fd ps [])
  (ha : PAX X true (e :: es) t Fl) (T : ExcK X.K C CS fi fld) (hgc : Gl X cn) (hmc : X.mg cn = some (.ref CS)) (hN : X.N.Nodup) (hi : X.N[i]? = some y) (hy : Loc X.env.scope y) (hj : X.N[j]? = some n) (hn : X.env.scope.names.lookup n = some .local) (hs : ∀ ea, PSsX (X.marked ea) (b₀ :: suite) tb Gb)
  (hdb : (x == ("__debug__" : Str)) = false := by decide) (hdc : (cn == ("__debug__" : Str)) = false := by decide) (he : starEach (e :: es) X.env = (false, eval e X.env) :: starEach es X.env := by rfl) (hpl : (backTo pos (starEach es X.env)).any (·.1) = false := by rfl)
  (hsw : swapsWith (.Call (.Name x p) (e :: es) [] pos) (some (.Name y p1)) p2.line X.env = pure false := by rfl) (hf : X.fn y = true \/ X.env.scope.names.lookup y = some .local := by first | exact .inl rfl | exact .inr rfl | assumption) :
  PSX X (.Try [.Assign [.Name y p1] (.Call (.Name x p) (e :: es) [] pos) p2] [.ExceptHandler (some (.Name cn p3)) (some n) (b₀ :: suite) p4] [] [] p5) (tTry C (nxA i) j (spX X.K FX) t tb) (gTryA C i j FX Fl Gb) := by
 refine ⟨ps_tryAB hB hst hnx F hr hg hm hk hb ha.p T hgc hmc hN hi hy hj hn (fun ea => (hs ea).p) hdb hdc he hpl hsw hf, ?_⟩
 intro O H₀ as σ H ds D o S hf q
 unfold gTryA at hf
 cases h1 : Fl ds with
 | none => rw [h1] at hf; cases hf
 | some l =>
  rw [h1] at hf
  simp only [Option.bind_some] at hf
  cases h2 : FX l with
  | none => rw [h2] at hf; cases hf
  | some a =>
   rw [h2] at hf
   simp only [Option.bind_some] at hf
   refine ha.t O H₀ as σ H ds l _ S h1 fun vs H1 e1 r1 => ?_
   have D1 := (S.grow e1).dm (fr := true)
   have hh : ∀ H, hid H (vis true as) O = hid H [] (O ++ (vis true as).filterMap id) := fun H => hid_as (bs := [])
   have hv : vis true as = as := rfl
   refine ⟨O ++ (vis true as).filterMap id, l, a, fun b hb => ?_, by rw [<- hh]; exact r1, h2, ?_⟩
   . rcases List.mem_append.mp hb with hb | hb
     . exact D1.o b hb
     . obtain ⟨x, hx, e⟩ := List.mem_filterMap.mp hb
       have e' : x = some b := e
       subst e'
       exact D1.a b hx
   . cases a with
     | inl pv =>
      cases hf
      intro v H2 e2 r2
      have r3 : RX X.K O (vis true as) H1 H2 v pv := by
       cases pv with
       | dat d =>
        have r2' : Dt X.K (hid H2 [] (O ++ (vis true as).filterMap id)) v d := r2
        rw [<- hh] at r2'
        exact r2'
       | own l =>
        obtain ⟨a, xs, e3, e4, e5, r3⟩ := r2
        refine ⟨a, xs, e3, e4, e5, ?_⟩
        rw [show (some a :: vis true as : As) = [some a] ++ vis true as from rfl, hid_as]
        exact r3
      exact q _ _ _ ((S.grow (e1.trans e2)).set i (r3.dt D1))
     | inr x =>
      have hf' : (if isExc C x = true then (Gb (ds.set j (some (.dat x)))).bind (unOut j) else none) = some o := hf
      intro ea H2 e2 r2
      by_cases hx : isExc C x = true
      . rw [if_pos hx] at hf'
        rw [<- hh] at r2
        obtain ⟨ea', dx, ev, hea⟩ := r2.isExc hx
        cases ev
        refine ⟨ea, dx, rfl, hid_all _ _ hea, ?_⟩
        cases h3 : Gb (ds.set j (some (.dat x))) with
        | none => rw [h3] at hf'; cases hf'
        | some o' =>
         rw [h3] at hf'
         simp only [Option.bind_some] at hf'
         exact (hs ea).t O H₀ _ _ H2 _ (dHand j D) o' ((S.grow (e1.trans e2)).set j r2) h3 (q.hand hf')
      . rw [if_neg hx] at hf'; cases hf'
end
noncomputable def muOwn (i : Nat) (ds : Ds) : Nat := match ds[i]? with
 | some (some (.own l)) => l.length + 1
 | _ => 0
end L2
set_option maxHeartbeats 4000000
namespace Law
open PySem L2
noncomputable section
noncomputable abbrev c_FIGURES : PyData := (.str "0123456789")
noncomputable abbrev c_MOST_FIGURES : PyData := (.int 60)
noncomputable abbrev c_MOST_RULES : PyData := (.int 20)
noncomputable abbrev c_MOST_TESTS : PyData := (.int 6)
noncomputable abbrev c_MOST_NUMBER : PyData := (.int 1000000)
noncomputable abbrev c_BARE_WORDS : PyData := (.tuple [(.str "dark"), (.str "sunny")])
noncomputable abbrev c_AMOUNT_WORDS : PyData := (.tuple [(.str "from"), (.str "till"), (.str "over"), (.str "under")])
noncomputable abbrev c_PRICE_WORDS : PyData := (.tuple [(.str "dear"), (.str "cheap")])
noncomputable abbrev c_FILL_WORDS : PyData := (.tuple [(.str "none"), (.str "sun"), (.str "line")])
noncomputable abbrev c_TAKE_WORDS : PyData := (.tuple [(.str "none"), (.str "need"), (.str "give")])
noncomputable abbrev c_WORK_WORDS : PyData := (.tuple [(.str "now"), (.str "wait")])
noncomputable abbrev c_DEED_WORDS : PyData := (.int 6)
noncomputable def C_common_divisor_0 : Ds -> Option Bool := (bVal (fOp neDD (fVar 1) (fC (.int 0))))
noncomputable def B_common_divisor_0 : Ds -> Option Out := (gSeq (gSetD 2 (fOp modD (fVar 0) (fVar 1))) (gSeq (gSetD 0 (fVar 1)) (gSetD 1 (fVar 2))))
noncomputable def F_common_divisor : List PyData -> Option PV := fnF 2 3 (gSeq (gWhile (muAbs 1) C_common_divisor_0 B_common_divisor_0) (gRetV 0))
noncomputable def F_fraction : List PyData -> Option PV := fnF 2 3 (gSeq (gIf (bVal (fOp eqDD (fVar 1) (fC (.int 0)))) gNever gNext) (gSeq (gSetD 2 (fCall F_common_divisor (aCons (fCall absD (aCons (fVar 0) aNil)) (aCons (fCall absD (aCons (fVar 1) aNil)) aNil)))) (gSeq (gIf (bVal (fOp ltD (fVar 1) (fC (.int 0)))) (gSetD 2 (fUn negD (fVar 2))) gNext) (gRet (fTup (aCons (fOp fdivD (fVar 0) (fVar 2)) (aCons (fOp fdivD (fVar 1) (fVar 2)) aNil)))))))
noncomputable def C_figures_of_0 : Ds -> Option Bool := (bVal (fOp geD (fVar 3) (fVar 1)))
noncomputable def B_figures_of_0 : Ds -> Option Out := (gSeq (gApp 2 (fMeth zfillD (fCall strD (aCons (fOp modD (fVar 3) (fVar 1)) aNil)) (aCons (fC (.int 60)) aNil))) (gSetD 3 (fOp fdivD (fVar 3) (fVar 1))))
noncomputable def F_figures_of : List PyData -> Option PV := fnF 1 4 (gSeq (gSetD 1 (fOp powD (fC (.int 10)) (fC (.int 60)))) (gSeq (gSet 2 (fLst aNil)) (gSeq (gSetD 3 (fVar 0)) (gSeq (gWhile (muAbs 3) C_figures_of_0 B_figures_of_0) (gSeq (gApp 2 (fCall strD (aCons (fVar 3) aNil))) (gSeq (gMut0 2 List.reverse) (gRet (fFrz (fMeth joinD (fC (.str "")) (aCons (fVar 2) aNil))))))))))
noncomputable def F_written : List PyData -> Option PV := fnF 1 2 (gSeq (gSetD 1 (fCall F_figures_of (aCons (fCall absD (aCons (fOp ixD (fVar 0) (fC (.int 0))) aNil)) aNil))) (gSeq (gIf (bVal (fOp ltD (fOp ixD (fVar 0) (fC (.int 0))) (fC (.int 0)))) (gSetD 1 (fOp addD (fC (.str "-")) (fVar 1))) gNext) (gSeq (gIf (bVal (fOp neDD (fOp ixD (fVar 0) (fC (.int 1))) (fC (.int 1)))) (gSetD 1 (fOp addD (fOp addD (fVar 1) (fC (.str "/"))) (fCall F_figures_of (aCons (fOp ixD (fVar 0) (fC (.int 1))) aNil)))) gNext) (gRetV 1))))
noncomputable def B_read_figures_0 : Ds -> Option Out := (gIf (bVal (fOp (or2 notInD notInSD) (fVar 1) (fC c_FIGURES))) (gRet (fC .none)) gNext)
noncomputable def F_read_figures : List PyData -> Option PV := fnF 1 2 (gSeq (gIf (bOr (bVal (fOp eqDD (fVar 0) (fC (.str "")))) (bVal (fOp gtD (fCall lenD (aCons (fVar 0) aNil)) (fC c_MOST_FIGURES)))) (gRet (fC .none)) gNext) (gSeq (gFor (iWk (fVar 0)) (sName 1) B_read_figures_0) (gRet (fCall (or1 intD intSD) (aCons (fVar 0) aNil)))))
noncomputable def F_read_signed : List PyData -> Option PV := fnF 1 2 (gSeq (gIf (bNot (bVal (fMeth startsD (fVar 0) (aCons (fC (.str "-")) aNil)))) (gRet (fCall F_read_figures (aCons (fVar 0) aNil))) gNext) (gSeq (gSetD 1 (fCall F_read_figures (aCons (fSl slAD (fVar 0) (oSome (fC (.int 1))) oNone) aNil))) (gSeq (gIf (bVal (fOp isD (fVar 1) (fC .none))) (gRet (fC .none)) gNext) (gRet (fUn negD (fVar 1))))))
noncomputable def F_read_fraction : List PyData -> Option PV := fnF 1 5 (gSeq (gSetD 1 (fMeth partD (fVar 0) (aCons (fC (.str "/")) aNil))) (gSeq (gSetD 2 (fCall F_read_signed (aCons (fOp ixD (fVar 1) (fC (.int 0))) aNil))) (gSeq (gSetD 3 (fC (.int 1))) (gSeq (gIf (bVal (fOp eqDD (fOp ixD (fVar 1) (fC (.int 1))) (fC (.str "/")))) (gSetD 3 (fCall F_read_figures (aCons (fOp ixD (fVar 1) (fC (.int 2))) aNil))) gNext) (gSeq (gIf (bOr (bVal (fOp isD (fVar 2) (fC .none))) (bOr (bVal (fOp isD (fVar 3) (fC .none))) (bVal (fOp eqDD (fVar 3) (fC (.int 0)))))) (gRet (fC .none)) gNext) (gSeq (gSetD 4 (fCall F_fraction (aCons (fVar 2) (aCons (fVar 3) aNil)))) (gSeq (gIf (bVal (fOp neDD (fCall F_written (aCons (fVar 4) aNil)) (fVar 0))) (gRet (fC .none)) gNext) (gRetV 4))))))))
noncomputable def F_read_bound : List PyData -> Option PV := fnF 2 3 (gSeq (gSetD 2 (fCall F_read_fraction (aCons (fVar 0) aNil))) (gSeq (gIf (bOr (bVal (fOp isD (fVar 2) (fC .none))) (bOr (bVal (fOp neDD (fOp ixD (fVar 2) (fC (.int 1))) (fC (.int 1)))) (bOr (bVal (fOp ltD (fOp ixD (fVar 2) (fC (.int 0))) (fVar 1))) (bVal (fOp gtD (fOp ixD (fVar 2) (fC (.int 0))) (fC c_MOST_NUMBER)))))) (gRet (fC .none)) gNext) (gRet (fOp ixD (fVar 2) (fC (.int 0))))))
noncomputable def F_read_test : List PyData -> Option PV := fnF 1 2 (gSeq (gIf (bVal (fOp (or2 inD inSD) (fOp ixD (fVar 0) (fC (.int 0))) (fC c_BARE_WORDS))) (gRet (fTup (aCons (fOp ixD (fVar 0) (fC (.int 0))) aNil))) gNext) (gSeq (gSetD 1 (fC .none)) (gSeq (gIf (bAnd (bVal (fOp (or2 inD inSD) (fOp ixD (fVar 0) (fC (.int 0))) (fC c_AMOUNT_WORDS))) (bVal (fOp gtD (fCall lenD (aCons (fVar 0) aNil)) (fC (.int 1))))) (gSetD 1 (fCall F_read_bound (aCons (fOp ixD (fVar 0) (fC (.int 1))) (aCons (fC (.int 0)) aNil)))) gNext) (gSeq (gIf (bAnd (bVal (fOp (or2 inD inSD) (fOp ixD (fVar 0) (fC (.int 0))) (fC c_PRICE_WORDS))) (bVal (fOp gtD (fCall lenD (aCons (fVar 0) aNil)) (fC (.int 1))))) (gSetD 1 (fCall F_read_bound (aCons (fOp ixD (fVar 0) (fC (.int 1))) (aCons (fUn negD (fC c_MOST_NUMBER)) aNil)))) gNext) (gSeq (gIf (bVal (fOp isD (fVar 1) (fC .none))) (gRet (fC .none)) gNext) (gRet (fTup (aCons (fOp ixD (fVar 0) (fC (.int 0))) (aCons (fVar 1) aNil)))))))))
noncomputable def C_read_tests_0 : Ds -> Option Bool := (bVal (fOp ltD (fVar 2) (fCall lenD (aCons (fVar 0) aNil))))
noncomputable def B_read_tests_0 : Ds -> Option Out := (gSeq (gSetD 3 (fCall F_read_test (aCons (fSl slAD (fVar 0) (oSome (fVar 2)) oNone) aNil))) (gSeq (gIf (bOr (bVal (fOp isD (fVar 3) (fC .none))) (bVal (fOp eqDD (fFrz (fCall lenD (aCons (fVar 1) aNil))) (fFrz (fC c_MOST_TESTS))))) (gRet (fC .none)) gNext) (gSeq (gApp 1 (fVar 3)) (gSetD 2 (fOp addD (fVar 2) (fCall lenD (aCons (fVar 3) aNil)))))))
noncomputable def F_read_tests : List PyData -> Option PV := fnF 1 4 (gSeq (gSet 1 (fLst aNil)) (gSeq (gSetD 2 (fC (.int 0))) (gSeq (gWhile (muLen 0) C_read_tests_0 B_read_tests_0) (gRet (fFrz (fCall tupD (aCons (fVar 1) aNil)))))))
noncomputable def F_read_deeds : List PyData -> Option PV := fnF 1 2 (gSeq (gIf (bVal (fOp neDD (fSl3 six1 (fVar 0) (oSome (fC (.int 0))) oNone (oSome (fC (.int 2)))) (fLst (aCons (fC (.str "fill")) (aCons (fC (.str "take")) (aCons (fC (.str "works")) aNil)))))) (gRet (fC .none)) gNext) (gSeq (gSetD 1 (fCall tupD (aCons (fSl3 six1 (fVar 0) (oSome (fC (.int 1))) oNone (oSome (fC (.int 2)))) aNil))) (gSeq (gIf (bOr (bVal (fOp (or2 notInD notInSD) (fOp ixD (fVar 1) (fC (.int 0))) (fC c_FILL_WORDS))) (bOr (bVal (fOp (or2 notInD notInSD) (fOp ixD (fVar 1) (fC (.int 1))) (fC c_TAKE_WORDS))) (bVal (fOp (or2 notInD notInSD) (fOp ixD (fVar 1) (fC (.int 2))) (fC c_WORK_WORDS))))) (gRet (fC .none)) gNext) (gRetV 1))))
noncomputable def F_read_rule : List PyData -> Option PV := fnF 1 4 (gSeq (gSetD 1 (fMeth splitD (fVar 0) (aCons (fC (.str " ")) aNil))) (gSeq (gIf (bOr (bVal (fOp neDD (fOp ixD (fVar 1) (fC (.int 0))) (fC (.str "when")))) (bVal (fOp leD (fCall lenD (aCons (fVar 1) aNil)) (fC c_DEED_WORDS)))) (gRet (fC .none)) gNext) (gSeq (gSetD 2 (fCall F_read_tests (aCons (fSl slAD (fVar 1) (oSome (fC (.int 1))) (oSome (fUn negD (fC c_DEED_WORDS)))) aNil))) (gSeq (gSetD 3 (fCall F_read_deeds (aCons (fSl slAD (fVar 1) (oSome (fUn negD (fC c_DEED_WORDS))) oNone) aNil))) (gSeq (gIf (bOr (bVal (fOp isD (fVar 2) (fC .none))) (bVal (fOp isD (fVar 3) (fC .none)))) (gRet (fC .none)) gNext) (gRet (fOp addD (fTup (aCons (fVar 2) aNil)) (fVar 3))))))))
noncomputable def BX_read_keeper_0 (cE : Addr) : Ds -> Option Out := (gSeq (gSetD 4 (fCall F_read_rule (aCons (fVar 3) aNil))) (gSeq (gIf (bOr (bVal (fOp isD (fVar 4) (fC .none))) (bVal (fOp eqDD (fVar 2) (fC c_MOST_RULES)))) (gUpP smallD cE "place" (aCons (fVar 2) aNil)) gNext) (gApp 1 (fVar 4))))
noncomputable def FX_read_keeper (cE : Addr) : List PyData -> Option (PV ⊕ PyData) := fnX 1 5 (gSeq (gSet 1 (fLst aNil)) (gSeq (gFor (iFn enumD (aCons (fVar 0) aNil)) (sTup 2 (sCons 2 (sCons 3 sNil))) (BX_read_keeper_0 cE)) (gRet (fFrz (fCall tupD (aCons (fVar 1) aNil))))))
noncomputable def B_l_mixed_0 : Ds -> Option Out := (gSetD 2 (fOp fdivD (fVar 2) (fC (.int 65497))))
noncomputable def F_l_mixed : List PyData -> Option PV := fnF 2 5 (gSeq (gSetD 2 (fC (.int 0))) (gSeq (gIf (bVal (fOp gtD (fCall lenD (aCons (fVar 0) aNil)) (fC (.int 0)))) (gSeq (gSetD 2 (fOp ixD (fVar 0) (fOp modD (fVar 1) (fCall lenD (aCons (fVar 0) aNil))))) (gIf (bVal (fOp eqDD (fOp modD (fOp ixD (fVar 0) (fC (.int 0))) (fC (.int 2))) (fC (.int 1)))) (gSeq (gFor (iFn rng1 (aCons (fOp modD (fOp fdivD (fVar 1) (fCall lenD (aCons (fVar 0) aNil))) (fC (.int 60))) aNil)) (sName 3) B_l_mixed_0) (gRet (fOp modD (fVar 2) (fC (.int 65497))))) gNext)) gNext) (gSeq (gSetD 4 (fOp modD (fOp addD (fOp addD (fOp mulD (fOp modD (fVar 2) (fC (.int 1000003))) (fC (.int 48271))) (fOp mulD (fOp mulD (fVar 1) (fVar 1)) (fC (.int 7919)))) (fC (.int 1))) (fC (.int 65521)))) (gSeq (gSetD 4 (fOp modD (fOp addD (fOp mulD (fVar 4) (fVar 4)) (fVar 1)) (fC (.int 65519)))) (gRet (fOp modD (fOp addD (fOp mulD (fOp mulD (fVar 4) (fVar 4)) (fC (.int 31))) (fVar 4)) (fC (.int 65497))))))))
noncomputable def E_l_rule_line_0 : Ds -> Option PV := (fCall (or1 strD strSD) (aCons (fVar 0) aNil))
noncomputable def B_l_rule_line_0 : Ds -> Option Out := (gExt 1 (fComp (iWk (fVar 2)) gtName bTrue E_l_rule_line_0))
noncomputable def F_l_rule_line : List PyData -> Option PV := fnF 1 3 (gSeq (gSet 1 (fLst (aCons (fC (.str "when")) aNil))) (gSeq (gFor (iWk (fOp ixD (fVar 0) (fC (.int 0)))) (sName 2) B_l_rule_line_0) (gRet (fFrz (fMeth joinD (fC (.str " ")) (aCons (fOp addD (fVar 1) (fLst (aCons (fC (.str "fill")) (aCons (fOp ixD (fVar 0) (fC (.int 1))) (aCons (fC (.str "take")) (aCons (fOp ixD (fVar 0) (fC (.int 2))) (aCons (fC (.str "works")) (aCons (fOp ixD (fVar 0) (fC (.int 3))) aNil)))))))) aNil))))))
noncomputable def F_l_wide_test : List PyData -> Option PV := fnF 2 4 (gSeq (gSetD 2 (fOp modD (fCall F_l_mixed (aCons (fVar 0) (aCons (fVar 1) aNil))) (fC (.int 8)))) (gSeq (gIf (bVal (fOp gtD (fVar 2) (fC (.int 5)))) (gRet (fTup (aCons (fOp ixD (fLst (aCons (fC (.str "dark")) (aCons (fC (.str "sunny")) aNil))) (fOp subD (fVar 2) (fC (.int 6)))) aNil))) gNext) (gSeq (gSetD 3 (fOp modD (fOp mulD (fCall F_l_mixed (aCons (fVar 0) (aCons (fOp addD (fVar 1) (fC (.int 1))) aNil))) (fC (.int 65521))) (fC (.int 1000001)))) (gSeq (gIf (bVal (fOp eqDD (fOp modD (fCall F_l_mixed (aCons (fVar 0) (aCons (fOp addD (fVar 1) (fC (.int 2))) aNil))) (fC (.int 3))) (fC (.int 0)))) (gSetD 3 (fOp ixD (fLst (aCons (fC (.int 0)) (aCons (fC (.int 1)) (aCons (fC (.int 1000000)) (aCons (fC (.int 10)) (aCons (fC (.int 999999)) aNil)))))) (fOp modD (fCall F_l_mixed (aCons (fVar 0) (aCons (fOp addD (fVar 1) (fC (.int 1))) aNil))) (fC (.int 5))))) gNext) (gSeq (gIf (bAnd (bVal (fOp gtD (fVar 2) (fC (.int 3)))) (bVal (fOp eqDD (fOp modD (fCall F_l_mixed (aCons (fVar 0) (aCons (fOp addD (fVar 1) (fC (.int 2))) aNil))) (fC (.int 2))) (fC (.int 1))))) (gSetD 3 (fOp subD (fC (.int 0)) (fVar 3))) gNext) (gRet (fTup (aCons (fOp ixD (fLst (aCons (fC (.str "from")) (aCons (fC (.str "till")) (aCons (fC (.str "over")) (aCons (fC (.str "under")) (aCons (fC (.str "dear")) (aCons (fC (.str "cheap")) aNil))))))) (fVar 2)) (aCons (fVar 3) aNil)))))))))
noncomputable def E_l_wide_rule_0 : Ds -> Option PV := (fCall F_l_wide_test (aCons (fVar 1) (aCons (fOp addD (fVar 2) (fOp mulD (fC (.int 3)) (fVar 0))) aNil)))
noncomputable def F_l_wide_rule : List PyData -> Option PV := fnF 2 5 (gSeq (gSetD 2 (fComp (iFn rng1 (aCons (fOp modD (fCall F_l_mixed (aCons (fVar 0) (aCons (fOp addD (fVar 1) (fC (.int 18))) aNil))) (fC (.int 7))) aNil)) gtName bTrue E_l_wide_rule_0)) (gSeq (gSetD 3 (fOp ixD (fLst (aCons (fC (.str "none")) (aCons (fC (.str "sun")) (aCons (fC (.str "line")) aNil)))) (fOp modD (fCall F_l_mixed (aCons (fVar 0) (aCons (fOp addD (fVar 1) (fC (.int 19))) aNil))) (fC (.int 3))))) (gSeq (gSetD 4 (fOp ixD (fLst (aCons (fC (.str "none")) (aCons (fC (.str "need")) (aCons (fC (.str "give")) aNil)))) (fOp modD (fCall F_l_mixed (aCons (fVar 0) (aCons (fOp addD (fVar 1) (fC (.int 20))) aNil))) (fC (.int 3))))) (gRet (fTup (aCons (fCall tupD (aCons (fVar 2) aNil)) (aCons (fVar 3) (aCons (fVar 4) (aCons (fOp ixD (fLst (aCons (fC (.str "now")) (aCons (fC (.str "wait")) aNil))) (fOp modD (fCall F_l_mixed (aCons (fVar 0) (aCons (fOp addD (fVar 1) (fC (.int 21))) aNil))) (fC (.int 2)))) aNil)))))))))
noncomputable def B_l_is_number_0 : Ds -> Option Out := (gIf (bVal (fOp (or2 notInD notInSD) (fVar 3) (fC (.str "0123456789")))) (gRet (fC (.bool false))) gNext)
noncomputable def F_l_is_number : List PyData -> Option PV := fnF 2 4 (gSeq (gSetD 2 (fVar 0)) (gSeq (gIf (bAnd (bVal (fVar 1)) (bVal (fOp eqDD (fSl slAD (fVar 0) oNone (oSome (fC (.int 1)))) (fC (.str "-"))))) (gSetD 2 (fSl slAD (fVar 0) (oSome (fC (.int 1))) oNone)) gNext) (gSeq (gFor (iWk (fVar 2)) (sName 3) B_l_is_number_0) (gSeq (gIf (bOr (bVal (fOp eqDD (fVar 2) (fC (.str "")))) (bOr (bVal (fOp gtD (fCall lenD (aCons (fVar 2) aNil)) (fC (.int 7)))) (bAnd (bVal (fOp eqDD (fOp ixD (fVar 2) (fC (.int 0))) (fC (.str "0")))) (bVal (fOp neDD (fVar 0) (fC (.str "0"))))))) (gRet (fC (.bool false))) gNext) (gRet (fOp leD (fCall (or1 intD intSD) (aCons (fVar 2) aNil)) (fC (.int 1000000))))))))
noncomputable def C_l_is_rule_0 : Ds -> Option Bool := (bVal (fOp gtD (fFrz (fCall lenD (aCons (fVar 2) aNil))) (fFrz (fC (.int 0)))))
noncomputable def B_l_is_rule_0 : Ds -> Option Out := (gSeq (gPop 2 4) (gSeq (gSetD 3 (fOp addD (fVar 3) (fC (.int 1)))) (gIf (bVal (fOp (or2 inD inSD) (fVar 4) (fLst (aCons (fC (.str "from")) (aCons (fC (.str "till")) (aCons (fC (.str "over")) (aCons (fC (.str "under")) (aCons (fC (.str "dear")) (aCons (fC (.str "cheap")) aNil))))))))) (gIfPop 2 (bVal (fOp eqDD (fFrz (fCall lenD (aCons (fVar 2) aNil))) (fFrz (fC (.int 0))))) F_l_is_number (fOp (or2 inD inSD) (fVar 4) (fLst (aCons (fC (.str "dear")) (aCons (fC (.str "cheap")) aNil)))) (gRet (fC (.bool false))) gNext) (gIf (bVal (fOp (or2 notInD notInSD) (fVar 4) (fLst (aCons (fC (.str "dark")) (aCons (fC (.str "sunny")) aNil))))) (gRet (fC (.bool false))) gNext))))
noncomputable def F_l_is_rule : List PyData -> Option PV := fnF 1 5 (gSeq (gSetD 1 (fMeth splitD (fVar 0) (aCons (fC (.str " ")) aNil))) (gSeq (gIf (bOr (bVal (fOp ltD (fCall lenD (aCons (fVar 1) aNil)) (fC (.int 7)))) (bOr (bVal (fOp neDD (fOp ixD (fVar 1) (fC (.int 0))) (fC (.str "when")))) (bVal (fOp neDD (fLst (aCons (fOp ixD (fVar 1) (fUn negD (fC (.int 6)))) (aCons (fOp ixD (fVar 1) (fUn negD (fC (.int 4)))) (aCons (fOp ixD (fVar 1) (fUn negD (fC (.int 2)))) aNil)))) (fLst (aCons (fC (.str "fill")) (aCons (fC (.str "take")) (aCons (fC (.str "works")) aNil)))))))) (gRet (fC (.bool false))) gNext) (gSeq (gIf (bOr (bVal (fOp (or2 notInD notInSD) (fOp ixD (fVar 1) (fUn negD (fC (.int 5)))) (fLst (aCons (fC (.str "none")) (aCons (fC (.str "sun")) (aCons (fC (.str "line")) aNil)))))) (bVal (fOp (or2 notInD notInSD) (fOp ixD (fVar 1) (fUn negD (fC (.int 3)))) (fLst (aCons (fC (.str "none")) (aCons (fC (.str "need")) (aCons (fC (.str "give")) aNil))))))) (gRet (fC (.bool false))) gNext) (gSeq (gSet 2 (fSl slAD (fVar 1) (oSome (fC (.int 1))) (oSome (fUn negD (fC (.int 6)))))) (gSeq (gSetD 3 (fC (.int 0))) (gSeq (gWhile (muOwn 2) C_l_is_rule_0 B_l_is_rule_0) (gRet (fAnd (fOp leD (fVar 3) (fC (.int 6))) (fOp (or2 inD inSD) (fOp ixD (fVar 1) (fUn negD (fC (.int 1)))) (fLst (aCons (fC (.str "now")) (aCons (fC (.str "wait")) aNil))))))))))))
noncomputable def F_l_bent : List PyData -> Option PV := fnF 3 5 (gSeq (gSetD 3 (fC (.str " !\"#$&'()*+,-./0123456789:;<=>?@ABCDEFGHIJKLMNOPQRSTUVWXYZ[\\]^_`"))) (gSeq (gSetD 3 (fOp addD (fVar 3) (fC (.str "abcdefghijklmnopqrstuvwxyz{|}~ 00--/")))) (gSeq (gSetD 4 (fOp modD (fVar 1) (fOp addD (fCall lenD (aCons (fVar 0) aNil)) (fC (.int 1))))) (gSeq (gIf (bAnd (bVal (fOp eqDD (fOp modD (fVar 2) (fC (.int 3))) (fC (.int 0)))) (bVal (fOp ltD (fVar 4) (fCall lenD (aCons (fVar 0) aNil))))) (gRet (fOp addD (fSl slAD (fVar 0) oNone (oSome (fVar 4))) (fSl slAD (fVar 0) (oSome (fOp addD (fVar 4) (fC (.int 1)))) oNone))) gNext) (gRet (fOp addD (fOp addD (fSl slAD (fVar 0) oNone (oSome (fVar 4))) (fOp ixD (fVar 3) (fOp modD (fOp fdivD (fVar 2) (fC (.int 3))) (fCall lenD (aCons (fVar 3) aNil))))) (fSl slAD (fVar 0) (oSome (fVar 4)) oNone)))))))
noncomputable def F_l_odd : List PyData -> Option PV := fnF 1 3 (gSeq (gSetD 1 (fC (.str " fill sun take need works wait"))) (gSeq (gSetD 2 (fLst (aCons (fC (.str "")) (aCons (fC (.str " ")) (aCons (fC (.str "when")) (aCons (fSl slAD (fVar 1) (oSome (fC (.int 1))) oNone) (aCons (fOp addD (fC (.str "When")) (fVar 1)) (aCons (fOp addD (fOp addD (fC (.str "when")) (fVar 1)) (fC (.str " "))) (aCons (fOp addD (fC (.str " when")) (fVar 1)) (aCons (fOp addD (fC (.str "when ")) (fVar 1)) aNil)))))))))) (gSeq (gSetD 2 (fOp addD (fVar 2) (fLst (aCons (fOp addD (fC (.str "when dark 1")) (fVar 1)) aNil)))) (gSeq (gSetD 2 (fOp addD (fVar 2) (fLst (aCons (fOp addD (fC (.str "when from")) (fVar 1)) (aCons (fOp addD (fC (.str "when from -1")) (fVar 1)) (aCons (fOp addD (fC (.str "when till 01")) (fVar 1)) (aCons (fOp addD (fC (.str "when over 1000001")) (fVar 1)) aNil))))))) (gSeq (gSetD 2 (fOp addD (fVar 2) (fLst (aCons (fOp addD (fC (.str "when under 1/2")) (fVar 1)) (aCons (fOp addD (fC (.str "when dear -0")) (fVar 1)) (aCons (fOp addD (fC (.str "when cheap -1000001")) (fVar 1)) (aCons (fOp addD (fC (.str "when dear +1")) (fVar 1)) aNil))))))) (gSeq (gSetD 2 (fOp addD (fVar 2) (fLst (aCons (fOp addD (fC (.str "when sun")) (fVar 1)) (aCons (fOp addD (fC (.str "when 5")) (fVar 1)) (aCons (fOp addD (fC (.str "when from 1 2")) (fVar 1)) aNil)))))) (gSeq (gSetD 2 (fOp addD (fVar 2) (fLst (aCons (fOp addD (fC (.str "when dark dark dark dark dark dark dark")) (fVar 1)) aNil)))) (gSeq (gSetD 2 (fOp addD (fVar 2) (fLst (aCons (fC (.str "when fill line take need works")) (aCons (fC (.str "when take need fill sun works wait")) aNil))))) (gSeq (gSetD 2 (fOp addD (fVar 2) (fLst (aCons (fC (.str "when fill give take need works now")) (aCons (fC (.str "when fill sun take sun works now")) aNil))))) (gSeq (gSetD 2 (fOp addD (fVar 2) (fLst (aCons (fC (.str "when fill sun take need works later")) (aCons (fC (.str "when fill sun take need")) aNil))))) (gSeq (gSetD 2 (fOp addD (fVar 2) (fLst (aCons (fOp addD (fC (.str "when cheap 1_0")) (fVar 1)) (aCons (fOp addD (fC (.str "when from 4/2")) (fVar 1)) (aCons (fC (.str "when fill sun take need works wait now")) aNil)))))) (gRet (fOp ixD (fVar 2) (fOp modD (fVar 0) (fC (.int 30))))))))))))))))
noncomputable def E_l_lines_0 : Ds -> Option PV := (fCall F_l_rule_line (aCons (fCall F_l_wide_rule (aCons (fVar 1) (aCons (fOp addD (fC (.int 600)) (fOp mulD (fC (.int 23)) (fVar 0))) aNil))) aNil))
noncomputable def B_l_lines_0 : Ds -> Option Out := (gSeq (gSetD 4 (fOp modD (fCall F_l_mixed (aCons (fVar 0) (aCons (fOp addD (fC (.int 20)) (fOp mulD (fC (.int 4)) (fVar 3))) aNil))) (fVar 1))) (gSeq (gSetI 2 (fVar 4) (fCall F_l_bent (aCons (fIxO 2 (fVar 4)) (aCons (fCall F_l_mixed (aCons (fVar 0) (aCons (fOp addD (fC (.int 21)) (fOp mulD (fC (.int 4)) (fVar 3))) aNil))) (aCons (fCall F_l_mixed (aCons (fVar 0) (aCons (fOp addD (fC (.int 22)) (fOp mulD (fC (.int 4)) (fVar 3))) aNil))) aNil))))) (gIf (bVal (fOp eqDD (fOp modD (fCall F_l_mixed (aCons (fVar 0) (aCons (fOp addD (fC (.int 23)) (fOp mulD (fC (.int 4)) (fVar 3))) aNil))) (fC (.int 2))) (fC (.int 0)))) (gSetI 2 (fVar 4) (fCall F_l_odd (aCons (fCall F_l_mixed (aCons (fVar 0) (aCons (fOp addD (fC (.int 21)) (fOp mulD (fC (.int 4)) (fVar 3))) aNil))) aNil))) gNext)))
noncomputable def F_l_lines : List PyData -> Option PV := fnF 1 5 (gSeq (gSetD 1 (fOp addD (fC (.int 1)) (fOp modD (fCall F_l_mixed (aCons (fVar 0) (aCons (fC (.int 0)) aNil))) (fC (.int 5))))) (gSeq (gIf (bVal (fOp eqDD (fOp modD (fOp fdivD (fCall F_l_mixed (aCons (fVar 0) (aCons (fC (.int 0)) aNil))) (fC (.int 5))) (fC (.int 4))) (fC (.int 0)))) (gSetD 1 (fOp addD (fC (.int 18)) (fOp modD (fCall F_l_mixed (aCons (fVar 0) (aCons (fC (.int 1)) aNil))) (fC (.int 7))))) gNext) (gSeq (gSet 2 (fComp (iFn rng1 (aCons (fVar 1) aNil)) gtName bTrue E_l_lines_0)) (gSeq (gFor (iFn rng1 (aCons (fOp modD (fCall F_l_mixed (aCons (fVar 0) (aCons (fC (.int 2)) aNil))) (fC (.int 3))) aNil)) (sName 3) B_l_lines_0) (gRetV 2)))))
noncomputable def E_law_0 : Ds -> Option PV := (fVar 0)
noncomputable def Q_law_0 : Ds -> Option Bool := (bOr (bVal (fOp eqDD (fVar 0) (fC (.int 20)))) (bNot (bVal (fCall F_l_is_rule (aCons (fOp ixD (fVar 2) (fVar 0)) aNil)))))
noncomputable def F_law (cE : Addr) : List PyData -> Option PV := fnF 1 7 (gSeq (gSetD 1 (fCall F_l_lines (aCons (fVar 0) aNil))) (gSeq (gSetD 2 (fComp (iFn rng1 (aCons (fCall lenD (aCons (fVar 1) aNil)) aNil)) gtName Q_law_0 E_law_0)) (gSeq (gSetD 3 (fC .none)) (gSeq (gSetD 4 (fC .none)) (gSeq (gTryA cE 3 5 (FX_read_keeper cE) (aCons (fVar 1) aNil) (gSetD 4 (fVar 5))) (gSeq (gIf (bVal (fOp eqDD (fCall lenD (aCons (fVar 2) aNil)) (fC (.int 0)))) (gRet (fAnd (fOp isD (fVar 4) (fC .none)) (fAnd (fIsin "tuple" (fVar 3)) (fOp eqDD (fCall lenD (aCons (fVar 3) aNil)) (fCall lenD (aCons (fVar 1) aNil)))))) gNext) (gSeq (gIf (bOr (bNot (bVal (fIsE cE true (fVar 4)))) (bNot (bVal (fIsE cE true (fVar 4))))) (gRet (fC (.bool false))) gNext) (gSeq (gIf (bOr (bVal (fIsE cE false (fVar 4))) (bOr (bVal (fIsE cE false (fVar 4))) (bVal (fIsE cE false (fVar 4))))) (gRet (fC (.bool false))) gNext) (gSeq (gSetD 6 (fFld "place" (fVar 4))) (gRet (fAnd (fNot (fIsE cE false (fVar 4))) (fAnd (fOp eqDD (fVar 6) (fOp ixD (fVar 2) (fC (.int 0)))) (fNot (fIsin "bool" (fVar 6)))))))))))))))
end
end Law
set_option maxHeartbeats 400000
local macro_rules | `(tactic| walk_at "r") => `(tactic| simp only [L2.fnF, L2.gSeq_eq, L2.seqK_next, L2.seqK_ret, L2.seqK_brk, L2.seqK_cont, L2.gSet_eq, L2.letP_some, L2.gSetD_eq, L2.letK_some, L2.gIf, L2.gRet, L2.gRetV, L2.gRetN, L2.gNext, L2.gPass, L2.gBreak, L2.gCont, L2.gDrop, L2.gPar, L2.gApp_eq, L2.gFor, L2.gWhile, L2.gFrz1, L2.frz1, L2.fVar, L2.fC, L2.fOp, L2.fUn, L2.fCall, L2.fTup, L2.fLst, L2.fSl, L2.fIf, L2.fAnd, L2.fOr, L2.fNot, L2.fChain, L2.fIsin, L2.fFlat, L2.Flat, L2.fFrz, L2.frz, L2.fComp, L2.oNone, L2.oSome, L2.asI_int, L2.asB_bool, L2.aCons, L2.aNil, L2.bVal, L2.bNot, L2.bAnd, L2.bOr, L2.bTrue, L2.iFn, L2.iSq, L2.seqOf_list, L2.seqOf_tup, L2.outV_ret, L2.outV_next, L2.dats_nil, L2.dats_cons, L2.sName, L2.sTup, L2.sCons, L2.sNil, L2.gtName, L2.gtTup, L2.PV.d_dat, L2.PV.d_own, L2.muAbs,
 L2.addD_int, L2.subD_int, L2.ltD_int, L2.leD_int, L2.gtD_int, L2.geD_int, L2.eqDD_int, L2.neDD_int, L2.eqDD_str, L2.neDD_str, L2.ixD_tup, L2.ixD_list, L2.absD_int, L2.negD_int, L2.lenD_list, L2.lenD_tup, L2.tupD_list, L2.tupD_tup, L2.listD_list, L2.listD_tup, L2.slD_tup, L2.slD_list, L2.isD_none, L2.isNotD_none, L2.chain_if, L2.intD_int, L2.intD_bool, L2.sumD_list, L2.enumD_seq, L2.fIxO, L2.fListO, L2.gMut0, L2.isNoneD, L2.atI_0, L2.atI_1, L2.atI_2, L2.atI_3, L2.atI_4, L2.atI_5, L2.atI_6, L2.isI, L2.tyOf, String.reduceBEq,
 Option.bind_some, Option.bind_none, Option.map_some, Option.map_none, List.map_cons, List.map_nil, List.length_cons, List.length_nil, List.replicate, List.cons_append, List.nil_append, List.append_nil, List.set_cons_zero, List.set_cons_succ, List.getElem?_cons_zero, List.getElem?_cons_succ, Nat.reduceAdd, Nat.reduceSub, Nat.reduceEqDiff, Nat.reduceLeDiff, Nat.reduceLT, Int.reduceToNat, Int.cast_ofNat_Int, eq_self,
 if_true, if_false, reduceIte, decide_eq_true_eq, decide_true, decide_false, Bool.false_eq_true, Bool.not_eq_true', decide_eq_false_iff_not, Bool.not_true, Bool.not_false, not_true_eq_false, not_false_eq_true, Bool.true_or, Bool.false_or, Bool.or_true, Bool.or_false, Bool.and_true, Bool.true_and, Bool.and_false, Bool.false_and, reduceCtorEq, and_self])
namespace Law
open PySem L2
noncomputable abbrev gc (a b : Int) : Int := (Int.gcd a b : Nat)
theorem gcd_fmod (x y : Int) : Int.gcd y (x.fmod y) = Int.gcd x y := by
 rw [Int.fmod_def]
 apply Nat.dvd_antisymm
 . apply Int.dvd_gcd
   . have h1 : ((Int.gcd y (x - y * x.fdiv y) : Nat) : Int) ∣ y := Int.gcd_dvd_left ..
     have h2 : ((Int.gcd y (x - y * x.fdiv y) : Nat) : Int) ∣ x - y * x.fdiv y := Int.gcd_dvd_right ..
     have h3 := Int.dvd_add h2 (Int.dvd_mul_of_dvd_left (c := x.fdiv y) h1)
     rwa [Int.sub_add_cancel] at h3
   . exact Int.gcd_dvd_left ..
 . apply Int.dvd_gcd
   . exact Int.gcd_dvd_right ..
   . exact Int.dvd_sub (Int.gcd_dvd_left ..) (Int.dvd_mul_of_dvd_left (Int.gcd_dvd_right ..))
theorem natAbs_fmod_lt (x : Int) {y : Int} (h : y ≠ 0) : (x.fmod y).natAbs < y.natAbs := by
 rcases Int.lt_or_gt_of_ne h with hy | hy
 . have e : Int.fmod x y = x % y + if 0 <= y \/ y ∣ x then 0 else y := Int.fmod_eq_emod
   have h1 := Int.emod_nonneg x h
   have h2 := Int.emod_lt x h
   split at e <;> omega
 . have h1 := Int.fmod_nonneg_of_pos x hy
   have h2 := Int.fmod_lt_of_pos x hy
   omega
noncomputable def lowF (t b : Int) : Int × Int := (t.fdiv (if b < 0 then -gc t b else gc t b), b.fdiv (if b < 0 then -gc t b else gc t b))
structure Frac (m : Nat) (q : Int × Int) : Prop where
 pos : 0 < q.2
 low : Int.gcd q.1 q.2 = 1
 bt : Bt m q.1
 bb : Bt m q.2
theorem gc_bt {m : Nat} {t b : Int} (hb : b ≠ 0) (h : Bt m b) : Bt m (gc t b) := h.of_le (by
 have h1 := Int.gcd_le_natAbs_right t hb
 show ((Int.gcd t b : Nat) : Int).natAbs <= _
 omega)
theorem gc_ne {t b : Int} (hb : b ≠ 0) : gc t b ≠ 0 := by
 have h1 := Int.gcd_pos_of_ne_zero_right t hb
 show ((Int.gcd t b : Nat) : Int) ≠ 0
 omega
theorem gc_abs (t b : Int) : gc (if t < 0 then -t else t) (if b < 0 then -b else b) = gc t b := by
 show ((Int.gcd _ _ : Nat) : Int) = (Int.gcd t b : Nat)
 have e1 : ∀ x y : Int, Int.gcd (if x < 0 then -x else x) y = Int.gcd x y := fun x y => by split <;> simp
 have e2 : ∀ x y : Int, Int.gcd x (if y < 0 then -y else y) = Int.gcd x y := fun x y => by split <;> simp
 rw [e1, e2]
noncomputable abbrev fr (q : Int × Int) : PyData := .tuple [.int q.1, .int q.2]
theorem C_common (x y : Int) (z : Option PV) : C_common_divisor_0 [iD x, iD y, z] = some (!decide (y = 0)) := by
 unfold C_common_divisor_0
 walk_at "r"
theorem B_common (x : Int) {y : Int} (z : Option PV) (h : y ≠ 0) : B_common_divisor_0 [iD x, iD y, z] = some (.next [iD y, iD (x.fmod y), iD (x.fmod y)]) := by
 unfold B_common_divisor_0
 walk_at "r"
 rw [modD_int h]
 walk_at "r"
theorem common_eq {x y : Int} (hx : 0 <= x) (hy : 0 <= y) : F_common_divisor [.int x, .int y] = some (.dat (.int (gc x y))) := by
 unfold F_common_divisor
 walk_at "r"
 obtain ⟨ds', h1, ⟨x', y', z', rfl, hg, hx', hy'⟩, h3⟩ := whileD_by (Fc := C_common_divisor_0) (G := B_common_divisor_0) (fun ds => ∃ x' y' z', ds = [iD x', iD y', z'] /\ gc x' y' = gc x y /\ 0 <= x' /\ 0 <= y') (fun ds => muAbs 1 ds - 1) (by
  rintro ds ⟨x', y', z', rfl, hg, hx', hy'⟩
  rw [C_common]
  by_cases h : y' = 0
  . left; simp [h]
  . right
    refine ⟨by simp [h], _, B_common x' z' h, ⟨y', x'.fmod y', _, rfl, ?_, hy', Int.fmod_nonneg_of_pos x' (by omega)⟩, ?_⟩
    . rw [<- hg]
      show ((Int.gcd y' (x'.fmod y') : Nat) : Int) = (Int.gcd x' y' : Nat)
      rw [gcd_fmod]
    . have := natAbs_fmod_lt x' h
      walk_at "r"
      omega) (y.natAbs + 1) [iD x, iD y, none] ⟨x, y, none, rfl, rfl, hx, hy⟩ (by walk_at "r"; omega)
 rw [C_common] at h3
 have hz : y' = 0 := by simpa using h3
 subst hz
 have e : gc x' 0 = x' := by show ((Int.gcd x' 0 : Nat) : Int) = x'; rw [Int.gcd_zero_right]; omega
 rw [h1, <- hg, e]
 walk_at "r"
theorem fraction_eq {t b : Int} (hb : b ≠ 0) (hbb : Bt 8000 b) : F_fraction [.int t, .int b] = some (.dat (fr (lowF t b))) := by
 unfold F_fraction
 walk_at "r"
 rw [if_neg hb]
 walk_at "r"
 rw [common_eq (by split <;> omega) (by split <;> omega), gc_abs]
 walk_at "r"
 have hg := gc_ne (t := t) hb
 have hgb := gc_bt (t := t) hb hbb
 unfold lowF
 by_cases h0 : b < 0
 . simp only [if_pos h0]
   walk_at "r"
   rw [fdivD_int (by omega) hgb.neg, fdivD_int (by omega) hgb.neg]
   rfl
 . simp only [if_neg h0]
   walk_at "r"
   rw [fdivD_int hg hgb, fdivD_int hg hgb]
   rfl
theorem cpow_10 {j : Int} (h0 : 0 <= j := by decide) (h1 : j <= 1000000 := by decide) : CPow 10 j := ⟨h0, h1, by decide⟩
end Law
local macro_rules | `(tactic| walk_at "t") => `(tactic| simp only [L2.fnF, L2.fAlt, L2.isFnD, L2.fMeth, L2.fLst, L2.iWk, L2.walkOf, L2.startsD, L2.findD, L2.gSeq_eq, L2.seqK_next, L2.seqK_ret, L2.seqK_brk, L2.seqK_cont, L2.gSet_eq, L2.letP_some, L2.gSetD_eq, L2.letK_some, L2.gIf, L2.gRet, L2.gRetV, L2.gRetN, L2.gNext, L2.gPass, L2.gBreak, L2.gCont, L2.gDrop, L2.gPar, L2.gApp_eq, L2.gFor, L2.gWhile, L2.gFrz1, L2.frz1, L2.fVar, L2.fC, L2.fOp, L2.fUn, L2.fCall, L2.fTup, L2.fLst, L2.fSl, L2.fIf, L2.fAnd, L2.fOr, L2.fNot, L2.fChain, L2.fIsin, L2.fFlat, L2.Flat, L2.fFrz, L2.frz, L2.fComp, L2.oNone, L2.oSome, L2.asI_int, L2.asB_bool, L2.aCons, L2.aNil, L2.bVal, L2.bNot, L2.bAnd, L2.bOr, L2.bTrue, L2.iFn, L2.iSq, L2.seqOf_list, L2.seqOf_tup, L2.outV_ret, L2.outV_next, L2.dats_nil, L2.dats_cons, L2.sName, L2.sTup, L2.sCons, L2.sNil, L2.gtName, L2.gtTup, L2.PV.d_dat, L2.PV.d_own, L2.muAbs,
 L2.addD_int, L2.subD_int, L2.ltD_int, L2.leD_int, L2.gtD_int, L2.geD_int, L2.eqDD_int, L2.neDD_int, L2.eqDD_str, L2.neDD_str, L2.ixD_tup, L2.ixD_list, L2.absD_int, L2.negD_int, L2.lenD_list, L2.lenD_tup, L2.tupD_list, L2.tupD_tup, L2.listD_list, L2.listD_tup, L2.slD_tup, L2.slD_list, L2.isD_none, L2.isNotD_none, L2.chain_if, L2.intD_int, L2.intD_bool, L2.sumD_list, L2.enumD_seq, L2.fIxO, L2.fListO, L2.gMut0, L2.isNone_tup, L2.isNone_lst, L2.isNone_int, L2.isNone_non, L2.isNone_str, L2.atI_0, L2.atI_1, L2.atI_2, L2.atI_3, L2.atI_4, L2.atI_5, L2.atI_6, L2.isI, L2.tyOf, String.reduceBEq,
 Option.bind_some, Option.bind_none, Option.map_some, Option.map_none, List.map_cons, List.map_nil, List.length_cons, List.length_nil, List.replicate, List.cons_append, List.nil_append, List.append_nil, List.set_cons_zero, List.set_cons_succ, List.getElem?_cons_zero, List.getElem?_cons_succ, Nat.reduceAdd, Nat.reduceSub, Nat.reduceEqDiff, Nat.reduceLeDiff, Nat.reduceLT, Int.reduceToNat, Int.cast_ofNat_Int, eq_self,
 if_true, if_false, reduceIte, decide_eq_true_eq, decide_true, decide_false, Bool.false_eq_true, Bool.not_eq_true', decide_eq_false_iff_not, Bool.not_true, Bool.not_false, not_true_eq_false, not_false_eq_true, Bool.true_or, Bool.false_or, Bool.or_true, Bool.or_false, Bool.and_true, Bool.true_and, Bool.and_false, Bool.false_and, reduceCtorEq, and_self])
namespace Law
open PySem L2 PySem.NumText PySem.StrLaws
noncomputable abbrev txtI (i : Int) : Str := Str.ofString (toString i)
theorem lg_small {n : Nat} (h : n < 10 ^ 60) : n.log2 < 1920 := by
 by_cases h0 : n = 0
 . subst h0; decide
 . exact (Nat.log2_lt h0).mpr (Nat.lt_of_lt_of_le (Nat.lt_trans h (show 10 ^ 60 < 2 ^ 200 by decide)) (Nat.pow_le_pow_right (by decide) (by decide)))
theorem strD_int {i : Int} (h : i.natAbs < 10 ^ 60) : strD [.int i] = some (.dat (.str (txtI i))) := by
 show (if i.natAbs.log2 < 1920 then some (PV.dat (.str (txtI i))) else none) = _
 rw [if_pos (lg_small h)]
theorem joinD_one (z : Str) (h : z.length <= 1000) : joinD (.str "") [.list [.str z]] = some (.dat (.str z)) := by
 have e : strsOf [.str z] = some [z] := rfl
 unfold joinD
 simp only [e, Option.bind_some]
 have hj : JoinOk "" [z] = true := by
  unfold JoinOk
  show (!decide (0 + z.length + 0 > sizeLine)) = true
  have : ¬ (0 + z.length + 0 > sizeLine) := by have := line63; have : (1000 : Nat) <= sizeLine := by decide
                                               omega
  rw [decide_eq_false this]
  rfl
 rw [if_pos hj]
 rfl
theorem len_txt {i : Int} (h : i.natAbs < 10 ^ 60) : (txtI i).length <= 61 := by
 rw [lz_len, lz_int]
 have hl := (numL_len (n := i.natAbs) (k := 60) (by decide)).mpr h
 unfold intL
 split
 . rw [List.length_cons]; omega
 . omega
theorem figures_eq {n : Int} (h0 : 0 <= n) (h : n.natAbs < 10 ^ 60) : F_figures_of [.int n] = some (.dat (.str (txtI n))) := by
 have hC : C_figures_of_0 [iD n, iD (10 ^ 60), some (.own []), iD n] = some false := by
  unfold C_figures_of_0
  walk_at "t"
  congr 1
  exact decide_eq_false (by omega)
 unfold F_figures_of
 walk_at "t"
 rw [powD_int cpow_10]
 walk_at "t"
 rw [whileD_false hC]
 walk_at "t"
 rw [strD_int h, appK_some (l := []) _ rfl (by decide)]
 walk_at "t"
 show ((joinD (.str "") [.list [.str (txtI n)]]).bind _).bind _ = _
 rw [joinD_one _ (Nat.le_trans (len_txt h) (by decide))]
 rfl
theorem addD_str {x y : Str} (h : x.length + y.length <= 1000000) : addD (.str x) (.str y) = some (.dat (.str (x ++ y))) := by
 show (if x.length + y.length <= 1000000 then some (PV.dat (.str (x ++ y))) else none) = _
 rw [if_pos h]
theorem lit_minus : lz (Str.ofString "-") = [45] := by decide +kernel
theorem lit_slash : lz (Str.ofString "/") = [47] := by decide +kernel
theorem minus_txt {i : Int} (h : i < 0) : (Str.ofString "-" ++ txtI (-i)) = txtI i := by
 apply str_ext
 rw [lz_app, lit_minus, lz_int, lz_int]
 unfold intL
 rw [if_neg (by omega), if_pos h, Int.natAbs_neg]
 rfl
noncomputable def txtF (p : Int × Int) : Str := if p.2 = 1 then txtI p.1 else txtI p.1 ++ Str.ofString "/" ++ txtI p.2
structure Small (p : Int × Int) : Prop where
 top : p.1.natAbs < 10 ^ 60
 bot : p.2.natAbs < 10 ^ 60
 pos : 0 < p.2
theorem written_eq {p : Int × Int} (h : Small p) : F_written [fr p] = some (.dat (.str (txtF p))) := by
 have hb0 : 0 <= p.2 := by have := h.pos; omega
 have lt1 := len_txt h.top
 have lt2 := len_txt h.bot
 have ls : (Str.ofString "/").length = 1 := by decide +kernel
 have lm : (Str.ofString "-").length = 1 := by decide +kernel
 have ha : 0 <= (if p.1 < 0 then -p.1 else p.1) := by split <;> omega
 have han : (if p.1 < 0 then -p.1 else p.1).natAbs < 10 ^ 60 := by
  split
  . rw [Int.natAbs_neg]; exact h.top
  . exact h.top
 unfold F_written txtF
 walk_at "t"
 rw [figures_eq ha han]
 walk_at "t"
 have hs : (if p.1 < 0 then letK (addD (.str (Str.ofString "-")) (.str (txtI (if p.1 < 0 then -p.1 else p.1)))) 1 [some (.dat (fr p)), some (.dat (.str (txtI (if p.1 < 0 then -p.1 else p.1))))] else some (Out.next [some (.dat (fr p)), some (.dat (.str (txtI (if p.1 < 0 then -p.1 else p.1))))])) = some (Out.next [some (.dat (fr p)), some (.dat (.str (txtI p.1)))]) := by
  by_cases hn : p.1 < 0
  . have l3 := len_txt (i := -p.1) (by rw [Int.natAbs_neg]; exact h.top)
    rw [if_pos hn, if_pos hn, addD_str (by omega), minus_txt hn]
    rfl
  . rw [if_neg hn, if_neg hn]
 rw [hs]
 walk_at "t"
 by_cases h1 : p.2 = 1
 . rw [if_neg (by simpa using h1), if_pos h1]
   walk_at "t"
 . rw [if_pos (by simpa using h1), if_neg h1, addD_str (by omega)]
   walk_at "t"
   rw [figures_eq hb0 h.bot]
   walk_at "t"
   rw [addD_str (by rw [lz_len, lz_app, List.length_append, <- lz_len, <- lz_len]; omega)]
   walk_at "t"
noncomputable def dig (c : Nat) : Bool := decide (48 <= c /\ c <= 57)
theorem all_dig {cs : List Nat} : cs.all dig = true ↔ AllDigits cs := by
 rw [List.all_eq_true]
 exact ⟨fun h c hc => of_decide_eq_true (h c hc), fun h c hc => decide_eq_true (h c hc)⟩
theorem lit_fig : lz (Str.ofString "0123456789") = [48, 49, 50, 51, 52, 53, 54, 55, 56, 57] := by decide +kernel
theorem fig_mem (c : Nat) : decide (c ∈ lz (Str.ofString "0123456789")) = dig c := by
 rw [lit_fig]
 unfold dig
 rw [Bool.eq_iff_iff, decide_eq_true_eq, decide_eq_true_eq]
 simp only [List.mem_cons, List.not_mem_nil, or_false]
 omega
theorem notIn_fig (c : Nat) : (or2 notInD notInSD) (.str ⟨#[c]⟩) (.str (Str.ofString "0123456789")) = some (.dat (.bool (!dig c))) := by
 show notInSD (.str ⟨#[c]⟩) (.str (Str.ofString "0123456789")) = _
 show some (PV.dat (.bool (!Txt.contains (Str.ofString "0123456789") ⟨#[c]⟩))) = _
 rw [contains_one, fig_mem]
noncomputable def rdFig (cs : List Nat) : Option Nat := if cs ≠ [] /\ cs.length <= 60 /\ cs.all dig = true then some (digitsVal cs) else none
noncomputable def natD : Option Nat -> PyData
 | none => .none
 | some n => .int (n : Nat)
noncomputable def intO : Option Int -> PyData
 | none => .none
 | some n => .int n
theorem B_readfig (z : Str) (c : Nat) : B_read_figures_0 [some (.dat (.str z)), some (.dat (.str ⟨#[c]⟩))] = if dig c = true then some (.next [some (.dat (.str z)), some (.dat (.str ⟨#[c]⟩))]) else some (.ret (.dat .none)) := by
 unfold B_read_figures_0
 walk_at "t"
 rw [show (c_FIGURES : PyData) = .str (Str.ofString "0123456789") from rfl, notIn_fig]
 walk_at "t"
 cases dig c <;> rfl
theorem for_readfig (z : Str) : ∀ (l : List Nat) (y : Option PV), (l.all dig = true -> ∃ y', forD (sName 1) B_read_figures_0 (l.map fun c => .str ⟨#[c]⟩) [some (.dat (.str z)), y] = some (.next [some (.dat (.str z)), y'])) /\ (l.all dig = false -> forD (sName 1) B_read_figures_0 (l.map fun c => .str ⟨#[c]⟩) [some (.dat (.str z)), y] = some (.ret (.dat .none)))
 | [], y => ⟨fun _ => ⟨y, rfl⟩, fun h => by cases h⟩
 | c :: r, y => by
  obtain ⟨h1, h2⟩ := for_readfig z r (some (.dat (.str ⟨#[c]⟩)))
  have hb := B_readfig z c
  rw [List.all_cons, List.map_cons]
  cases hc : dig c with
  | true =>
   rw [hc, if_pos rfl] at hb
   have e := forD_next (gt := sName 1) (G := B_read_figures_0) (d := .str ⟨#[c]⟩) (r := r.map fun c => .str ⟨#[c]⟩) (ds := [some (.dat (.str z)), y]) rfl hb
   rw [e, Bool.true_and]
   exact ⟨h1, h2⟩
  | false =>
   rw [hc, if_neg (by decide)] at hb
   refine ⟨fun h => (by cases h), fun _ => ?_⟩
   unfold forD
   show (B_read_figures_0 [some (.dat (.str z)), some (.dat (.str ⟨#[c]⟩))]).bind _ = _
   rw [hb]
   rfl
theorem eq_empty (z : Str) : (z = Str.ofString "") ↔ lz z = [] := ⟨fun h => by rw [h]; decide +kernel, fun h => str_ext (by rw [h]; decide +kernel)⟩
theorem lenD_str {z : Str} (h : z.length <= 1000000) : lenD [.str z] = some (.dat (.int (z.length : Nat))) := by
 show (if z.length <= 1000000 then some (PV.dat (.int (z.length : Nat))) else none) = _
 rw [if_pos h]
theorem intD_str {z : Str} (h1 : AllDigits (lz z)) (h2 : lz z ≠ []) (h3 : (lz z).length <= 60) : (or1 intD intSD) [.str z] = some (.dat (.int (digitsVal (lz z) : Nat))) := by
 have hl := lz_len z
 show (if z.length <= 640 then (PySem.intText? z).bind fun n => some (PV.dat (.int n)) else none) = _
 rw [if_pos (by omega), intText_digits h1 h2 (by omega)]
 rfl
theorem readfig_eq {z : Str} (hz : z.length <= 1000) : F_read_figures [.str z] = some (.dat (natD (rdFig (lz z)))) := by
 have hl := lz_len z
 unfold F_read_figures rdFig
 walk_at "t"
 rw [lenD_str (by omega), show (c_MOST_FIGURES : PyData) = .int 60 from rfl]
 walk_at "t"
 by_cases h1 : lz z = []
 . rw [if_pos ((eq_empty z).mpr h1), if_neg (show ¬ (lz z ≠ [] /\ (lz z).length <= 60 /\ (lz z).all dig = true) from fun hh => hh.1 h1)]
   rfl
 . rw [if_neg (fun e => h1 ((eq_empty z).mp e))]
   by_cases h2 : (lz z).length <= 60
   . have e2 : ¬ ((z.length : Int) > 60) := by omega
     walk_at "t"
     rw [if_neg (show ¬ ((60 : Int) < (z.length : Nat)) by omega)]
     walk_at "t"
     obtain ⟨f1, f2⟩ := for_readfig z (lz z) none
     cases h3 : (lz z).all dig with
     | true =>
      obtain ⟨y', f1⟩ := f1 h3
      rw [if_pos ⟨h1, h2, rfl⟩]
      show (seqK (forD (sName 1) B_read_figures_0 ((lz z).map fun c => .str ⟨#[c]⟩) [some (.dat (.str z)), none]) _).bind _ = _
      rw [f1]
      walk_at "t"
      rw [intD_str (all_dig.mp h3) h1 h2]
      rfl
     | false =>
      rw [if_neg (show ¬ (lz z ≠ [] /\ (lz z).length <= 60 /\ false = true) from fun hh => by cases hh.2.2)]
      show (seqK (forD (sName 1) B_read_figures_0 ((lz z).map fun c => .str ⟨#[c]⟩) [some (.dat (.str z)), none]) _).bind _ = _
      rw [f2 h3]
      rfl
   . have e2 : ((z.length : Int) > 60) := by omega
     rw [if_neg (show ¬ (lz z ≠ [] /\ (lz z).length <= 60 /\ (lz z).all dig = true) from fun hh => h2 hh.2.1)]
     walk_at "t"
     rw [if_pos (show (60 : Int) < (z.length : Nat) by omega)]
     rfl
theorem ofs_minus : Str.ofString "-" = ⟨#[45]⟩ := str_ext (by decide +kernel)
theorem ofs_slash : Str.ofString "/" = ⟨#[47]⟩ := str_ext (by decide +kernel)
noncomputable def rdSig (cs : List Nat) : Option Int := if cs.head? = some 45 then (rdFig (cs.drop 1)).map fun n => -((n : Nat) : Int) else (rdFig cs).map fun n => ((n : Nat) : Int)
theorem natD_int (o : Option Nat) : natD o = intO (o.map fun n => ((n : Nat) : Int)) := by cases o <;> rfl
theorem slAD_from {z : Str} (h : z.length <= 1000000) (i : Nat) : slAD (.str z) (some (i : Int)) none = some (.dat (.str (Txt.slice z (some (i : Int)) none))) := by
 show (if z.length <= 1000000 then some (PV.dat (.str (Txt.slice z (some (i : Int)) none))) else none) = _
 rw [if_pos h]
theorem slAD_to {z : Str} (h : z.length <= 1000000) (i : Nat) : slAD (.str z) none (some (i : Int)) = some (.dat (.str (Txt.slice z none (some (i : Int))))) := by
 show (if z.length <= 1000000 then some (PV.dat (.str (Txt.slice z none (some (i : Int))))) else none) = _
 rw [if_pos h]
theorem readsig_eq {z : Str} (hz : z.length <= 1000) : F_read_signed [.str z] = some (.dat (intO (rdSig (lz z)))) := by
 have hl := lz_len z
 unfold F_read_signed rdSig
 walk_at "t"
 rw [ofs_minus, starts_one]
 walk_at "t"
 by_cases h : (lz z).head? = some 45
 . rw [if_pos h]
   simp only [h, decide_true, Bool.not_true, Bool.false_eq_true, if_false]
   walk_at "t"
   rw [show (1 : Int) = ((1 : Nat) : Int) from rfl, slAD_from (by omega)]
   walk_at "t"
   rw [readfig_eq (Nat.le_trans (Txt.slice_le z _ _) hz), show lz (Txt.slice z (some 1) none) = (lz z).drop 1 from lz_from z 1]
   walk_at "t"
   cases rdFig ((lz z).drop 1) with
   | none => rfl
   | some n => rfl
 . rw [if_neg h]
   simp only [h, decide_false, Bool.not_false, if_true]
   rw [readfig_eq hz, natD_int]
   rfl
theorem val_lt {cs : List Nat} (h : AllDigits cs) : digitsVal cs < 10 ^ cs.length := by
 have key : ∀ (l : List Nat) (a : Nat), AllDigits l -> l.foldl (fun acc c => acc * 10 + (c - 48)) a < (a + 1) * 10 ^ l.length := by
  intro l
  induction l with
  | nil => intro a _; simp
  | cons d l ih =>
   intro a hl
   have hd := hl.head
   have := ih (a * 10 + (d - 48)) hl.tail
   rw [List.foldl_cons]
   refine Nat.lt_of_lt_of_le this ?_
   rw [List.length_cons, Nat.pow_succ, Nat.mul_comm (10 ^ l.length) 10, <- Nat.mul_assoc]
   exact Nat.mul_le_mul_right _ (by omega)
 have := key cs 0 h
 simpa [digitsVal] using this
theorem rdFig_lt {cs : List Nat} {n : Nat} (h : rdFig cs = some n) : n < 10 ^ 60 := by
 unfold rdFig at h
 split at h
 . rename_i hh
   cases h
   exact Nat.lt_of_lt_of_le (val_lt (all_dig.mp hh.2.2)) (Nat.pow_le_pow_right (by decide) hh.2.1)
 . cases h
theorem rdSig_lt {cs : List Nat} {n : Int} (h : rdSig cs = some n) : n.natAbs < 10 ^ 60 := by
 unfold rdSig at h
 split at h
 . cases e : rdFig (cs.drop 1) with
   | none => rw [e] at h; cases h
   | some m =>
    rw [e] at h
    cases h
    have := rdFig_lt e
    rw [Int.natAbs_neg]
    exact this
 . cases e : rdFig cs with
   | none => rw [e] at h; cases h
   | some m =>
    rw [e] at h
    cases h
    exact rdFig_lt e
noncomputable def cutA (cs : List Nat) : List Nat := if 47 ∈ cs then cs.take (cs.idxOf 47) else cs
noncomputable def cutB (cs : List Nat) : List Nat := if 47 ∈ cs then cs.drop (cs.idxOf 47 + 1) else []
noncomputable def frO : Option (Int × Int) -> PyData
 | none => .none
 | some q => fr q
noncomputable def judge (cs : List Nat) : Option Int -> Option Nat -> Option (Int × Int)
 | some t, some b => if b = 0 then none else if lz (txtF (lowF t b)) = cs then some (lowF t b) else none
 | _, _ => none
noncomputable def rdFrac (cs : List Nat) : Option (Int × Int) := judge cs (rdSig (cutA cs)) (if 47 ∈ cs then rdFig (cutB cs) else some 1)
theorem cut_parts (z : Str) : ∃ a b c, cutAtD z ⟨#[47]⟩ = [a, b, c] /\ lz a = cutA (lz z) /\ lz b = (if 47 ∈ lz z then [47] else []) /\ lz c = cutB (lz z) := by
 have h := cut_one z 47
 unfold cutA cutB
 have three : ∀ {l : List Str} {p q r : List Nat}, l.map lz = [p, q, r] -> ∃ a b c, l = [a, b, c] /\ lz a = p /\ lz b = q /\ lz c = r := fun {l p q r} h => by
  have hl := congrArg List.length h
  rw [List.length_map] at hl
  obtain ⟨a, b, c, rfl⟩ := len3 hl
  simp only [List.map_cons, List.map_nil, List.cons.injEq, and_true] at h
  exact ⟨a, b, c, rfl, h.1, h.2.1, h.2.2⟩
 by_cases hm : 47 ∈ lz z
 . rw [if_pos hm] at h
   simp only [if_pos hm]
   exact three h
 . rw [if_neg hm] at h
   simp only [if_neg hm]
   exact three h
theorem partD_slash {z : Str} (h : z.length <= 1000) : partD (.str z) [.str (Str.ofString "/")] = some (.dat (.tuple ((cutAtD z ⟨#[47]⟩).map .str))) := by
 show (if ((Str.ofString "/").length == 0) = false /\ z.length <= 1000000 then some (PV.dat (.tuple ((cutAtD z (Str.ofString "/")).map .str))) else none) = _
 rw [if_pos ⟨by decide +kernel, by omega⟩, ofs_slash]
theorem cutA_len (cs : List Nat) : (cutA cs).length <= cs.length := by
 unfold cutA
 split
 . rw [List.length_take]; omega
 . exact Nat.le_refl _
theorem cutB_len (cs : List Nat) : (cutB cs).length <= cs.length := by
 unfold cutB
 split
 . rw [List.length_drop]; omega
 . exact Nat.zero_le _
theorem ediv_le (t : Int) {g : Int} : (t / g).natAbs <= t.natAbs := Int.natAbs_ediv_le_natAbs t g
theorem low_small {t b : Int} (hb : 0 < b) (h1 : t.natAbs < 10 ^ 60) (h2 : b.natAbs < 10 ^ 60) : Small (lowF t b) := by
 have hg : 0 < Int.gcd t b := Int.gcd_pos_of_ne_zero_right t (by omega)
 have hgi : (0 : Int) < gc t b := by show (0 : Int) < ((Int.gcd t b : Nat) : Int); omega
 have e : lowF t b = (t / gc t b, b / gc t b) := by
  unfold lowF
  rw [if_neg (by omega), Int.fdiv_eq_ediv_of_nonneg _ (by omega), Int.fdiv_eq_ediv_of_nonneg _ (by omega)]
 have d2 : gc t b ∣ b := Int.gcd_dvd_right ..
 rw [e]
 exact ⟨Nat.lt_of_le_of_lt (ediv_le t) h1, Nat.lt_of_le_of_lt (ediv_le b) h2, Int.ediv_pos_of_pos_of_dvd hb (by omega) d2⟩
theorem bt_nat {i : Int} (h : i.natAbs < 10 ^ 60) : Bt 8000 i := ⟨Nat.lt_of_lt_of_le (Nat.lt_trans h (show 10 ^ 60 < 2 ^ 200 by decide)) (Nat.pow_le_pow_right (by decide) (by decide))⟩
theorem readfrac_eq {z : Str} (hz : z.length <= 1000) : F_read_fraction [.str z] = some (.dat (frO (rdFrac (lz z)))) := by
 have hl := lz_len z
 obtain ⟨a, b, c, ec, la, lb, lc⟩ := cut_parts z
 have za : a.length <= 1000 := by rw [lz_len, la]; exact Nat.le_trans (cutA_len _) (by omega)
 have zc : c.length <= 1000 := by rw [lz_len, lc]; exact Nat.le_trans (cutB_len _) (by omega)
 have eb : (b = Str.ofString "/") ↔ 47 ∈ lz z := by
  constructor
  . intro e
    rw [e, lit_slash] at lb
    by_cases hm : 47 ∈ lz z
    . exact hm
    . rw [if_neg hm] at lb; cases lb
  . intro hm
    rw [if_pos hm] at lb
    exact str_ext (by rw [lb, lit_slash])
 unfold F_read_fraction rdFrac
 walk_at "t"
 rw [partD_slash hz, ec]
 walk_at "t"
 rw [readsig_eq za, la]
 walk_at "t"
 rw [readfig_eq zc, lc]
 walk_at "t"
 have hs : (if b = Str.ofString "/" then some (Out.next [some (PV.dat (PyData.str z)), some (PV.dat (PyData.tuple [.str a, .str b, .str c])), some (PV.dat (intO (rdSig (cutA (lz z))))), some (PV.dat (natD (rdFig (cutB (lz z))))), none]) else some (Out.next [some (PV.dat (PyData.str z)), some (PV.dat (PyData.tuple [.str a, .str b, .str c])), some (PV.dat (intO (rdSig (cutA (lz z))))), some (PV.dat (PyData.int 1)), none]))
   = some (Out.next [some (PV.dat (PyData.str z)), some (PV.dat (PyData.tuple [.str a, .str b, .str c])), some (PV.dat (intO (rdSig (cutA (lz z))))), some (PV.dat (natD (if 47 ∈ lz z then rdFig (cutB (lz z)) else some 1))), none]) := by
  by_cases hm : 47 ∈ lz z
  . rw [if_pos (eb.mpr hm), if_pos hm]
  . rw [if_neg (fun e => hm (eb.mp e)), if_neg hm]
    rfl
 rw [hs]
 have hbig : ∀ n, (if 47 ∈ lz z then rdFig (cutB (lz z)) else some 1) = some n -> n < 10 ^ 60 := fun n h => by
  split at h
  . exact rdFig_lt h
  . cases h; decide
 generalize hB : (if 47 ∈ lz z then rdFig (cutB (lz z)) else some 1) = B at hbig
 generalize hA : rdSig (cutA (lz z)) = A
 cases A with
 | none => rfl
 | some t =>
  have ht := rdSig_lt hA
  cases B with
  | none => rfl
  | some n =>
   have hn := hbig n rfl
   walk_at "t"
   rw [show intO (some t) = .int t from rfl, show natD (some n) = .int ((n : Nat) : Int) from rfl]
   walk_at "t"
   rw [show judge (lz z) (some t) (some n) = (if n = 0 then none else if lz (txtF (lowF t ((n : Nat) : Int))) = lz z then some (lowF t ((n : Nat) : Int)) else none) from rfl]
   by_cases h0 : n = 0
   . rw [if_pos (show ((n : Nat) : Int) = 0 by omega), if_pos h0]
     rfl
   . rw [if_neg (show ¬ (((n : Nat) : Int) = 0) by omega), if_neg h0]
     walk_at "t"
     have hs := low_small (t := t) (b := ((n : Nat) : Int)) (by omega) ht hn
     rw [fraction_eq (b := ((n : Nat) : Int)) (by omega) (bt_nat (i := ((n : Nat) : Int)) hn)]
     walk_at "t"
     rw [written_eq hs]
     walk_at "t"
     have ez : (txtF (lowF t ((n : Nat) : Int)) = z) ↔ lz (txtF (lowF t ((n : Nat) : Int))) = lz z := ⟨fun e => by rw [e], str_ext⟩
     by_cases he : txtF (lowF t ((n : Nat) : Int)) = z
     . rw [if_pos (ez.mp he), if_neg (by simpa using he)]
       rfl
     . rw [if_neg (fun e => he (ez.mpr e)), if_pos (by simpa using he)]
       rfl
theorem intL_abs {n : Int} (h : 0 <= n) : intL n = numL n.natAbs := by
 unfold intL
 rw [if_neg (by omega)]
theorem numL_head {n : Nat} {c : Nat} (h : (numL n).head? = some c) : 48 <= c /\ c <= 57 := numL_digits n c (List.mem_of_mem_head? (by rw [h]; rfl))
theorem rdFig_num {n : Nat} (h : n < 10 ^ 60) : rdFig (numL n) = some n := by
 have hp := numL_plain n
 have hl := (numL_len (n := n) (k := 60) (by decide)).mpr h
 unfold rdFig
 rw [if_pos ⟨hp.2.1, hl, all_dig.mpr hp.1⟩, numL_val]
theorem rdSig_int {n : Int} (h : n.natAbs < 10 ^ 60) : rdSig (intL n) = some n := by
 unfold rdSig intL
 split
 . rename_i h0
   rw [if_pos (show (45 :: numL n.natAbs).head? = some 45 from rfl), show (45 :: numL n.natAbs).drop 1 = numL n.natAbs from rfl, rdFig_num h]
   show some (-((n.natAbs : Nat) : Int)) = _
   congr 1
   omega
 . rename_i h0
   rw [if_neg (fun q => by have := numL_head q; omega), rdFig_num h]
   show some ((n.natAbs : Nat) : Int) = _
   congr 1
   omega
theorem no_slash_num (n : Nat) : 47 ∉ numL n := fun h => by
 have := numL_digits n 47 h
 omega
theorem no_slash_int (n : Int) : 47 ∉ intL n := by
 unfold intL
 split
 . intro h
   rcases List.mem_cons.mp h with h | h
   . cases h
   . exact no_slash_num _ h
 . exact no_slash_num _
end Law
namespace Law
open PySem L2 PySem.NumText PySem.StrLaws
theorem lz_txtF {q : Int × Int} (hq : 0 < q.2) : lz (txtF q) = if q.2 = 1 then intL q.1 else intL q.1 ++ 47 :: numL q.2.natAbs := by
 unfold txtF
 split
 . rw [lz_int]
 . rw [lz_app, lz_app, lit_slash, lz_int, lz_int, intL_abs (n := q.2) (by omega), List.append_assoc]
   rfl
theorem low_one (n : Int) : lowF n 1 = (n, 1) := by
 have h1 : gc n 1 = 1 := by show ((Int.gcd n 1 : Nat) : Int) = 1; simp
 unfold lowF
 rw [if_neg (by decide), h1]
 simp
theorem rdFrac_int {n : Int} (h : n.natAbs < 10 ^ 60) : rdFrac (intL n) = some (n, 1) := by
 have hs := no_slash_int n
 unfold rdFrac cutA
 rw [if_neg hs, if_neg hs, rdSig_int h]
 show (if (1 : Nat) = 0 then none else if lz (txtF (lowF n ((1 : Nat) : Int))) = intL n then some (lowF n ((1 : Nat) : Int)) else none) = some (n, 1)
 rw [if_neg (by decide), show (((1 : Nat) : Int)) = 1 from rfl, low_one]
 have e : lz (txtF (n, 1)) = intL n := by
  unfold txtF
  rw [if_pos rfl]
  exact lz_int n
 rw [if_pos e]
noncomputable def wholeO (least : Int) : Option (Int × Int) -> PyData
 | none => .none
 | some q => if q.2 = 1 /\ least <= q.1 /\ q.1 <= 1000000 then .int q.1 else .none
noncomputable def figs (cs : List Nat) (b : Bool) : List Nat := if b = true /\ cs.head? = some 45 then cs.drop 1 else cs
noncomputable def numB (cs : List Nat) (b : Bool) : Bool := (figs cs b).all dig && decide (figs cs b ≠ []) && decide ((figs cs b).length <= 7) && !(decide ((figs cs b).head? = some 48) && decide (cs ≠ [48])) && decide (digitsVal (figs cs b) <= 1000000)
noncomputable def leastB (b : Bool) : Int := if b = true then -1000000 else 0
theorem rd_back {cs : List Nat} {q : Int × Int} (h : rdFrac cs = some q) : lz (txtF q) = cs := by
 unfold rdFrac at h
 cases e1 : rdSig (cutA cs) with
 | none => rw [e1] at h; cases (if 47 ∈ cs then rdFig (cutB cs) else some 1) <;> cases h
 | some t =>
  cases e2 : (if 47 ∈ cs then rdFig (cutB cs) else some 1) with
  | none => rw [e1, e2] at h; cases h
  | some b =>
   rw [e1, e2] at h
   have h' : (if b = 0 then none else if lz (txtF (lowF t b)) = cs then some (lowF t b) else none) = some q := h
   split at h'
   . cases h'
   . split at h'
     . rename_i e
       cases h'
       exact e
     . cases h'
theorem num_yes {cs : List Nat} {b : Bool} (h : numB cs b = true) : ∃ n : Int, cs = intL n /\ leastB b <= n /\ n <= 1000000 /\ n.natAbs <= 1000000 := by
 unfold numB at h
 simp only [Bool.and_eq_true, decide_eq_true_eq, Bool.not_eq_true', Bool.and_eq_false_iff, decide_eq_false_iff_not, Decidable.not_not] at h
 obtain ⟨⟨⟨⟨h1, h2⟩, h3⟩, h4⟩, h5⟩ := h
 have hd : AllDigits (figs cs b) := all_dig.mp h1
 by_cases c : b = true /\ cs.head? = some 45
 . have ef : figs cs b = cs.drop 1 := by unfold figs; rw [if_pos c]
   rw [ef] at h2 h3 h4 h5 hd
   cases cs with
   | nil => cases c.2
   | cons d r =>
    have e45 : d = 45 := by simpa using c.2
    subst e45
    rw [show (45 :: r).drop 1 = r from rfl] at h2 h3 h4 h5 hd
    have h48 : r.head? ≠ some 48 := fun z => by
     rcases h4 with h4 | h4
     . exact h4 z
     . simp at h4
    have hp : Plain r := ⟨hd, h2, .inl h48⟩
    have e := numL_of hp
    have n0 : digitsVal r ≠ 0 := fun z => by
     rw [z] at e
     rw [<- e] at h48
     exact h48 (by decide)
    refine ⟨-((digitsVal r : Nat) : Int), ?_, ?_, by omega, by omega⟩
    . unfold intL
      rw [if_pos (by omega), Int.natAbs_neg, Int.natAbs_natCast, e]
    . unfold leastB
      rw [if_pos c.1]
      omega
 . have ef : figs cs b = cs := by unfold figs; rw [if_neg c]
   rw [ef] at h2 h3 h4 h5 hd
   have hp : Plain cs := ⟨hd, h2, h4⟩
   have e := numL_of hp
   refine ⟨((digitsVal cs : Nat) : Int), ?_, ?_, by omega, by omega⟩
   . unfold intL
     rw [if_neg (by omega), Int.natAbs_natCast, e]
   . unfold leastB
     split <;> omega
theorem num_no {cs : List Nat} {b : Bool} {n : Int} (e : cs = intL n) (h0 : leastB b <= n) (h1 : n <= 1000000) : numB cs b = true := by
 have hn : n.natAbs <= 1000000 := by
  unfold leastB at h0
  split at h0 <;> omega
 have hl : (numL n.natAbs).length <= 7 := (numL_len (by decide)).mpr (Nat.lt_of_le_of_lt hn (by decide))
 have hp := numL_plain n.natAbs
 have hv := numL_val n.natAbs
 have fin : ∀ fs : List Nat, figs cs b = fs -> fs = numL n.natAbs -> (fs.head? = some 48 -> cs = [48]) -> numB cs b = true := fun fs ef e2 e3 => by
  unfold numB
  rw [ef, e2]
  rw [e2] at e3
  simp only [Bool.and_eq_true, decide_eq_true_eq, Bool.not_eq_true', Bool.and_eq_false_iff, decide_eq_false_iff_not, Decidable.not_not]
  refine ⟨⟨⟨⟨all_dig.mpr hp.1, hp.2.1⟩, hl⟩, ?_⟩, by rw [hv]; exact hn⟩
  by_cases c : (numL n.natAbs).head? = some 48
  . exact .inr (e3 c)
  . exact .inl c
 by_cases c : n < 0
 . have hb : b = true := by
     cases b with
     | true => rfl
     | false => exact absurd h0 (by show ¬ (0 : Int) <= n; omega)
   have e' : cs = 45 :: numL n.natAbs := by rw [e]; unfold intL; rw [if_pos c]
   refine fin (numL n.natAbs) ?_ rfl fun z => ?_
   . unfold figs
     rw [if_pos ⟨hb, by rw [e']; rfl⟩, e']
     rfl
   . rcases hp.2.2 with z' | z'
     . exact absurd z z'
     . have : n.natAbs = 0 := by rw [<- hv, z']; rfl
       omega
 . have e' : cs = numL n.natAbs := by rw [e]; exact intL_abs (by omega)
   refine fin cs ?_ e' fun z => ?_
   . unfold figs
     rw [if_neg]
     rintro ⟨_, z⟩
     rw [e'] at z
     have := numL_head z
     omega
   . rw [e'] at z ⊢
     rcases hp.2.2 with z' | z'
     . exact absurd z z'
     . exact z'
theorem num_same (cs : List Nat) (b : Bool) : isNoneD (wholeO (leastB b) (rdFrac cs)) = !numB cs b := by
 cases hb : numB cs b with
 | true =>
  obtain ⟨n, e, h0, h1, h2⟩ := num_yes hb
  have hr : rdFrac cs = some (n, 1) := by rw [e]; exact rdFrac_int (Nat.lt_of_le_of_lt h2 (by decide))
  rw [hr]
  show isNoneD (if (1 : Int) = 1 /\ leastB b <= n /\ n <= 1000000 then .int n else .none) = false
  rw [if_pos ⟨rfl, h0, h1⟩]
  rfl
 | false =>
  cases hr : rdFrac cs with
  | none => rfl
  | some q =>
   show isNoneD (if q.2 = 1 /\ leastB b <= q.1 /\ q.1 <= 1000000 then .int q.1 else .none) = true
   by_cases c : q.2 = 1 /\ leastB b <= q.1 /\ q.1 <= 1000000
   . exfalso
     have e := rd_back hr
     rw [lz_txtF (by rw [c.1]; decide), if_pos c.1] at e
     rw [num_no e.symm c.2.1 c.2.2] at hb
     cases hb
   . rw [if_neg c]
     rfl
end Law
namespace Law
open PySem L2 PySem.NumText PySem.StrLaws
theorem sq_next5 {G1 G2 : Ds -> Option Out} {ds ds' : Ds} (h : G1 ds = some (.next ds')) : gSeq G1 G2 ds = G2 ds' := by unfold gSeq; rw [h]; rfl
theorem setD_eq5 {j : Nat} {F : Ds -> Option PV} {ds : Ds} {pv : PV} (h : F ds = some pv) : gSetD j F ds = some (.next (ds.set j (some (.dat pv.d)))) := by unfold gSetD; rw [h]; rfl
theorem rbound_gen {z : Str} {least : Int} (hz : z.length <= 1000) : F_read_bound [.str z, .int least] = some (.dat (wholeO least (rdFrac (lz z)))) := by
 have rf := readfrac_eq (z := z) hz
 unfold F_read_bound
 walk_at "t"
 rw [rf]
 walk_at "t"
 cases e : rdFrac (lz z) with
 | none =>
  show _ = _
  unfold frO wholeO
  walk_at "t"
 | some q =>
  obtain ⟨a, b⟩ := q
  show _ = _
  unfold frO wholeO
  walk_at "t"
  by_cases c1 : b = 1
  . subst c1
    by_cases c2 : a < least
    . have c2' : ¬ least <= a := by omega
      simp [c2, c2']
      rfl
    . have c2' : least <= a := by omega
      by_cases c3 : 1000000 < a
      . have c3' : ¬ a <= 1000000 := by omega
        simp [c2, c2', c3, c3']
        rfl
      . have c3' : a <= 1000000 := by omega
        simp [c2, c2', c3, c3']
        rfl
  . simp [c1]
    rfl
theorem B_isnum {y0 y1 y2 : Option PV} (c : Nat) : B_l_is_number_0 [y0, y1, y2, some (.dat (.str ⟨#[c]⟩))] = if dig c = true then some (.next [y0, y1, y2, some (.dat (.str ⟨#[c]⟩))]) else some (.ret (.dat (.bool false))) := by
 unfold B_l_is_number_0
 simp only [gIf, bVal, fOp, fVar, fC, List.getElem?_cons_zero, List.getElem?_cons_succ, Option.bind_some, PV.d_dat]
 rw [notIn_fig]
 simp only [Option.bind_some, PV.d_dat, asB_bool]
 cases dig c <;> rfl
theorem for_isnum {y0 y1 y2 : Option PV} : ∀ (l : List Nat) (y : Option PV), (l.all dig = true -> ∃ y', forD (sName 3) B_l_is_number_0 (l.map fun c => .str ⟨#[c]⟩) [y0, y1, y2, y] = some (.next [y0, y1, y2, y'])) /\ (l.all dig = false -> forD (sName 3) B_l_is_number_0 (l.map fun c => .str ⟨#[c]⟩) [y0, y1, y2, y] = some (.ret (.dat (.bool false))))
 | [], y => ⟨fun _ => ⟨y, rfl⟩, fun h => by cases h⟩
 | c :: r, y => by
  obtain ⟨h1, h2⟩ := for_isnum (y0 := y0) (y1 := y1) (y2 := y2) r (some (.dat (.str ⟨#[c]⟩)))
  have hb := B_isnum (y0 := y0) (y1 := y1) (y2 := y2) c
  rw [List.all_cons, List.map_cons]
  cases hc : dig c with
  | true =>
   rw [hc, if_pos rfl] at hb
   have e := forD_next (gt := sName 3) (G := B_l_is_number_0) (d := .str ⟨#[c]⟩) (r := r.map fun c => .str ⟨#[c]⟩) (ds := [y0, y1, y2, y]) rfl hb
   rw [e, Bool.true_and]
   exact ⟨h1, h2⟩
  | false =>
   rw [hc, if_neg (by decide)] at hb
   refine ⟨fun h => (by cases h), fun _ => ?_⟩
   unfold forD
   show (B_l_is_number_0 [y0, y1, y2, some (.dat (.str ⟨#[c]⟩))]).bind _ = _
   rw [hb]
   rfl
theorem minus_at {z : Str} : (Txt.slice z none (some ((1 : Nat) : Int)) = Str.ofString "-") ↔ (lz z).head? = some 45 := by
 have e : lz (Str.ofString "-") = [45] := by decide +kernel
 constructor
 . intro h
   have := congrArg lz h
   rw [lz_to, e] at this
   cases hz : lz z with
   | nil => rw [hz] at this; cases this
   | cons c r => rw [hz] at this; simpa using this
 . intro h
   refine str_ext ?_
   rw [lz_to, e]
   cases hz : lz z with
   | nil => rw [hz] at h; cases h
   | cons c r =>
    rw [hz] at h
    have : c = 45 := by simpa using h
    rw [this]
    rfl
theorem at_str0 {z : Str} {c : Nat} {r : List Nat} (hz : z.length <= 1000000) (h : lz z = c :: r) : ixD (.str z) (.int 0) = some (.dat (.str ⟨#[c]⟩)) := by
 show (if z.length <= 1000000 then (atI z.cps.toList 0).bind fun c => some (PV.dat (.str ⟨#[c]⟩)) else none) = _
 have h' : z.cps.toList = c :: r := h
 rw [if_pos hz, h', atI_0]
 rfl
theorem isnum_eq {z : Str} {b : Bool} (hz : z.length <= 900) : F_l_is_number [.str z, .bool b] = some (.dat (.bool (numB (lz z) b))) := by
 have hl := lz_len z
 have s1 := slAD_to (z := z) (by omega) 1
 have s2 := slAD_from (z := z) (by omega) 1
 obtain ⟨f, ef, hf⟩ : ∃ f : Str, lz f = figs (lz z) b /\ (gIf (bAnd (bVal (fVar 1)) (bVal (fOp eqDD (fSl slAD (fVar 0) oNone (oSome (fC (.int 1)))) (fC (.str "-"))))) (gSetD 2 (fSl slAD (fVar 0) (oSome (fC (.int 1))) oNone)) gNext) [some (.dat (.str z)), some (.dat (.bool b)), some (.dat (.str z)), none] = some (.next [some (.dat (.str z)), some (.dat (.bool b)), some (.dat (.str f)), none]) := by
  cases b with
  | false =>
   refine ⟨z, by unfold figs; rw [if_neg (by simp)], ?_⟩
   walk_at "t"
  | true =>
   by_cases c : (lz z).head? = some 45
   . refine ⟨Txt.slice z (some ((1 : Nat) : Int)) none, by unfold figs; rw [if_pos ⟨rfl, c⟩, lz_from], ?_⟩
     walk_at "t"
     rw [show slAD (.str z) none (some 1) = _ from s1]
     walk_at "t"
     rw [if_pos (show Txt.slice z none (some 1) = Str.ofString "-" from minus_at.mpr c)]
     try walk_at "t"
     rw [show slAD (.str z) (some 1) none = _ from s2]
     rfl
   . refine ⟨z, by unfold figs; rw [if_neg (fun h => c h.2)], ?_⟩
     walk_at "t"
     rw [show slAD (.str z) none (some 1) = _ from s1]
     walk_at "t"
     rw [if_neg (show ¬ Txt.slice z none (some 1) = Str.ofString "-" from fun h => c (minus_at.mp h))]
 have lf : f.length <= 900 := by
  rw [lz_len, ef]
  unfold figs
  split
  . rw [List.length_drop]; omega
  . omega
 have kf := lz_len f
 have e0 : (z = Str.ofString "0") ↔ lz z = [48] := ⟨fun h => by rw [h]; decide +kernel, fun h => str_ext (by rw [h]; decide +kernel)⟩
 obtain ⟨g1, g2⟩ := for_isnum (y0 := some (.dat (.str z))) (y1 := some (.dat (.bool b))) (y2 := some (.dat (.str f))) (lz f) none
 have fo : ∀ o, forD (sName 3) B_l_is_number_0 ((lz f).map fun c => .str ⟨#[c]⟩) [some (.dat (.str z)), some (.dat (.bool b)), some (.dat (.str f)), none] = o -> (gFor (iWk (fVar 2)) (sName 3) B_l_is_number_0) [some (.dat (.str z)), some (.dat (.bool b)), some (.dat (.str f)), none] = o := fun o h => h
 have hN : numB (lz z) b = ((lz f).all dig && decide (lz f ≠ []) && decide ((lz f).length <= 7) && !(decide ((lz f).head? = some 48) && decide (lz z ≠ [48])) && decide (digitsVal (lz f) <= 1000000)) := by
  unfold numB
  rw [<- ef]
 generalize numB (lz z) b = N at *
 unfold F_l_is_number
 change (gSeq _ _ [some (.dat (.str z)), some (.dat (.bool b)), none, none]).bind outV = _
 rw [sq_next5 (ds' := [some (.dat (.str z)), some (.dat (.bool b)), some (.dat (.str z)), none]) rfl, sq_next5 hf]
 cases hd : (lz f).all dig with
 | false =>
  have e := fo _ (g2 hd)
  rw [hd] at hN
  have hN' : N = false := by rw [hN]; rfl
  unfold gSeq
  rw [e, hN']
  rfl
 | true =>
  obtain ⟨y', g1⟩ := g1 hd
  rw [sq_next5 (fo _ g1)]
  have eL := lenD_str (z := f) (by omega)
  by_cases hc0 : lz f = []
  . have hN' : N = false := by
      rw [hN]
      simp only [hc0, ne_eq, not_false_eq_true, not_true_eq_false, decide_true, decide_false, Bool.and_true, Bool.true_and, Bool.and_false, Bool.false_and, Bool.not_false, Bool.not_true, Option.some.injEq]
    rw [hN']
    walk_at "t"
    rw [if_pos ((eq_empty f).mpr hc0)]
    try walk_at "t"
  . obtain ⟨c, r, hc⟩ : ∃ c r, lz f = c :: r := by
      cases e : lz f with
      | nil => exact absurd e hc0
      | cons c r => exact ⟨c, r, rfl⟩
    have a0 := at_str0 (z := f) (by omega) hc
    have hh : (lz f).head? = some c := by rw [hc]; rfl
    have z0 : (⟨#[c]⟩ : Str) = Str.ofString "0" ↔ c = 48 := by
     have e : Str.ofString "0" = ⟨#[48]⟩ := str_ext (by decide +kernel)
     rw [e]
     constructor
     . intro h
       have : lz (⟨#[c]⟩ : Str) = lz (⟨#[48]⟩ : Str) := by rw [h]
       simpa using this
     . intro h; rw [h]
    walk_at "t"
    rw [if_neg (fun e => hc0 ((eq_empty f).mp e)), eL]
    walk_at "t"
    by_cases c7 : (7 : Int) < (f.length : Nat)
    . have hN' : N = false := by
        have : ¬ (lz f).length <= 7 := by omega
        rw [hN]
        simp only [this, ne_eq, not_false_eq_true, not_true_eq_false, decide_true, decide_false, Bool.and_true, Bool.true_and, Bool.and_false, Bool.false_and, Bool.not_false, Bool.not_true, Option.some.injEq]
      rw [if_pos c7, hN']
      try walk_at "t"
    . rw [if_neg c7]
      try walk_at "t"
      have l7 : (lz f).length <= 7 := by omega
      have it := intD_str (z := f) (all_dig.mp hd) hc0 (by omega)
      rw [show ixD (.str f) (.int 0) = _ from a0]
      walk_at "t"
      by_cases c48 : c = 48
      . rw [if_pos (z0.mpr c48)]
        try walk_at "t"
        by_cases cz : lz z = [48]
        . have e1 := e0.mpr cz
          have hN' : N = decide (digitsVal (lz f) <= 1000000) := by
           rw [hN, hd, hh]
           simp only [hc0, l7, cz, ne_eq, not_false_eq_true, not_true_eq_false, decide_true, decide_false, Bool.and_true, Bool.true_and, Bool.and_false, Bool.false_and, Bool.not_false, Bool.not_true, Option.some.injEq]
          simp only [e1, decide_true, Bool.not_true]
          try walk_at "t"
          rw [it]
          walk_at "t"
          rw [hN']
          congr 3
          rw [decide_eq_decide]
          omega
        . have e1 : ¬ z = Str.ofString "0" := fun h => cz (e0.mp h)
          have hN' : N = false := by
           rw [hN, hh, c48]
           simp only [cz, ne_eq, not_false_eq_true, not_true_eq_false, decide_true, decide_false, Bool.and_true, Bool.true_and, Bool.and_false, Bool.false_and, Bool.not_false, Bool.not_true, Option.some.injEq]
          simp only [e1, decide_false, Bool.not_false]
          try walk_at "t"
          rw [hN']
      . have hN' : N = decide (digitsVal (lz f) <= 1000000) := by
          rw [hN, hd, hh]
          simp only [hc0, l7, c48, ne_eq, not_false_eq_true, not_true_eq_false, decide_true, decide_false, Bool.and_true, Bool.true_and, Bool.and_false, Bool.false_and, Bool.not_false, Bool.not_true, Option.some.injEq]
        rw [if_neg (fun h => c48 (z0.mp h))]
        try walk_at "t"
        rw [it]
        walk_at "t"
        rw [hN']
        congr 3
        rw [decide_eq_decide]
        omega
end Law
namespace Law
open PySem L2 PySem.NumText PySem.StrLaws
noncomputable def SIX : List Str := [Str.ofString "from", Str.ofString "till", Str.ofString "over", Str.ofString "under", Str.ofString "dear", Str.ofString "cheap"]
noncomputable def AMT : List Str := [Str.ofString "from", Str.ofString "till", Str.ofString "over", Str.ofString "under"]
noncomputable def PRC : List Str := [Str.ofString "dear", Str.ofString "cheap"]
noncomputable def BARE : List Str := [Str.ofString "dark", Str.ofString "sunny"]
noncomputable def cntT : List Str -> Option Nat
 | [] => some 0
 | [w] => if w ∈ SIX then none else if w ∈ BARE then some 1 else none
 | w :: x :: r => if w ∈ SIX then (if numB (lz x) (decide (w ∈ PRC)) = true then (cntT r).map (· + 1) else none) else if w ∈ BARE then (cntT (x :: r)).map (· + 1) else none
theorem mem_any {w : Str} {l : List Str} : ((l.map PyData.str).any fun y => eqF y (.str w)) = decide (w ∈ l) := by
 by_cases c : w ∈ l
 . rw [decide_eq_true c, List.any_eq_true]
   refine ⟨.str w, List.mem_map_of_mem c, ?_⟩
   show (w == w) = true
   rw [beq_iff_eq]
 . rw [decide_eq_false c, List.any_eq_false]
   intro d hd
   obtain ⟨x, hx, rfl⟩ := List.mem_map.mp hd
   show ¬ ((x == w) = true)
   rw [beq_iff_eq]
   intro e
   subst e
   exact c hx
theorem flat_strs (l : List Str) : (l.map PyData.str).all Flat = true := by
 rw [List.all_eq_true]
 intro d hd
 obtain ⟨x, _, rfl⟩ := List.mem_map.mp hd
 rfl
theorem in_l {w : Str} {l : List Str} : (or2 inD inSD) (.str w) (.list (l.map .str)) = some (.dat (.bool (decide (w ∈ l)))) := by
 have e : inD (.str w) (.list (l.map .str)) = some (.dat (.bool (decide (w ∈ l)))) := by
  show (if Flat (.str w) = true /\ (l.map PyData.str).all Flat = true then some (PV.dat (.bool ((l.map PyData.str).any fun y => eqF y (.str w)))) else none) = _
  rw [if_pos ⟨rfl, flat_strs l⟩, mem_any]
 unfold or2
 rw [e]
theorem in_t {w : Str} {l : List Str} : (or2 inD inSD) (.str w) (.tuple (l.map .str)) = some (.dat (.bool (decide (w ∈ l)))) := by
 have e : inD (.str w) (.tuple (l.map .str)) = some (.dat (.bool (decide (w ∈ l)))) := by
  show (if Flat (.str w) = true /\ (l.map PyData.str).all Flat = true then some (PV.dat (.bool ((l.map PyData.str).any fun y => eqF y (.str w)))) else none) = _
  rw [if_pos ⟨rfl, flat_strs l⟩, mem_any]
 unfold or2
 rw [e]
theorem notin_l {w : Str} {l : List Str} : (or2 notInD notInSD) (.str w) (.list (l.map .str)) = some (.dat (.bool (!decide (w ∈ l)))) := by
 have e : notInD (.str w) (.list (l.map .str)) = some (.dat (.bool (!decide (w ∈ l)))) := by
  show (if Flat (.str w) = true /\ (l.map PyData.str).all Flat = true then some (PV.dat (.bool (!((l.map PyData.str).any fun y => eqF y (.str w))))) else none) = _
  rw [if_pos ⟨rfl, flat_strs l⟩, mem_any]
 unfold or2
 rw [e]
theorem notin_t {w : Str} {l : List Str} : (or2 notInD notInSD) (.str w) (.tuple (l.map .str)) = some (.dat (.bool (!decide (w ∈ l)))) := by
 have e : notInD (.str w) (.tuple (l.map .str)) = some (.dat (.bool (!decide (w ∈ l)))) := by
  show (if Flat (.str w) = true /\ (l.map PyData.str).all Flat = true then some (PV.dat (.bool (!((l.map PyData.str).any fun y => eqF y (.str w))))) else none) = _
  rw [if_pos ⟨rfl, flat_strs l⟩, mem_any]
 unfold or2
 rw [e]
noncomputable abbrev oS (l : List PyData) : Option PV := some (.own l)
theorem gIf_b {Ft : Ds -> Option Bool} {G1 G2 : Ds -> Option Out} {ds : Ds} {b : Bool} (h : Ft ds = some b) : gIf Ft G1 G2 ds = if b = true then G1 ds else G2 ds := by
 unfold gIf
 rw [h]
 cases b <;> rfl
theorem B_rule (y0 y1 y4 : Option PV) (t : Int) (w : Str) (r : List Str) (hl : r.length <= 1000) (hw : ∀ x ∈ r, x.length <= 900) : B_l_is_rule_0 [y0, y1, oS ((w :: r).map .str), iD t, y4] =
  if w ∈ SIX then (match r with
   | [] => some (.ret (.dat (.bool false)))
   | x :: r' => if numB (lz x) (decide (w ∈ PRC)) = true then some (.next [y0, y1, oS (r'.map .str), iD (t + 1), some (.dat (.str w))]) else some (.ret (.dat (.bool false))))
  else if w ∈ BARE then some (.next [y0, y1, oS (r.map .str), iD (t + 1), some (.dat (.str w))]) else some (.ret (.dat (.bool false))) := by
 unfold B_l_is_rule_0
 rw [sq_next5 (ds' := [y0, y1, oS (r.map .str), iD t, some (.dat (.str w))]) (by
  show (if (r.map PyData.str).length < 1000000 then _ else none) = _
  rw [if_pos (by rw [List.length_map]; omega)]
  rfl)]
 rw [sq_next5 (ds' := [y0, y1, oS (r.map .str), iD (t + 1), some (.dat (.str w))]) rfl]
 have t1 : (bVal (fOp (or2 inD inSD) (fVar 4) (fLst (aCons (fC (.str "from")) (aCons (fC (.str "till")) (aCons (fC (.str "over")) (aCons (fC (.str "under")) (aCons (fC (.str "dear")) (aCons (fC (.str "cheap")) aNil))))))))) [y0, y1, oS (r.map .str), iD (t + 1), some (.dat (.str w))] = some (decide (w ∈ SIX)) := by
  have e := in_l (w := w) (l := SIX)
  show ((or2 inD inSD (.str w) (.list (SIX.map .str))).bind fun x => asB x.d) = _
  rw [e]
  rfl
 have t2 : (bVal (fOp (or2 notInD notInSD) (fVar 4) (fLst (aCons (fC (.str "dark")) (aCons (fC (.str "sunny")) aNil))))) [y0, y1, oS (r.map .str), iD (t + 1), some (.dat (.str w))] = some (!decide (w ∈ BARE)) := by
  have e := notin_l (w := w) (l := BARE)
  show ((or2 notInD notInSD (.str w) (.list (BARE.map .str))).bind fun x => asB x.d) = _
  rw [e]
  rfl
 rw [gIf_b t1]
 by_cases c : w ∈ SIX
 . rw [decide_eq_true c, if_pos rfl, if_pos c]
   cases r with
   | nil =>
    rfl
   | cons x r' =>
    have e2 : (fOp (or2 inD inSD) (fVar 4) (fLst (aCons (fC (.str "dear")) (aCons (fC (.str "cheap")) aNil)))) [y0, y1, oS (r'.map .str), iD (t + 1), some (.dat (.str w))] = some (.dat (.bool (decide (w ∈ PRC)))) := by
     have e := in_l (w := w) (l := PRC)
     show (or2 inD inSD (.str w) (.list (PRC.map .str))) = _
     exact e
    have e3 := isnum_eq (z := x) (b := decide (w ∈ PRC)) (hw x List.mem_cons_self)
    have e1 : (bVal (fOp eqDD (fFrz (fCall lenD (aCons (fVar 2) aNil))) (fFrz (fC (.int 0))))) [y0, y1, oS ((x :: r').map .str), iD (t + 1), some (.dat (.str w))] = some false := by
     generalize hL : (x :: r').map PyData.str = L
     have hp : L.length ≠ 0 := by rw [<- hL]; simp
     walk_at "t"
     rw [decide_eq_false (by omega)]
    unfold gIfPop
    rw [e1]
    simp only [Option.bind_some, Bool.false_eq_true, if_false]
    show (if (r'.map PyData.str).length < 1000000 then _ else none) = _
    rw [if_pos (by rw [List.length_map]; simp at hl; omega)]
    show (((fOp (or2 inD inSD) (fVar 4) (fLst (aCons (fC (.str "dear")) (aCons (fC (.str "cheap")) aNil)))) [y0, y1, oS (r'.map .str), iD (t + 1), some (.dat (.str w))]).bind fun v => (F_l_is_number [.str x, v.d]).bind fun r => (asB r.d).bind fun b => if b = true then gNext [y0, y1, oS (r'.map .str), iD (t + 1), some (.dat (.str w))] else gRet (fC (.bool false)) [y0, y1, oS (r'.map .str), iD (t + 1), some (.dat (.str w))]) = _
    rw [e2]
    simp only [Option.bind_some, PV.d_dat]
    rw [e3]
    simp only [Option.bind_some, PV.d_dat, asB_bool]
    rfl
 . rw [decide_eq_false c, if_neg (by decide), if_neg c, gIf_b t2]
   by_cases c2 : w ∈ BARE
   . rw [decide_eq_true c2, if_pos c2]
     rfl
   . rw [decide_eq_false c2, if_neg c2]
     rfl
end Law
namespace Law
open PySem L2 PySem.NumText PySem.StrLaws
theorem C_rule (y0 y1 y3 y4 : Option PV) (L : List PyData) : C_l_is_rule_0 [y0, y1, oS L, y3, y4] = some (decide (L ≠ [])) := by
 unfold C_l_is_rule_0
 simp only [bVal, fOp, fFrz, frz, fCall, aCons, aNil, fVar, fC, List.map_cons, List.map_nil, Option.map_some, List.getElem?_cons_zero, List.getElem?_cons_succ, Option.bind_some, PV.d_dat, PV.d_own, lenD_list, gtD_int, asB_bool]
 congr 1
 cases L <;> simp
theorem while_ret {Fc : Ds -> Option Bool} {G : Ds -> Option Out} {n : Nat} {ds : Ds} {pv : PV} (h : Fc ds = some true) (k : G ds = some (.ret pv)) : whileD Fc G (n + 1) ds = some (.ret pv) := by
 unfold whileD
 rw [h]
 simp only [Option.bind_some, if_true]
 rw [k]
 rfl
theorem law_tests (y0 y1 : Option PV) : ∀ (n : Nat) (ws : List Str) (t : Int) (y4 : Option PV) (fuel : Nat), ws.length <= n -> ws.length < fuel -> ws.length <= 1000 -> (∀ w ∈ ws, w.length <= 900) ->
  (∀ k, cntT ws = some k -> ∃ y4', whileD C_l_is_rule_0 B_l_is_rule_0 fuel [y0, y1, oS (ws.map .str), iD t, y4] = some (.next [y0, y1, oS [], iD (t + (k : Nat)), y4'])) /\
  (cntT ws = none -> whileD C_l_is_rule_0 B_l_is_rule_0 fuel [y0, y1, oS (ws.map .str), iD t, y4] = some (.ret (.dat (.bool false)))) := by
 intro n
 induction n with
 | zero =>
  intro ws t y4 fuel hn hf hl hw
  have : ws = [] := List.length_eq_zero_iff.mp (by omega)
  subst this
  obtain ⟨m, rfl⟩ : ∃ m, fuel = m + 1 := ⟨fuel - 1, by simp at hf; omega⟩
  have e : C_l_is_rule_0 [y0, y1, oS [], iD t, y4] = some false := C_rule _ _ _ _ []
  refine ⟨fun k hk => ⟨y4, ?_⟩, fun z => by unfold cntT at z; cases z⟩
  unfold cntT at hk
  cases hk
  rw [List.map_nil, whileD_false e]
  simp
 | succ n ih =>
  intro ws t y4 fuel hn hf hl hw
  obtain ⟨m, rfl⟩ : ∃ m, fuel = m + 1 := ⟨fuel - 1, by omega⟩
  cases ws with
  | nil =>
   have e : C_l_is_rule_0 [y0, y1, oS [], iD t, y4] = some false := C_rule _ _ _ _ []
   refine ⟨fun k hk => ⟨y4, ?_⟩, fun z => by unfold cntT at z; cases z⟩
   unfold cntT at hk
   cases hk
   rw [List.map_nil, whileD_false e]
   simp
  | cons w r =>
   rw [List.length_cons] at hn hf hl
   have hc : C_l_is_rule_0 [y0, y1, oS ((w :: r).map .str), iD t, y4] = some true := C_rule _ _ _ _ _
   have hb := B_rule y0 y1 y4 t w r (by omega) fun x hx => hw x (List.mem_cons_of_mem _ hx)
   have step : ∀ (ws' : List Str), ws'.length <= n -> ws'.length <= r.length -> (∀ x ∈ ws', x.length <= 900) -> B_l_is_rule_0 [y0, y1, oS ((w :: r).map .str), iD t, y4] = some (.next [y0, y1, oS (ws'.map .str), iD (t + 1), some (.dat (.str w))]) -> cntT (w :: r) = (cntT ws').map (· + 1) ->
     (∀ k, cntT (w :: r) = some k -> ∃ y4', whileD C_l_is_rule_0 B_l_is_rule_0 (m + 1) [y0, y1, oS ((w :: r).map .str), iD t, y4] = some (.next [y0, y1, oS [], iD (t + (k : Nat)), y4'])) /\
     (cntT (w :: r) = none -> whileD C_l_is_rule_0 B_l_is_rule_0 (m + 1) [y0, y1, oS ((w :: r).map .str), iD t, y4] = some (.ret (.dat (.bool false)))) := by
    intro ws' h1 h2 h3 hB hk
    obtain ⟨i1, i2⟩ := ih ws' (t + 1) (some (.dat (.str w))) m h1 (by omega) (by omega) h3
    rw [whileD_step hc hB, hk]
    refine ⟨fun k e => ?_, fun e => ?_⟩
    . cases e' : cntT ws' with
      | none => rw [e'] at e; cases e
      | some k' =>
       rw [e'] at e
       obtain ⟨y4', q⟩ := i1 k' e'
       have : k = k' + 1 := by simpa using e.symm
       subst this
       refine ⟨y4', ?_⟩
       rw [q, show t + 1 + ((k' : Nat) : Int) = t + ((k' + 1 : Nat) : Int) by omega]
    . cases e' : cntT ws' with
      | none => exact i2 e'
      | some k' => rw [e'] at e; cases e
   have no : B_l_is_rule_0 [y0, y1, oS ((w :: r).map .str), iD t, y4] = some (.ret (.dat (.bool false))) -> cntT (w :: r) = none ->
     (∀ k, cntT (w :: r) = some k -> ∃ y4', whileD C_l_is_rule_0 B_l_is_rule_0 (m + 1) [y0, y1, oS ((w :: r).map .str), iD t, y4] = some (.next [y0, y1, oS [], iD (t + (k : Nat)), y4'])) /\
     (cntT (w :: r) = none -> whileD C_l_is_rule_0 B_l_is_rule_0 (m + 1) [y0, y1, oS ((w :: r).map .str), iD t, y4] = some (.ret (.dat (.bool false)))) := fun hB hk =>
    ⟨(fun k e => by rw [hk] at e; cases e), fun _ => while_ret hc hB⟩
   have hwr : ∀ x ∈ r, x.length <= 900 := fun x hx => hw x (List.mem_cons_of_mem _ hx)
   by_cases c : w ∈ SIX
   . rw [if_pos c] at hb
     cases r with
     | nil => exact no hb (by unfold cntT; rw [if_pos c])
     | cons x r' =>
      simp only at hb
      by_cases cn : numB (lz x) (decide (w ∈ PRC)) = true
      . rw [if_pos cn] at hb
        exact step r' (by simp at hn; omega) (by simp) (fun y hy => hwr y (List.mem_cons_of_mem _ hy)) hb (by conv => lhs; unfold cntT; rw [if_pos c, if_pos cn])
      . rw [if_neg cn] at hb
        exact no hb (by unfold cntT; rw [if_pos c, if_neg cn])
   . rw [if_neg c] at hb
     by_cases c2 : w ∈ BARE
     . rw [if_pos c2] at hb
       refine step r (by omega) (Nat.le_refl _) hwr hb ?_
       cases r with
       | nil => unfold cntT; rw [if_neg c, if_pos c2]; rfl
       | cons x r' => conv => lhs; unfold cntT; rw [if_neg c, if_pos c2]
     . rw [if_neg c2] at hb
       refine no hb ?_
       cases r with
       | nil => unfold cntT; rw [if_neg c, if_neg c2]
       | cons x r' => unfold cntT; rw [if_neg c, if_neg c2]
end Law
namespace Law
open PySem L2 PySem.NumText PySem.StrLaws
noncomputable def testO : List Str -> PyData
 | [] => .none
 | w :: r => if w ∈ BARE then .tuple [.str w] else match r with
  | [] => .none
  | x :: _ => if w ∈ SIX then (if isNoneD (wholeO (leastB (decide (w ∈ PRC))) (rdFrac (lz x))) = true then .none else .tuple [.str w, wholeO (leastB (decide (w ∈ PRC))) (rdFrac (lz x))]) else .none
theorem testO_bare {w : Str} {r : List Str} (h : w ∈ BARE) : testO (w :: r) = .tuple [.str w] := by
 show (if w ∈ BARE then _ else _) = _
 rw [if_pos h]
theorem testO_one {w : Str} (h : w ∉ BARE) : testO [w] = .none := by
 show (if w ∈ BARE then _ else _) = _
 rw [if_neg h]
theorem testO_two {w x : Str} {r : List Str} (h : w ∉ BARE) : testO (w :: x :: r) = (if w ∈ SIX then (if isNoneD (wholeO (leastB (decide (w ∈ PRC))) (rdFrac (lz x))) = true then .none else .tuple [.str w, wholeO (leastB (decide (w ∈ PRC))) (rdFrac (lz x))]) else .none) := by
 show (if w ∈ BARE then _ else _) = _
 rw [if_neg h]
theorem six_or {w : Str} : w ∈ SIX ↔ (w ∈ AMT \/ w ∈ PRC) := by
 simp only [SIX, AMT, PRC, List.mem_cons, List.not_mem_nil, or_false]
 constructor
 . rintro (h | h | h | h | h | h)
   . exact .inl (.inl h)
   . exact .inl (.inr (.inl h))
   . exact .inl (.inr (.inr (.inl h)))
   . exact .inl (.inr (.inr (.inr h)))
   . exact .inr (.inl h)
   . exact .inr (.inr h)
 . rintro ((h | h | h | h) | h | h)
   . exact .inl h
   . exact .inr (.inl h)
   . exact .inr (.inr (.inl h))
   . exact .inr (.inr (.inr (.inl h)))
   . exact .inr (.inr (.inr (.inr (.inl h))))
   . exact .inr (.inr (.inr (.inr (.inr h))))
theorem amt_prc {w : Str} (h : w ∈ AMT) : w ∉ PRC := by
 have key : ∀ a ∈ AMT, a ∉ PRC := by decide +kernel
 exact key w h
theorem six_bare {w : Str} (h : w ∈ SIX) : w ∉ BARE := by
 have key : ∀ a ∈ SIX, a ∉ BARE := by decide +kernel
 exact key w h
theorem whole_shape (l : Int) (o : Option (Int × Int)) : wholeO l o = .none \/ ∃ n, wholeO l o = .int n := by
 cases o with
 | none => exact .inl rfl
 | some q =>
  unfold wholeO
  simp only
  split
  . exact .inr ⟨_, rfl⟩
  . exact .inl rfl
theorem rtest_eq {w : Str} {r : List Str} (hl : r.length <= 1000) (hw : ∀ x ∈ w :: r, x.length <= 900) : F_read_test [.list ((w :: r).map .str)] = some (.dat (testO (w :: r))) := by
 have tb : ∀ y1 : Option PV, (bVal (fOp (or2 inD inSD) (fOp ixD (fVar 0) (fC (.int 0))) (fC c_BARE_WORDS))) [some (.dat (.list ((w :: r).map .str))), y1] = some (decide (w ∈ BARE)) := fun y1 => by
  have e := in_t (w := w) (l := BARE)
  simp only [bVal, fOp, fVar, fC, List.getElem?_cons_zero, Option.bind_some, PV.d_dat, List.map_cons, ixD_list, atI_0]
  rw [show (c_BARE_WORDS : PyData) = .tuple (BARE.map .str) from rfl, e]
  rfl
 have ta : ∀ y1 : Option PV, (bVal (fOp (or2 inD inSD) (fOp ixD (fVar 0) (fC (.int 0))) (fC c_AMOUNT_WORDS))) [some (.dat (.list ((w :: r).map .str))), y1] = some (decide (w ∈ AMT)) := fun y1 => by
  have e := in_t (w := w) (l := AMT)
  simp only [bVal, fOp, fVar, fC, List.getElem?_cons_zero, Option.bind_some, PV.d_dat, List.map_cons, ixD_list, atI_0]
  rw [show (c_AMOUNT_WORDS : PyData) = .tuple (AMT.map .str) from rfl, e]
  rfl
 have tp : ∀ y1 : Option PV, (bVal (fOp (or2 inD inSD) (fOp ixD (fVar 0) (fC (.int 0))) (fC c_PRICE_WORDS))) [some (.dat (.list ((w :: r).map .str))), y1] = some (decide (w ∈ PRC)) := fun y1 => by
  have e := in_t (w := w) (l := PRC)
  simp only [bVal, fOp, fVar, fC, List.getElem?_cons_zero, Option.bind_some, PV.d_dat, List.map_cons, ixD_list, atI_0]
  rw [show (c_PRICE_WORDS : PyData) = .tuple (PRC.map .str) from rfl, e]
  rfl
 have tl : ∀ y1 : Option PV, (bVal (fOp gtD (fCall lenD (aCons (fVar 0) aNil)) (fC (.int 1)))) [some (.dat (.list ((w :: r).map .str))), y1] = some (decide (r ≠ [])) := fun y1 => by
  simp only [bVal, fOp, fVar, fC, fCall, aCons, aNil, List.getElem?_cons_zero, Option.bind_some, PV.d_dat, lenD_list, gtD_int, asB_bool]
  congr 1
  rw [decide_eq_decide, List.length_map, List.length_cons]
  cases r with
  | nil => simp
  | cons x r' => simp only [List.length_cons, ne_eq, reduceCtorEq, not_false_eq_true, iff_true]; omega
 have and2 : ∀ (Ft Fu : Ds -> Option Bool) (ds : Ds) (p q : Bool), Ft ds = some p -> Fu ds = some q -> bAnd Ft Fu ds = some (p && q) := fun Ft Fu ds p q h1 h2 => by
  unfold bAnd
  rw [h1, h2]
  cases p <;> rfl
 have i0 : (fOp ixD (fVar 0) (fC (.int 0))) [some (.dat (.list ((w :: r).map .str))), none] = some (.dat (.str w)) := by
  simp only [fOp, fVar, fC, List.getElem?_cons_zero, Option.bind_some, PV.d_dat, List.map_cons, ixD_list, atI_0]
 unfold F_read_test
 change (gSeq _ _ [some (.dat (.list ((w :: r).map .str))), none]).bind outV = _
 by_cases cb : w ∈ BARE
 . have e : (gIf (bVal (fOp (or2 inD inSD) (fOp ixD (fVar 0) (fC (.int 0))) (fC c_BARE_WORDS))) (gRet (fTup (aCons (fOp ixD (fVar 0) (fC (.int 0))) aNil))) gNext) [some (.dat (.list ((w :: r).map .str))), none] = some (.ret (.dat (.tuple [.str w]))) := by
     rw [gIf_b (tb _), decide_eq_true cb, if_pos rfl]
     simp only [gRet, fTup, aCons, aNil]
     rw [i0]
     rfl
   unfold gSeq
   rw [e, testO_bare cb]
   rfl
 . rw [sq_next5 (ds' := [some (.dat (.list ((w :: r).map .str))), none]) (by rw [gIf_b (tb _), decide_eq_false cb]; rfl)]
   rw [sq_next5 (ds' := [some (.dat (.list ((w :: r).map .str))), some (.dat .none)]) rfl]
   have fin : ∀ d, (d = .none \/ ∃ n, d = .int n) -> testO (w :: r) = (if isNoneD d = true then .none else .tuple [.str w, d]) ->
     ((gSeq (gIf (bVal (fOp isD (fVar 1) (fC .none))) (gRet (fC .none)) gNext) (gRet (fTup (aCons (fOp ixD (fVar 0) (fC (.int 0))) (aCons (fVar 1) aNil))))) [some (.dat (.list ((w :: r).map .str))), some (.dat d)]).bind outV = some (.dat (testO (w :: r))) := fun d hd ht => by
    rw [ht]
    rcases hd with rfl | ⟨n, rfl⟩
    . rfl
    . simp only [gSeq, gIf, bVal, fOp, fVar, fC, fTup, gRet, aCons, aNil, List.getElem?_cons_zero, List.getElem?_cons_succ, Option.bind_some, PV.d_dat, isD_none, isNone_int, asB_bool, gNext, List.map_cons, ixD_list, atI_0, Bool.false_eq_true, if_false]
      rfl
   cases r with
   | nil =>
    rw [sq_next5 (ds' := [some (.dat (.list ([w].map .str))), some (.dat .none)]) (by
     rw [gIf_b (and2 _ _ _ _ _ (ta _) (tl _))]
     cases decide (w ∈ AMT) <;> rfl)]
    rw [sq_next5 (ds' := [some (.dat (.list ([w].map .str))), some (.dat .none)]) (by
     rw [gIf_b (and2 _ _ _ _ _ (tp _) (tl _))]
     cases decide (w ∈ PRC) <;> rfl)]
    exact fin .none (.inl rfl) (by rw [testO_one cb]; rfl)
   | cons x r' =>
    have hx := hw x (List.mem_cons_of_mem _ List.mem_cons_self)
    have rb : ∀ least : Int, F_read_bound [.str x, .int least] = some (.dat (wholeO least (rdFrac (lz x)))) := fun least => rbound_gen (by omega)
    have i1 : ∀ y1 : Option PV, (fOp ixD (fVar 0) (fC (.int 1))) [some (.dat (.list ((w :: x :: r').map .str))), y1] = some (.dat (.str x)) := fun y1 => by
     simp only [fOp, fVar, fC, List.getElem?_cons_zero, Option.bind_some, PV.d_dat, List.map_cons, ixD_list, atI_1]
    have tl' : ∀ y1 : Option PV, (bVal (fOp gtD (fCall lenD (aCons (fVar 0) aNil)) (fC (.int 1)))) [some (.dat (.list ((w :: x :: r').map .str))), y1] = some true := fun y1 => by
     rw [tl, decide_eq_true (by simp)]
    by_cases ca : w ∈ AMT
    . have cp := amt_prc ca
      rw [sq_next5 (ds' := [some (.dat (.list ((w :: x :: r').map .str))), some (.dat (wholeO 0 (rdFrac (lz x))))]) (by
       rw [gIf_b (and2 _ _ _ _ _ (ta _) (tl' _)), decide_eq_true ca, if_pos (by rfl)]
       refine setD_eq5 (pv := .dat (wholeO 0 (rdFrac (lz x)))) ?_
       simp only [fCall, aCons, aNil]
       rw [i1]
       simp only [Option.bind_some, PV.d_dat, fC]
       exact rb 0)]
      rw [sq_next5 (ds' := [some (.dat (.list ((w :: x :: r').map .str))), some (.dat (wholeO 0 (rdFrac (lz x))))]) (by
       rw [gIf_b (and2 _ _ _ _ _ (tp _) (tl' _)), decide_eq_false cp]
       rfl)]
      refine fin _ (whole_shape _ _) ?_
      rw [testO_two cb, if_pos (six_or.mpr (.inl ca)), decide_eq_false cp]
      rfl
    . rw [sq_next5 (ds' := [some (.dat (.list ((w :: x :: r').map .str))), some (.dat .none)]) (by
        rw [gIf_b (and2 _ _ _ _ _ (ta _) (tl' _)), decide_eq_false ca]
        rfl)]
      by_cases cp : w ∈ PRC
      . rw [sq_next5 (ds' := [some (.dat (.list ((w :: x :: r').map .str))), some (.dat (wholeO (-1000000) (rdFrac (lz x))))]) (by
          rw [gIf_b (and2 _ _ _ _ _ (tp _) (tl' _)), decide_eq_true cp, if_pos (by rfl)]
          refine setD_eq5 (pv := .dat (wholeO (-1000000) (rdFrac (lz x)))) ?_
          simp only [fCall, aCons, aNil]
          rw [i1]
          simp only [Option.bind_some, PV.d_dat, fC, fUn]
          exact rb (-1000000))]
        refine fin _ (whole_shape _ _) ?_
        rw [testO_two cb, if_pos (six_or.mpr (.inr cp)), decide_eq_true cp]
        rfl
      . rw [sq_next5 (ds' := [some (.dat (.list ((w :: x :: r').map .str))), some (.dat .none)]) (by
          rw [gIf_b (and2 _ _ _ _ _ (tp _) (tl' _)), decide_eq_false cp]
          rfl)]
        refine fin .none (.inl rfl) ?_
        rw [testO_two cb, if_neg (fun h => (six_or.mp h).elim ca cp)]
        rfl
end Law
namespace Law
open PySem L2 PySem.NumText PySem.StrLaws
theorem cut_from {α : Type} (l : List α) (k : Nat) : cutD l (some (k : Int)) none = l.drop k := by
 unfold cutD HT.sIx
 simp only [show ¬ (k : Int) < 0 by omega, if_false, Int.toNat_natCast]
 by_cases h : k <= l.length
 . rw [Nat.min_eq_left h]
   exact List.take_of_length_le (by rw [List.length_drop]; omega)
 . rw [Nat.min_eq_right (by omega), List.drop_length, List.drop_eq_nil_of_le (by omega)]
   simp
theorem C_tests (L : List PyData) (y1 y3 : Option PV) (p : Nat) : C_read_tests_0 [some (.dat (.list L)), y1, iD p, y3] = some (decide (p < L.length)) := by
 unfold C_read_tests_0
 simp only [bVal, fOp, fCall, aCons, aNil, fVar, List.getElem?_cons_zero, List.getElem?_cons_succ, Option.bind_some, PV.d_dat, lenD_list, ltD_int, asB_bool]
 congr 1
 rw [decide_eq_decide]
 omega
theorem test_len {u : List Str} (h : isNoneD (testO u) = false) : ∃ l, testO u = .tuple l /\ (l.length = 1 \/ l.length = 2) := by
 cases u with
 | nil => cases h
 | cons w r =>
  by_cases cb : w ∈ BARE
  . rw [testO_bare cb]; exact ⟨_, rfl, .inl rfl⟩
  . cases r with
    | nil => rw [testO_one cb] at h; cases h
    | cons x r' =>
     rw [testO_two cb] at h ⊢
     by_cases c : w ∈ SIX
     . rw [if_pos c] at h ⊢
       by_cases c2 : isNoneD (wholeO (leastB (decide (w ∈ PRC))) (rdFrac (lz x))) = true
       . rw [if_pos c2] at h; cases h
       . rw [if_neg c2]; exact ⟨_, rfl, .inr rfl⟩
     . rw [if_neg c] at h; cases h
theorem B_tests {ws : List Str} {p : Nat} (T : List PyData) (y3 : Option PV) (hp : p < ws.length) (hl : ws.length <= 1000) (hw : ∀ x ∈ ws, x.length <= 900) (hT : T.length <= 6) :
  (isNoneD (testO (ws.drop p)) = true \/ T.length = 6 -> B_read_tests_0 [some (.dat (.list (ws.map .str))), oS T, iD p, y3] = some (.ret (.dat .none))) /\
  (∀ l, testO (ws.drop p) = .tuple l -> T.length < 6 -> B_read_tests_0 [some (.dat (.list (ws.map .str))), oS T, iD p, y3] = some (.next [some (.dat (.list (ws.map .str))), oS (T ++ [.tuple l]), iD ((p + l.length : Nat) : Int), some (.dat (.tuple l))])) := by
 have ed : ws.drop p = ws[p] :: ws.drop (p + 1) := List.drop_eq_getElem_cons hp
 have rt : F_read_test [.list ((ws.drop p).map .str)] = some (.dat (testO (ws.drop p))) := by
  rw [ed]
  exact rtest_eq (by rw [List.length_drop]; omega) fun x hx => hw x (by rw [<- ed] at hx; exact List.mem_of_mem_drop hx)
 have sl : slAD (.list (ws.map .str)) (some (p : Int)) none = some (.own ((ws.drop p).map .str)) := by
  show some (PV.own (cutD (ws.map PyData.str) (some (p : Int)) none)) = _
  rw [cut_from, List.map_drop]
 have q1 : (gSetD 3 (fCall F_read_test (aCons (fSl slAD (fVar 0) (oSome (fVar 2)) oNone) aNil))) [some (.dat (.list (ws.map .str))), oS T, iD p, y3] = some (.next [some (.dat (.list (ws.map .str))), oS T, iD p, some (.dat (testO (ws.drop p)))]) := by
  refine setD_eq5 (pv := .dat (testO (ws.drop p))) ?_
  simp only [fCall, aCons, aNil, fSl, oSome, oNone, fVar, List.getElem?_cons_zero, List.getElem?_cons_succ, Option.bind_some, PV.d_dat, asI_int]
  rw [sl]
  simp only [Option.bind_some, PV.d_own]
  exact rt
 have t6 : ∀ d : PyData, (bVal (fOp eqDD (fFrz (fCall lenD (aCons (fVar 1) aNil))) (fFrz (fC c_MOST_TESTS)))) [some (.dat (.list (ws.map .str))), oS T, iD p, some (.dat d)] = some (decide (T.length = 6)) := fun d => by
  simp only [bVal, fOp, fFrz, frz, fCall, aCons, aNil, fVar, fC, List.map_cons, List.map_nil, Option.map_some, List.getElem?_cons_zero, List.getElem?_cons_succ, Option.bind_some, PV.d_dat, PV.d_own, lenD_list]
  rw [show (c_MOST_TESTS : PyData) = .int 6 from rfl, eqDD_int]
  simp only [Option.bind_some, PV.d_dat, asB_bool]
  congr 1
  rw [decide_eq_decide]
  omega
 have tn : ∀ d : PyData, (bVal (fOp isD (fVar 3) (fC .none))) [some (.dat (.list (ws.map .str))), oS T, iD p, some (.dat d)] = some (isNoneD d) := fun d => by
  simp only [bVal, fOp, fVar, fC, List.getElem?_cons_zero, List.getElem?_cons_succ, Option.bind_some, PV.d_dat, isD_none, asB_bool]
 have or2 : ∀ (Ft Fu : Ds -> Option Bool) (ds : Ds) (p q : Bool), Ft ds = some p -> Fu ds = some q -> bOr Ft Fu ds = some (p || q) := fun Ft Fu ds p q h1 h2 => by
  unfold bOr
  rw [h1, h2]
  cases p <;> rfl
 constructor
 . intro h
   have e : (gIf (bOr (bVal (fOp isD (fVar 3) (fC .none))) (bVal (fOp eqDD (fFrz (fCall lenD (aCons (fVar 1) aNil))) (fFrz (fC c_MOST_TESTS))))) (gRet (fC .none)) gNext) [some (.dat (.list (ws.map .str))), oS T, iD p, some (.dat (testO (ws.drop p)))] = some (.ret (.dat .none)) := by
    rw [gIf_b (or2 _ _ _ _ _ (tn _) (t6 _))]
    have : (isNoneD (testO (ws.drop p)) || decide (T.length = 6)) = true := by
     rcases h with h | h
     . rw [h]; rfl
     . rw [decide_eq_true h, Bool.or_true]
    rw [this]
    rfl
   unfold B_read_tests_0
   rw [sq_next5 q1]
   unfold gSeq
   rw [e]
   rfl
 . intro l hl' h6
   unfold B_read_tests_0
   rw [sq_next5 q1, hl']
   rw [sq_next5 (ds' := [some (.dat (.list (ws.map .str))), oS T, iD p, some (.dat (.tuple l))]) (by
    rw [gIf_b (or2 _ _ _ _ _ (tn _) (t6 _)), decide_eq_false (by omega)]
    rfl)]
   rw [sq_next5 (ds' := [some (.dat (.list (ws.map .str))), oS (T ++ [.tuple l]), iD p, some (.dat (.tuple l))]) (by
    rw [gApp_eq]
    exact appK_some (i := 1) (l := T) (.dat (.tuple l)) rfl (by omega))]
   refine (setD_eq5 (pv := .dat (.int ((p + l.length : Nat) : Int))) ?_).trans rfl
   simp only [fOp, fCall, aCons, aNil, fVar, List.getElem?_cons_zero, List.getElem?_cons_succ, Option.bind_some, PV.d_dat, lenD_tup, addD_int]
   rfl
end Law
namespace Law
open PySem L2 PySem.NumText PySem.StrLaws
theorem cnt_step {w : Str} {r : List Str} : (isNoneD (testO (w :: r)) = true -> cntT (w :: r) = none) /\ (∀ l, testO (w :: r) = .tuple l -> cntT (w :: r) = (cntT ((w :: r).drop l.length)).map (· + 1)) := by
 by_cases cb : w ∈ BARE
 . have cs : w ∉ SIX := fun h => six_bare h cb
   rw [testO_bare cb]
   refine ⟨(fun h => by cases h), fun l h => ?_⟩
   cases h
   show cntT (w :: r) = (cntT r).map (· + 1)
   cases r with
   | nil => unfold cntT; rw [if_neg cs, if_pos cb]; rfl
   | cons x r' => conv => lhs; unfold cntT; rw [if_neg cs, if_pos cb]
 . cases r with
   | nil =>
    rw [testO_one cb]
    refine ⟨fun _ => ?_, fun l h => by cases h⟩
    unfold cntT
    by_cases cs : w ∈ SIX
    . rw [if_pos cs]
    . rw [if_neg cs, if_neg cb]
   | cons x r' =>
    rw [testO_two cb]
    by_cases cs : w ∈ SIX
    . rw [if_pos cs, num_same]
      cases hn : numB (lz x) (decide (w ∈ PRC)) with
      | true =>
       refine ⟨(fun h => by cases h), fun l h => ?_⟩
       cases h
       show cntT (w :: x :: r') = (cntT r').map (· + 1)
       conv => lhs; unfold cntT
       rw [if_pos cs, hn]
       rfl
      | false =>
       refine ⟨fun _ => ?_, fun l h => by cases h⟩
       unfold cntT
       rw [if_pos cs, hn]
       rfl
    . rw [if_neg cs]
      refine ⟨fun _ => ?_, fun l h => by cases h⟩
      unfold cntT
      rw [if_neg cs, if_neg cb]
theorem prog_tests {ws : List Str} (hl : ws.length <= 1000) (hw : ∀ x ∈ ws, x.length <= 900) : ∀ (n p : Nat) (T : List PyData) (y3 : Option PV) (fuel : Nat), ws.length - p <= n -> p <= ws.length -> ws.length - p < fuel -> T.length <= 6 ->
  (∀ k, cntT (ws.drop p) = some k -> T.length + k <= 6 -> ∃ T' y3', whileD C_read_tests_0 B_read_tests_0 fuel [some (.dat (.list (ws.map .str))), oS T, iD p, y3] = some (.next [some (.dat (.list (ws.map .str))), oS T', iD ws.length, y3']) /\ T'.length = T.length + k) /\
  ((cntT (ws.drop p) = none \/ ∃ k, cntT (ws.drop p) = some k /\ 6 < T.length + k) -> whileD C_read_tests_0 B_read_tests_0 fuel [some (.dat (.list (ws.map .str))), oS T, iD p, y3] = some (.ret (.dat .none))) := by
 intro n
 induction n with
 | zero =>
  intro p T y3 fuel hn hp hf hT
  have : p = ws.length := by omega
  subst this
  obtain ⟨m, rfl⟩ : ∃ m, fuel = m + 1 := ⟨fuel - 1, by omega⟩
  have hc : C_read_tests_0 [some (.dat (.list (ws.map .str))), oS T, iD ws.length, y3] = some false := by
   rw [C_tests, List.length_map, decide_eq_false (by omega)]
  rw [List.drop_length, whileD_false hc]
  refine ⟨fun k hk h6 => ⟨T, y3, rfl, ?_⟩, fun h => ?_⟩
  . unfold cntT at hk; cases hk; rfl
  . rcases h with h | ⟨k, h, h6⟩
    . unfold cntT at h; cases h
    . unfold cntT at h; cases h; omega
 | succ n ih =>
  intro p T y3 fuel hn hp hf hT
  obtain ⟨m, rfl⟩ : ∃ m, fuel = m + 1 := ⟨fuel - 1, by omega⟩
  by_cases c : p = ws.length
  . subst c
    have hc : C_read_tests_0 [some (.dat (.list (ws.map .str))), oS T, iD ws.length, y3] = some false := by
     rw [C_tests, List.length_map, decide_eq_false (by omega)]
    rw [List.drop_length, whileD_false hc]
    refine ⟨fun k hk h6 => ⟨T, y3, rfl, ?_⟩, fun h => ?_⟩
    . unfold cntT at hk; cases hk; rfl
    . rcases h with h | ⟨k, h, h6⟩
      . unfold cntT at h; cases h
      . unfold cntT at h; cases h; omega
  . have hlt : p < ws.length := by omega
    have hc : C_read_tests_0 [some (.dat (.list (ws.map .str))), oS T, iD p, y3] = some true := by
     rw [C_tests, List.length_map, decide_eq_true hlt]
    obtain ⟨b1, b2⟩ := B_tests (ws := ws) (p := p) T y3 hlt hl hw hT
    have ed : ws.drop p = ws[p] :: ws.drop (p + 1) := List.drop_eq_getElem_cons hlt
    obtain ⟨s1, s2⟩ := cnt_step (w := ws[p]) (r := ws.drop (p + 1))
    rw [<- ed] at s1 s2
    cases ht : isNoneD (testO (ws.drop p)) with
    | true =>
     have hk := s1 ht
     refine ⟨(fun k e => by rw [hk] at e; cases e), fun _ => while_ret hc (b1 (.inl ht))⟩
    | false =>
     obtain ⟨l, el, l12⟩ := test_len ht
     have hk := s2 l el
     rw [List.drop_drop] at hk
     by_cases h6 : T.length = 6
     . refine ⟨fun k e h => ?_, fun _ => while_ret hc (b1 (.inr h6))⟩
       rw [hk] at e
       cases e' : cntT (ws.drop (p + l.length)) with
       | none => rw [e'] at e; cases e
       | some k' =>
        rw [e'] at e
        have ek : k = k' + 1 := by simpa using e.symm
        omega
     . have pl : p + l.length <= ws.length := by
         rcases Nat.lt_or_ge ws.length (p + l.length) with z | z
         . exfalso
           have l2 : l.length = 2 := by omega
           have e1 : ws.drop (p + 1) = [] := List.drop_eq_nil_of_le (by omega)
           rw [ed, e1] at el
           by_cases cb : ws[p] ∈ BARE
           . rw [testO_bare cb] at el; cases el; cases l2
           . rw [testO_one cb] at el; cases el
         . exact z
       have hB := b2 l el (by omega)
       obtain ⟨i1, i2⟩ := ih (p + l.length) (T ++ [.tuple l]) (some (.dat (.tuple l))) m (by have := l12; omega) pl (by have := l12; omega) (by simp; omega)
       rw [whileD_step hc hB, hk]
       have lT : (T ++ [PyData.tuple l]).length = T.length + 1 := by simp
       rw [lT] at i1 i2
       refine ⟨fun k e h => ?_, fun h => ?_⟩
       . cases e' : cntT (ws.drop (p + l.length)) with
         | none => rw [e'] at e; cases e
         | some k' =>
          rw [e'] at e
          have ek : k = k' + 1 := by simpa using e.symm
          obtain ⟨T', y', q, qt⟩ := i1 k' e' (by omega)
          exact ⟨T', y', q, by omega⟩
       . refine i2 ?_
         rcases h with h | ⟨k, h, h7⟩
         . cases e' : cntT (ws.drop (p + l.length)) with
           | none => exact .inl rfl
           | some k' => rw [e'] at h; cases h
         . cases e' : cntT (ws.drop (p + l.length)) with
           | none => rw [e'] at h; cases h
           | some k' =>
            rw [e'] at h
            have ek : k = k' + 1 := by simpa using h.symm
            exact .inr ⟨k', rfl, by omega⟩
noncomputable def testsB (ws : List Str) : Bool := match cntT ws with
 | some k => decide (k <= 6)
 | none => false
theorem rtests_eq {ws : List Str} (hl : ws.length <= 1000) (hw : ∀ x ∈ ws, x.length <= 900) : ∃ d, F_read_tests [.list (ws.map .str)] = some (.dat d) /\ isNoneD d = !testsB ws /\ (testsB ws = true -> ∃ l, d = .tuple l) := by
 obtain ⟨p1, p2⟩ := prog_tests hl hw ws.length 0 [] none (ws.length + 1) (by omega) (by omega) (by omega) (by simp)
 rw [List.drop_zero] at p1 p2
 have hg : ∀ o, whileD C_read_tests_0 B_read_tests_0 (ws.length + 1) [some (.dat (.list (ws.map .str))), oS [], iD ((0 : Nat) : Int), none] = o -> (gWhile (muLen 0) C_read_tests_0 B_read_tests_0) [some (.dat (.list (ws.map .str))), oS [], iD 0, none] = o := fun o h => by
  unfold gWhile
  rw [<- h]
  show whileD C_read_tests_0 B_read_tests_0 ((ws.map PyData.str).length + 1) _ = _
  rw [List.length_map]
  rfl
 unfold F_read_tests
 change ∃ d, (gSeq _ _ [some (.dat (.list (ws.map .str))), none, none, none]).bind outV = _ /\ _
 rw [sq_next5 (ds' := [some (.dat (.list (ws.map .str))), oS [], none, none]) rfl, sq_next5 (ds' := [some (.dat (.list (ws.map .str))), oS [], iD 0, none]) rfl]
 unfold testsB
 cases hc : cntT ws with
 | none =>
  have e := hg _ (p2 (.inl hc))
  unfold gSeq
  rw [e]
  exact ⟨.none, rfl, rfl, fun h => by cases h⟩
 | some k =>
  by_cases h6 : k <= 6
  . obtain ⟨T', y', q, qt⟩ := p1 k hc (by simpa using h6)
    rw [sq_next5 (hg _ q)]
    refine ⟨.tuple T', ?_, by simp only [decide_eq_true h6]; rfl, fun _ => ⟨T', rfl⟩⟩
    walk_at "t"
    try rw [if_pos (by simp at qt; omega)]
    try walk_at "t"
  . have e := hg _ (p2 (.inr ⟨k, hc, by simp; omega⟩))
    unfold gSeq
    rw [e]
    exact ⟨.none, rfl, by simp only [decide_eq_false h6]; rfl, fun h => by simp [h6] at h⟩
end Law
namespace Law
open PySem L2 PySem.NumText PySem.StrLaws
noncomputable def FILLW : List Str := [Str.ofString "none", Str.ofString "sun", Str.ofString "line"]
noncomputable def TAKEW : List Str := [Str.ofString "none", Str.ofString "need", Str.ofString "give"]
noncomputable def WORKW : List Str := [Str.ofString "now", Str.ofString "wait"]
noncomputable def DEEDW : List Str := [Str.ofString "fill", Str.ofString "take", Str.ofString "works"]
noncomputable def deedsB (a b c d e f : Str) : Bool := decide ([a, c, e] = DEEDW) && decide (b ∈ FILLW) && decide (d ∈ TAKEW) && decide (f ∈ WORKW)
noncomputable def SOk (w : Str) : Prop := PyData.strOk w = true
theorem sh_strs : ∀ l : List Str, (∀ w ∈ l, SOk w) -> PyData.canLayAll0 (l.map .str) = true /\ PyData.depthAll (l.map .str) <= 1
 | [], _ => ⟨by simp [PyData.canLayAll0], by simp [PyData.depthAll]⟩
 | a :: l, h => by
  obtain ⟨h1, h2⟩ := sh_strs l fun w hw => h w (List.mem_cons_of_mem _ hw)
  have h0 : PyData.strOk a = true := h a List.mem_cons_self
  exact ⟨by simp [PyData.canLayAll0, PyData.canLay0, h1, h0], by simp [PyData.depthAll, PyData.depth]; exact h2⟩
theorem shp_strs {l : List Str} (h : ∀ w ∈ l, SOk w) : SeqAt.shaped (.list (l.map .str)) = true := by
 obtain ⟨h1, h2⟩ := sh_strs l h
 simp [SeqAt.shaped, PyData.canLay0, PyData.depth, h1]
 omega
theorem eqv_strs : ∀ l m : List Str, PyData.eqvAll (l.map .str) (m.map .str) = decide (l = m)
 | [], [] => by simp [PyData.eqvAll]
 | [], b :: m => by simp [PyData.eqvAll]
 | a :: l, [] => by simp [PyData.eqvAll]
 | a :: l, b :: m => by
  have ih := eqv_strs l m
  simp only [List.map_cons, PyData.eqvAll, ih, PyData.eqv]
  by_cases c : a = b
  . subst c; simp
  . simp [c]
theorem neD_strs {l m : List Str} (hl : ∀ w ∈ l, SOk w) (hm : ∀ w ∈ m, SOk w) : neDD (.list (l.map .str)) (.list (m.map .str)) = some (.dat (.bool (!decide (l = m)))) := by
 unfold neDD
 split
 . rename_i h _; cases h
 . rw [if_pos ⟨shp_strs hl, shp_strs hm⟩]
   simp only [PyData.eqv, eqv_strs]
theorem deedw_ok : ∀ w ∈ DEEDW, SOk w := by
 have h : (DEEDW.all fun w => PyData.strOk w) = true := by decide +kernel
 exact fun w hw => List.all_eq_true.mp h w hw
theorem rdeeds_eq {a b c d e f : Str} (ok : ∀ w ∈ [a, b, c, d, e, f], SOk w) : F_read_deeds [.list ([a, b, c, d, e, f].map .str)] = some (.dat (if deedsB a b c d e f = true then .tuple [.str b, .str d, .str f] else .none)) := by
 have s0 : six1 (.list ([a, b, c, d, e, f].map .str)) (some 0) none (some 2) = some (.own ([a, c, e].map .str)) := rfl
 have s1 : six1 (.list ([a, b, c, d, e, f].map .str)) (some 1) none (some 2) = some (.own [.str b, .str d, .str f]) := rfl
 have ne : neDD (.list ([a, c, e].map .str)) (.list (DEEDW.map .str)) = some (.dat (.bool (!decide ([a, c, e] = DEEDW)))) := neD_strs (fun w hw => ok w (by
  simp only [List.mem_cons, List.not_mem_nil, or_false] at hw ⊢
  rcases hw with h | h | h
  . exact .inl h
  . exact .inr (.inr (.inl h))
  . exact .inr (.inr (.inr (.inr (.inl h)))))) deedw_ok
 have n1 := notin_t (w := b) (l := FILLW)
 have n2 := notin_t (w := d) (l := TAKEW)
 have n3 := notin_t (w := f) (l := WORKW)
 unfold deedsB
 generalize [a, b, c, d, e, f].map PyData.str = L at *
 unfold F_read_deeds
 walk_at "t"
 simp only [fSl3]
 walk_at "t"
 rw [s0]
 walk_at "t"
 rw [show [PyData.str (Str.ofString "fill"), .str (Str.ofString "take"), .str (Str.ofString "works")] = DEEDW.map .str from rfl, show neDD (.list [.str a, .str c, .str e]) (.list (DEEDW.map .str)) = _ from ne]
 by_cases c1 : [a, c, e] = DEEDW
 . rw [decide_eq_true c1]
   walk_at "t"
   simp only [fSl3]
   walk_at "t"
   rw [s1]
   walk_at "t"
   rw [show (c_FILL_WORDS : PyData) = .tuple (FILLW.map .str) from rfl, n1]
   by_cases c2 : b ∈ FILLW
   . rw [decide_eq_true c2]
     walk_at "t"
     rw [show (c_TAKE_WORDS : PyData) = .tuple (TAKEW.map .str) from rfl, n2]
     by_cases c3 : d ∈ TAKEW
     . rw [decide_eq_true c3]
       walk_at "t"
       rw [show (c_WORK_WORDS : PyData) = .tuple (WORKW.map .str) from rfl, n3]
       by_cases c4 : f ∈ WORKW
       . rw [decide_eq_true c4]
         walk_at "t"
         rw [if_pos c4]
       . rw [decide_eq_false c4]
         walk_at "t"
         rw [if_neg c4]
     . rw [decide_eq_false c3]
       walk_at "t"
   . rw [decide_eq_false c2]
     walk_at "t"
 . rw [decide_eq_false c1]
   walk_at "t"
end Law
namespace Law
open PySem L2 PySem.NumText PySem.StrLaws
noncomputable def ruleB (ws : List Str) : Bool := decide (7 <= ws.length) && decide (ws.head? = some (Str.ofString "when")) && testsB ((ws.drop 1).take (ws.length - 7)) && (match ws.drop (ws.length - 6) with
 | [a, b, c, d, e, f] => deedsB a b c d e f
 | _ => false)
theorem six_of {ws : List Str} (h : 7 <= ws.length) : ∃ w m a b c d e f, ws = w :: (m ++ [a, b, c, d, e, f]) := by
 have h6 : (ws.drop (ws.length - 6)).length = 6 := by rw [List.length_drop]; omega
 obtain ⟨a, b, c, d, e, f, e6⟩ : ∃ a b c d e f, ws.drop (ws.length - 6) = [a, b, c, d, e, f] := by
  generalize ws.drop (ws.length - 6) = l at h6
  match l, h6 with
  | [a, b, c, d, e, f], _ => exact ⟨a, b, c, d, e, f, rfl⟩
 cases ws with
 | nil => simp at h
 | cons w r =>
  refine ⟨w, r.take (r.length - 6), a, b, c, d, e, f, ?_⟩
  have e7 : (w :: r).drop ((w :: r).length - 6) = r.drop (r.length - 6) := by
   rw [List.length_cons] at h ⊢
   rw [show r.length + 1 - 6 = (r.length - 6) + 1 by omega, List.drop_succ_cons]
  rw [e7] at e6
  rw [<- e6, List.take_append_drop]
theorem ruleB_six {w a b c d e f : Str} {m : List Str} : ruleB (w :: (m ++ [a, b, c, d, e, f])) = (decide (w = Str.ofString "when") && testsB m && deedsB a b c d e f) := by
 have hl : (w :: (m ++ [a, b, c, d, e, f])).length = m.length + 7 := by simp
 unfold ruleB
 rw [hl]
 have e1 : ((w :: (m ++ [a, b, c, d, e, f])).drop 1).take (m.length + 7 - 7) = m := by
  rw [List.drop_succ_cons, List.drop_zero, show m.length + 7 - 7 = m.length by omega, List.take_left']
  rfl
 have e2 : (w :: (m ++ [a, b, c, d, e, f])).drop (m.length + 7 - 6) = [a, b, c, d, e, f] := by
  rw [show m.length + 7 - 6 = m.length + 1 by omega, List.drop_succ_cons, List.drop_left']
  rfl
 rw [e1, e2, decide_eq_true (by omega), Bool.true_and]
 congr 2
 simp
end Law
namespace Law
open PySem L2 PySem.NumText PySem.StrLaws
theorem lz_join (s : Str) : ∀ (ws : List Str), lz (Str.join s ws) = (match ws with | [] => [] | w :: r => lz w ++ (r.map fun x => lz s ++ lz x).flatten)
 | [] => rfl
 | [w] => by simp [Str.join]
 | w :: x :: r => by
  have ih := lz_join s (x :: r)
  show lz (w ++ s ++ Str.join s (x :: r)) = _
  rw [lz_app, lz_app, ih]
  simp [List.append_assoc]
noncomputable abbrev wds (z : Str) : List Str := Txt.split z ⟨#[32]⟩
theorem sp_one : Str.ofString " " = ⟨#[32]⟩ := str_ext (by decide +kernel)
theorem wds_ne (z : Str) : wds z ≠ [] := fun h => by
 have := PyProof.Rows.split_pos z ⟨#[32]⟩
 rw [show Txt.split z ⟨#[32]⟩ = [] from h] at this
 simp at this
theorem flat_mem {α : Type} {l : List (List α)} {x : List α} (h : x ∈ l) : x.length <= l.flatten.length /\ ∀ c ∈ x, c ∈ l.flatten := by
 induction l with
 | nil => cases h
 | cons a l ih =>
  rw [List.flatten_cons, List.length_append]
  rcases List.mem_cons.mp h with rfl | h
  . exact ⟨by omega, fun c hc => List.mem_append_left _ hc⟩
  . obtain ⟨h1, h2⟩ := ih h
    exact ⟨by omega, fun c hc => List.mem_append_right _ (h2 c hc)⟩
theorem flat_cnt {α : Type} : ∀ {l : List (List α)}, (∀ x ∈ l, 1 <= x.length) -> l.length <= l.flatten.length
 | [], _ => by simp
 | a :: l, h => by
  have h1 := h a List.mem_cons_self
  have h2 := flat_cnt (l := l) fun x hx => h x (List.mem_cons_of_mem _ hx)
  rw [List.flatten_cons, List.length_append, List.length_cons]
  omega
theorem wds_in (z : Str) : (wds z).length <= z.length + 1 /\ ∀ w ∈ wds z, w.length <= z.length /\ ∀ c ∈ lz w, c ∈ lz z := by
 have hj := join_split z ⟨#[32]⟩
 have hne := wds_ne z
 have hj' : Str.join ⟨#[32]⟩ (wds z) = z := hj
 generalize wds z = ws at *
 cases ws with
 | nil => exact absurd rfl hne
 | cons w r =>
  have e := congrArg lz hj'
  rw [lz_join] at e
  have e' : lz w ++ (r.map fun x => 32 :: lz x).flatten = lz z := e
  have hl : z.length = (lz w).length + ((r.map fun x => 32 :: lz x).flatten).length := by rw [lz_len, <- e', List.length_append]
  have hc := flat_cnt (l := r.map fun x => 32 :: lz x) (fun x hx => by
   obtain ⟨y, _, rfl⟩ := List.mem_map.mp hx
   simp)
  rw [List.length_map] at hc
  refine ⟨by rw [List.length_cons]; omega, fun x hx => ?_⟩
  rcases List.mem_cons.mp hx with rfl | hx
  . refine ⟨by rw [lz_len x]; omega, fun c h => ?_⟩
    rw [<- e']
    exact List.mem_append_left _ h
  . obtain ⟨h1, h2⟩ := flat_mem (l := r.map fun x => 32 :: lz x) (x := 32 :: lz x) (List.mem_map.mpr ⟨x, hx, rfl⟩)
    refine ⟨by rw [lz_len x]; rw [List.length_cons] at h1; omega, fun c h => ?_⟩
    rw [<- e']
    exact List.mem_append_right _ (h2 c (List.mem_cons_of_mem _ h))
structure Zok (z : Str) : Prop where
 len : z.length <= 800
 ok : ∀ c ∈ lz z, c < 1114112
theorem sok_of {w : Str} (h : ∀ c ∈ lz w, c < 1114112) : SOk w := by
 unfold SOk PyData.strOk
 rw [Array.all_eq_true']
 intro c hc
 have : c ∈ lz w := by unfold lz; simpa using hc
 have := h c this
 simp
 omega
theorem Zok.w {z : Str} (h : Zok z) : (wds z).length <= 1000 /\ ∀ w ∈ wds z, w.length <= 900 /\ SOk w := by
 obtain ⟨h1, h2⟩ := wds_in z
 have := h.len
 exact ⟨by omega, fun w hw => ⟨by have := (h2 w hw).1; omega, sok_of fun c hc => h.ok c ((h2 w hw).2 c hc)⟩⟩
theorem splitD_z {z : Str} (h : Zok z) : splitD (.str z) [.str (Str.ofString " ")] = some (.own ((wds z).map .str)) := by
 rw [sp_one]
 show (if ((⟨#[32]⟩ : Str).length == 0) = false /\ z.length <= 100000 then some (PV.own ((Txt.split z ⟨#[32]⟩).map .str)) else none) = _
 rw [if_pos ⟨rfl, by have := h.len; omega⟩]
end Law
namespace Law
open PySem L2 PySem.NumText PySem.StrLaws
theorem cut_neg6 {α : Type} (l : List α) (h : 6 <= l.length) : cutD l (some (-6)) none = l.drop (l.length - 6) := by
 unfold cutD HT.sIx
 simp only [show (-6 : Int) < 0 by decide, if_true]
 rw [show ((-6 : Int) + (l.length : Int)).toNat = l.length - 6 by omega]
 exact List.take_of_length_le (by rw [List.length_drop]; omega)
theorem cut_1neg6 {α : Type} (l : List α) (h : 7 <= l.length) : cutD l (some 1) (some (-6)) = (l.drop 1).take (l.length - 7) := by
 unfold cutD HT.sIx
 simp only [show (-6 : Int) < 0 by decide, show ¬ (1 : Int) < 0 by decide, if_true, if_false]
 rw [show ((-6 : Int) + (l.length : Int)).toNat = l.length - 6 by omega, show min (1 : Int).toNat l.length = 1 by show min 1 l.length = 1; omega, show l.length - 6 - 1 = l.length - 7 by omega]
theorem rrule_eq {z : Str} (h : Zok z) : ∃ d, F_read_rule [.str z] = some (.dat d) /\ isNoneD d = !ruleB (wds z) := by
 obtain ⟨kl, kw⟩ := h.w
 have hne := wds_ne z
 have sp := splitD_z h
 generalize wds z = ws at *
 have q1 : (gSetD 1 (fMeth splitD (fVar 0) (aCons (fC (.str " ")) aNil))) [some (.dat (.str z)), none, none, none] = some (.next [some (.dat (.str z)), some (.dat (.list (ws.map .str))), none, none]) := by
  refine setD_eq5 (pv := .own (ws.map .str)) ?_
  simp only [fMeth, aCons, aNil, fC, fVar, List.getElem?_cons_zero, Option.bind_some, PV.d_dat]
  exact sp
 unfold F_read_rule
 change ∃ d, (gSeq _ _ [some (.dat (.str z)), none, none, none]).bind outV = _ /\ _
 rw [sq_next5 q1]
 by_cases h7 : 7 <= ws.length
 . obtain ⟨w, m, a, b, c, d, e, f, rfl⟩ := six_of h7
   have hm : ∀ x ∈ m, x.length <= 900 := fun x hx => (kw x (List.mem_cons_of_mem _ (List.mem_append_left _ hx))).1
   have lm : m.length <= 1000 := by simp at kl; omega
   obtain ⟨td, et, ht, htt⟩ := rtests_eq lm hm
   have ed := rdeeds_eq (a := a) (b := b) (c := c) (d := d) (e := e) (f := f) (fun x hx => (kw x (List.mem_cons_of_mem _ (List.mem_append_right _ hx))).2)
   have ll : (w :: (m ++ [a, b, c, d, e, f])).length = m.length + 7 := by simp
   have s1 : slAD (.list ((w :: (m ++ [a, b, c, d, e, f])).map .str)) (some 1) (some (-6)) = some (.own (m.map .str)) := by
    show some (PV.own (cutD ((w :: (m ++ [a, b, c, d, e, f])).map PyData.str) (some 1) (some (-6)))) = _
    rw [cut_1neg6 _ (by rw [List.length_map, ll]; omega), List.length_map, ll, <- List.map_drop, <- List.map_take]
    congr 3
    rw [List.drop_succ_cons, List.drop_zero, show m.length + 7 - 7 = m.length by omega, List.take_left']
    rfl
   have s2 : slAD (.list ((w :: (m ++ [a, b, c, d, e, f])).map .str)) (some (-6)) none = some (.own ([a, b, c, d, e, f].map .str)) := by
    show some (PV.own (cutD ((w :: (m ++ [a, b, c, d, e, f])).map PyData.str) (some (-6)) none)) = _
    rw [cut_neg6 _ (by rw [List.length_map, ll]; omega), List.length_map, ll, <- List.map_drop]
    congr 3
    rw [show m.length + 7 - 6 = m.length + 1 by omega, List.drop_succ_cons, List.drop_left']
    rfl
   have i0 : ixD (.list ((w :: (m ++ [a, b, c, d, e, f])).map .str)) (.int 0) = some (.dat (.str w)) := by
    rw [List.map_cons, ixD_list, atI_0]
    rfl
   have lL : ((w :: (m ++ [a, b, c, d, e, f])).map PyData.str).length = m.length + 7 := by rw [List.length_map, ll]
   rw [ruleB_six]
   rw [ixD_list] at i0
   generalize (w :: (m ++ [a, b, c, d, e, f])).map PyData.str = L at *
   generalize m.map PyData.str = ML at *
   generalize [a, b, c, d, e, f].map PyData.str = SL at *
   walk_at "t"
   rw [i0]
   walk_at "t"
   by_cases cw : w = Str.ofString "when"
   . simp only [cw, decide_true, Bool.not_true]
     walk_at "t"
     try rw [show (c_DEED_WORDS : PyData) = .int 6 from rfl]
     try walk_at "t"
     rw [if_neg (by omega)]
     walk_at "t"
     rw [s1]
     walk_at "t"
     rw [et]
     walk_at "t"
     rw [s2]
     walk_at "t"
     rw [ed]
     walk_at "t"
     cases hT : testsB m with
     | false =>
      rw [hT] at ht
      have ht' : isNoneD td = true := ht
      refine ⟨.none, ?_, rfl⟩
      rw [ht']
      walk_at "t"
     | true =>
      obtain ⟨l, rfl⟩ := htt hT
      cases hD : deedsB a b c d e f with
      | false =>
       refine ⟨.none, ?_, rfl⟩
       walk_at "t"
      | true =>
       refine ⟨.tuple [.tuple l, .str b, .str d, .str f], ?_, rfl⟩
       walk_at "t"
       rfl
   . refine ⟨.none, ?_, by rw [decide_eq_false cw]; rfl⟩
     simp only [cw, decide_false, Bool.not_false]
     walk_at "t"
 . have hB : ruleB ws = false := by
     unfold ruleB
     rw [decide_eq_false h7]
     rfl
   rw [hB]
   cases ws with
   | nil => exact absurd rfl hne
   | cons w r =>
    refine ⟨.none, ?_, rfl⟩
    have i0 : atI ((w :: r).map PyData.str) 0 = some (.str w) := by rw [List.map_cons, atI_0]
    have lL : ((w :: r).map PyData.str).length <= 6 := by rw [List.length_map]; omega
    generalize (w :: r).map PyData.str = L at *
    walk_at "t"
    rw [i0]
    walk_at "t"
    by_cases cw : w = Str.ofString "when"
    . simp only [cw, decide_true, Bool.not_true]
      walk_at "t"
      try rw [show (c_DEED_WORDS : PyData) = .int 6 from rfl]
      try walk_at "t"
      rw [if_pos (by omega)]
      try walk_at "t"
    . simp only [cw, decide_false, Bool.not_false]
      walk_at "t"
end Law
namespace Law
open PySem L2 PySem.NumText PySem.StrLaws
theorem at_neg {α : Type} {l : List α} {k : Nat} (hk : 1 <= k) (h : k <= l.length) : atI l (-(k : Int)) = l[l.length - k]? := by
 unfold atI ixN
 rw [if_neg (by omega), if_pos (by omega)]
 show l[(-(k : Int) + (l.length : Int)).toNat]? = _
 rw [show (-(k : Int) + (l.length : Int)).toNat = l.length - k by omega]
theorem isrule_eq {z : Str} (h : Zok z) : F_l_is_rule [.str z] = some (.dat (.bool (ruleB (wds z)))) := by
 obtain ⟨kl, kw⟩ := h.w
 have hne := wds_ne z
 have sp := splitD_z h
 generalize wds z = ws at *
 have q1 : (gSetD 1 (fMeth splitD (fVar 0) (aCons (fC (.str " ")) aNil))) [some (.dat (.str z)), none, none, none, none] = some (.next [some (.dat (.str z)), some (.dat (.list (ws.map .str))), none, none, none]) := by
  refine setD_eq5 (pv := .own (ws.map .str)) ?_
  simp only [fMeth, aCons, aNil, fC, fVar, List.getElem?_cons_zero, Option.bind_some, PV.d_dat]
  exact sp
 unfold F_l_is_rule
 change (gSeq _ _ [some (.dat (.str z)), none, none, none, none]).bind outV = _
 rw [sq_next5 q1]
 by_cases h7 : 7 <= ws.length
 . obtain ⟨w, m, a, b, c, d, e, f, rfl⟩ := six_of h7
   have hm : ∀ x ∈ m, x.length <= 900 := fun x hx => (kw x (List.mem_cons_of_mem _ (List.mem_append_left _ hx))).1
   have lm : m.length <= 1000 := by simp at kl; omega
   have ll : (w :: (m ++ [a, b, c, d, e, f])).length = m.length + 7 := by simp
   have s1 : slAD (.list ((w :: (m ++ [a, b, c, d, e, f])).map .str)) (some 1) (some (-6)) = some (.own (m.map .str)) := by
    show some (PV.own (cutD ((w :: (m ++ [a, b, c, d, e, f])).map PyData.str) (some 1) (some (-6)))) = _
    rw [cut_1neg6 _ (by rw [List.length_map, ll]; omega), List.length_map, ll, <- List.map_drop, <- List.map_take]
    congr 3
    rw [List.drop_succ_cons, List.drop_zero, show m.length + 7 - 7 = m.length by omega, List.take_left']
    rfl
   have i0 : atI ((w :: (m ++ [a, b, c, d, e, f])).map PyData.str) 0 = some (.str w) := by rw [List.map_cons, atI_0]
   have lL : ((w :: (m ++ [a, b, c, d, e, f])).map PyData.str).length = m.length + 7 := by rw [List.length_map, ll]
   have neg : ∀ (k : Nat) (x : Str), 1 <= k -> k <= 6 -> [a, b, c, d, e, f][6 - k]? = some x -> atI ((w :: (m ++ [a, b, c, d, e, f])).map PyData.str) (-(k : Int)) = some (.str x) := fun k x k1 k6 hx => by
    rw [at_neg k1 (by rw [lL]; omega), lL, List.getElem?_map, show m.length + 7 - k = (m.length + (6 - k)) + 1 by omega, List.getElem?_cons_succ, List.getElem?_append_right (by omega), show m.length + (6 - k) - m.length = 6 - k by omega, hx]
    rfl
   have n6 : atI ((w :: (m ++ [a, b, c, d, e, f])).map PyData.str) (-6) = some (.str a) := neg 6 a (by decide) (by decide) rfl
   have n5 : atI ((w :: (m ++ [a, b, c, d, e, f])).map PyData.str) (-5) = some (.str b) := neg 5 b (by decide) (by decide) rfl
   have n4 : atI ((w :: (m ++ [a, b, c, d, e, f])).map PyData.str) (-4) = some (.str c) := neg 4 c (by decide) (by decide) rfl
   have n3 : atI ((w :: (m ++ [a, b, c, d, e, f])).map PyData.str) (-3) = some (.str d) := neg 3 d (by decide) (by decide) rfl
   have n2 : atI ((w :: (m ++ [a, b, c, d, e, f])).map PyData.str) (-2) = some (.str e) := neg 2 e (by decide) (by decide) rfl
   have n1 : atI ((w :: (m ++ [a, b, c, d, e, f])).map PyData.str) (-1) = some (.str f) := neg 1 f (by decide) (by decide) rfl
   have ok6 : ∀ x ∈ [a, b, c, d, e, f], SOk x := fun x hx => (kw x (List.mem_cons_of_mem _ (List.mem_append_right _ hx))).2
   have nd : neDD (.list [.str a, .str c, .str e]) (.list [.str (Str.ofString "fill"), .str (Str.ofString "take"), .str (Str.ofString "works")]) = some (.dat (.bool (!decide ([a, c, e] = DEEDW)))) := neD_strs (l := [a, c, e]) (m := DEEDW) (fun w hw => ok6 w (by
    simp only [List.mem_cons, List.not_mem_nil, or_false] at hw ⊢
    rcases hw with h | h | h
    . exact .inl h
    . exact .inr (.inr (.inl h))
    . exact .inr (.inr (.inr (.inr (.inl h)))))) deedw_ok
   have f1 : (or2 notInD notInSD) (.str b) (.list [.str (Str.ofString "none"), .str (Str.ofString "sun"), .str (Str.ofString "line")]) = some (.dat (.bool (!decide (b ∈ FILLW)))) := notin_l (l := FILLW)
   have f2 : (or2 notInD notInSD) (.str d) (.list [.str (Str.ofString "none"), .str (Str.ofString "need"), .str (Str.ofString "give")]) = some (.dat (.bool (!decide (d ∈ TAKEW)))) := notin_l (l := TAKEW)
   have f3 : (or2 inD inSD) (.str f) (.list [.str (Str.ofString "now"), .str (Str.ofString "wait")]) = some (.dat (.bool (decide (f ∈ WORKW)))) := in_l (l := WORKW)
   rw [ruleB_six]
   unfold deedsB
   generalize (w :: (m ++ [a, b, c, d, e, f])).map PyData.str = L at *
   have lt := law_tests (some (.dat (.str z))) (some (.dat (.list L))) m.length m 0 none (m.length + 1) (Nat.le_refl _) (by omega) lm hm
   have mu : muOwn 2 [some (.dat (.str z)), some (.dat (.list L)), oS (m.map .str), iD 0, none] = m.length + 1 := by
    show (m.map PyData.str).length + 1 = _
    rw [List.length_map]
   walk_at "t"
   rw [if_neg (by omega), i0]
   walk_at "t"
   by_cases cw : w = Str.ofString "when"
   . simp only [cw, decide_true, Bool.not_true]
     walk_at "t"
     rw [n6]
     walk_at "t"
     rw [n4]
     walk_at "t"
     rw [n2]
     walk_at "t"
     rw [nd]
     by_cases cd : [a, c, e] = DEEDW
     . rw [decide_eq_true cd]
       walk_at "t"
       rw [n5]
       walk_at "t"
       rw [f1]
       by_cases cf : b ∈ FILLW
       . rw [decide_eq_true cf]
         walk_at "t"
         rw [n3]
         walk_at "t"
         rw [f2]
         by_cases ct : d ∈ TAKEW
         . rw [decide_eq_true ct]
           walk_at "t"
           rw [s1]
           walk_at "t"
           rw [show muOwn 2 [some (PV.dat (PyData.str z)), some (PV.dat (PyData.list L)), some (PV.own (m.map .str)), some (PV.dat (PyData.int 0)), none] = _ from mu]
           cases hc : cntT m with
           | none =>
            have e2 : testsB m = false := by unfold testsB; rw [hc]
            rw [show whileD C_l_is_rule_0 B_l_is_rule_0 (m.length + 1) [some (PV.dat (PyData.str z)), some (PV.dat (PyData.list L)), some (PV.own (m.map .str)), some (PV.dat (PyData.int 0)), none] = _ from lt.2 hc, e2]
            walk_at "t"
           | some k =>
            have e2 : testsB m = decide (k <= 6) := by unfold testsB; rw [hc]
            obtain ⟨y4', e1⟩ := lt.1 k hc
            rw [show whileD C_l_is_rule_0 B_l_is_rule_0 (m.length + 1) [some (PV.dat (PyData.str z)), some (PV.dat (PyData.list L)), some (PV.own (m.map .str)), some (PV.dat (PyData.int 0)), none] = _ from e1, e2]
            walk_at "t"
            by_cases c6 : k <= 6
            . rw [if_pos (by omega), n1]
              walk_at "t"
              rw [f3, decide_eq_true c6]
              walk_at "t"
            . rw [if_neg (by omega), decide_eq_false c6]
              walk_at "t"
         . rw [decide_eq_false ct]
           walk_at "t"
       . rw [decide_eq_false cf]
         walk_at "t"
     . rw [decide_eq_false cd]
       walk_at "t"
   . simp only [cw, decide_false, Bool.not_false]
     walk_at "t"
 . have hB : ruleB ws = false := by
     unfold ruleB
     rw [decide_eq_false h7]
     rfl
   rw [hB]
   have lL : (ws.map PyData.str).length < 7 := by rw [List.length_map]; omega
   generalize ws.map PyData.str = L at *
   walk_at "t"
   rw [if_pos (by omega)]
   try walk_at "t"
end Law
namespace Law
open PySem L2 PySem.NumText PySem.StrLaws
noncomputable def badZ (n : Nat) (z : Str) : Bool := decide (n = 20) || !ruleB (wds z)
noncomputable def firstBad : Nat -> List Str -> Option Nat
 | _, [] => none
 | n, z :: r => if badZ n z = true then some n else firstBad (n + 1) r
theorem smallD_nat {f : Nat} (h : f <= 1000) : smallD (.int (f : Int)) = true := by
 show decide (((f : Int)).natAbs.log2 < 1920) = true
 rw [decide_eq_true_eq, Int.natAbs_natCast]
 by_cases c : f = 0
 . subst c; decide
 . exact (Nat.log2_lt c (k := 1920)).mpr (Nat.lt_of_le_of_lt h (Nat.lt_of_lt_of_le (show 1000 < 2 ^ 10 by decide) (Nat.pow_le_pow_right (by decide) (by decide))))
theorem B_keeper (cE : Addr) {z : Str} (h : Zok z) (n : Nat) (hn : n <= 100) (y0 y4 : Option PV) (T : List PyData) (hT : T.length <= 1000) :
  (badZ n z = true -> BX_read_keeper_0 cE [y0, oS T, iD n, some (.dat (.str z)), y4] = some (.up (excD cE "place" (.int (n : Int))))) /\
  (badZ n z = false -> ∃ d, BX_read_keeper_0 cE [y0, oS T, iD n, some (.dat (.str z)), y4] = some (.next [y0, oS (T ++ [d]), iD n, some (.dat (.str z)), some (.dat d)])) := by
 obtain ⟨d, ed, hd⟩ := rrule_eq h
 have sm := smallD_nat (f := n) (by omega)
 have q1 : (gSetD 4 (fCall F_read_rule (aCons (fVar 3) aNil))) [y0, oS T, iD n, some (.dat (.str z)), y4] = some (.next [y0, oS T, iD n, some (.dat (.str z)), some (.dat d)]) := by
  refine setD_eq5 (pv := .dat d) ?_
  simp only [fCall, aCons, aNil, fVar, List.getElem?_cons_zero, List.getElem?_cons_succ, Option.bind_some, PV.d_dat]
  exact ed
 have tt : (bOr (bVal (fOp isD (fVar 4) (fC .none))) (bVal (fOp eqDD (fVar 2) (fC c_MOST_RULES)))) [y0, oS T, iD n, some (.dat (.str z)), some (.dat d)] = some (badZ n z) := by
  simp only [bOr, bVal, fOp, fVar, fC, List.getElem?_cons_zero, List.getElem?_cons_succ, Option.bind_some, PV.d_dat, isD_none, asB_bool]
  rw [show (c_MOST_RULES : PyData) = .int 20 from rfl, eqDD_int, hd]
  simp only [Option.bind_some, PV.d_dat, asB_bool]
  unfold badZ
  have e20 : decide ((n : Int) = 20) = decide (n = 20) := by rw [decide_eq_decide]; omega
  cases ruleB (wds z) with
  | true => simp [e20]
  | false => simp
 unfold BX_read_keeper_0
 rw [sq_next5 q1]
 refine ⟨fun hb => ?_, fun hb => ⟨d, ?_⟩⟩
 . have e : (gIf (bOr (bVal (fOp isD (fVar 4) (fC .none))) (bVal (fOp eqDD (fVar 2) (fC c_MOST_RULES)))) (gUpP smallD cE "place" (aCons (fVar 2) aNil)) gNext) [y0, oS T, iD n, some (.dat (.str z)), some (.dat d)] = some (.up (excD cE "place" (.int (n : Int)))) := by
     rw [gIf_b tt, hb, if_pos rfl]
     simp only [gUpP, aCons, aNil, fVar, List.getElem?_cons_zero, List.getElem?_cons_succ, Option.bind_some, PV.d_dat]
     rw [sm]
     rfl
   unfold gSeq
   rw [e]
   rfl
 . rw [sq_next5 (ds' := [y0, oS T, iD n, some (.dat (.str z)), some (.dat d)]) (by rw [gIf_b tt, hb]; rfl), gApp_eq]
   exact appK_some (i := 1) (l := T) (.dat d) rfl (by omega)
end Law
namespace Law
open PySem L2 PySem.NumText PySem.StrLaws
theorem keeper_run (cE : Addr) (y0 : Option PV) : ∀ (zs : List Str) (n : Nat) (T : List PyData) (y2 y3 y4 : Option PV), (∀ z ∈ zs, Zok z) -> n + zs.length <= 100 -> T.length + zs.length <= 500 ->
  (∀ i, firstBad n zs = some i -> forD (sTup 2 (sCons 2 (sCons 3 sNil))) (BX_read_keeper_0 cE) (enumFrom n (zs.map .str)) [y0, oS T, y2, y3, y4] = some (.up (excD cE "place" (.int (i : Nat))))) /\
  (firstBad n zs = none -> ∃ T' x2 x3 x4, forD (sTup 2 (sCons 2 (sCons 3 sNil))) (BX_read_keeper_0 cE) (enumFrom n (zs.map .str)) [y0, oS T, y2, y3, y4] = some (.next [y0, oS T', x2, x3, x4]) /\ T'.length = T.length + zs.length)
 | [], n, T, y2, y3, y4, _, _, _ => ⟨(fun i h => by cases h), fun _ => ⟨T, y2, y3, y4, rfl, rfl⟩⟩
 | z :: zs, n, T, y2, y3, y4, h, hn, hT => by
  rw [List.length_cons] at hn hT
  obtain ⟨b1, b2⟩ := B_keeper cE (h z List.mem_cons_self) n (by omega) y0 y4 T (by omega)
  have es : sTup 2 (sCons 2 (sCons 3 sNil)) (.tuple [.int (n : Int), .str z]) [y0, oS T, y2, y3, y4] = some [y0, oS T, iD n, some (.dat (.str z)), y4] := rfl
  have ee : enumFrom n ((z :: zs).map PyData.str) = .tuple [.int (n : Int), .str z] :: enumFrom (n + 1) (zs.map .str) := rfl
  rw [ee]
  unfold firstBad
  cases hb : badZ n z with
  | true =>
   refine ⟨fun i hi => ?_, fun hi => by cases hi⟩
   have : n = i := by simpa using hi
   subst this
   unfold forD
   rw [es]
   simp only [Option.bind_some]
   rw [b1 hb]
   rfl
  | false =>
   obtain ⟨d, hB⟩ := b2 hb
   obtain ⟨i1, i2⟩ := keeper_run cE y0 zs (n + 1) (T ++ [d]) (iD n) (some (.dat (.str z))) (some (.dat d)) (fun y hy => h y (List.mem_cons_of_mem _ hy)) (by omega) (by simp; omega)
   rw [forD_next es hB]
   refine ⟨fun i hi => i1 i (by simpa using hi), fun hi => ?_⟩
   obtain ⟨T', x2, x3, x4, e, l⟩ := i2 (by simpa using hi)
   exact ⟨T', x2, x3, x4, e, by rw [l]; simp; omega⟩
theorem keeperX_eq (cE : Addr) {zs : List Str} (h : ∀ z ∈ zs, Zok z) (hl : zs.length <= 50) :
  (∀ i, firstBad 0 zs = some i -> FX_read_keeper cE [.list (zs.map .str)] = some (.inr (excD cE "place" (.int (i : Nat))))) /\
  (firstBad 0 zs = none -> ∃ T, FX_read_keeper cE [.list (zs.map .str)] = some (.inl (.dat (.tuple T))) /\ T.length = zs.length) := by
 obtain ⟨k1, k2⟩ := keeper_run cE (some (.dat (.list (zs.map .str)))) zs 0 [] none none none h (by omega) (by simp; omega)
 have hf : ∀ o, forD (sTup 2 (sCons 2 (sCons 3 sNil))) (BX_read_keeper_0 cE) (enumFrom 0 (zs.map .str)) [some (.dat (.list (zs.map .str))), oS [], none, none, none] = o -> (gFor (iFn enumD (aCons (fVar 0) aNil)) (sTup 2 (sCons 2 (sCons 3 sNil))) (BX_read_keeper_0 cE)) [some (.dat (.list (zs.map .str))), oS [], none, none, none] = o := fun o h => h
 have fx : ∀ G : Ds -> Option Out, fnX 1 5 G [.list (zs.map .str)] = (G [some (.dat (.list (zs.map .str))), none, none, none, none]).bind outX := fun G => rfl
 unfold FX_read_keeper
 rw [fx, sq_next5 (ds' := [some (.dat (.list (zs.map .str))), oS [], none, none, none]) rfl]
 refine ⟨fun i hi => ?_, fun hi => ?_⟩
 . have e := hf _ (k1 i hi)
   unfold gSeq
   rw [e]
   rfl
 . obtain ⟨T', x2, x3, x4, e, l⟩ := k2 hi
   rw [sq_next5 (hf _ e)]
   refine ⟨T', ?_, by simpa using l⟩
   simp only [gRet, fFrz, frz, fCall, aCons, aNil, fVar, List.map_cons, List.map_nil, Option.map_some, List.getElem?_cons_zero, List.getElem?_cons_succ, Option.bind_some, PV.d_dat, PV.d_own, tupD_list]
   rfl
end Law
namespace Law
open PySem L2 PySem.NumText PySem.StrLaws
theorem comp_filt {Fq : Ds -> Option Bool} {ds : Ds} {lo : Int} {n : Nat} {b : Nat -> Bool} (hQ : ∀ k, k < n -> Fq (iD (lo + (k : Nat)) :: ds) = some (b k)) : compD gtName Fq (fVar 0) ds (rngI lo n) = some (((List.range n).filter b).map fun k => .int (lo + (k : Nat))) := by
 unfold rngI
 have key : ∀ (l : List Nat), (∀ i ∈ l, i < n) -> compD gtName Fq (fVar 0) ds (l.map fun k => PyData.int (lo + (k : Nat))) = some ((l.filter b).map fun k => .int (lo + (k : Nat))) := by
  intro l
  induction l with
  | nil => intro _; rfl
  | cons i r ih =>
   intro h
   have ih' := ih fun j hj => h j (List.mem_cons_of_mem _ hj)
   have hq := hQ i (h i List.mem_cons_self)
   rw [List.map_cons]
   unfold compD
   have e1 : gtName (PyData.int (lo + (i : Nat))) = some [.int (lo + (i : Nat))] := rfl
   have e2 : dats [PyData.int (lo + (i : Nat))] ++ ds = iD (lo + (i : Nat)) :: ds := rfl
   rw [e1]
   simp only [Option.bind_some]
   rw [e2, hq, ih']
   cases hb : b i with
   | true =>
    rw [List.filter_cons_of_pos hb]
    rfl
   | false =>
    rw [List.filter_cons_of_neg (by rw [hb]; decide)]
    rfl
 exact key _ fun i hi => List.mem_range.mp hi
noncomputable def badAt (zs : List Str) (n k : Nat) : Bool := match zs[k]? with
 | some z => badZ (n + k) z
 | none => false
theorem first_filter : ∀ (zs : List Str) (n : Nat), firstBad n zs = (((List.range zs.length).filter (badAt zs n)).head?).map (n + ·)
 | [], n => rfl
 | z :: zs, n => by
  have ih := first_filter zs (n + 1)
  rw [List.length_cons, List.range_succ_eq_map]
  have e0 : badAt (z :: zs) n 0 = badZ n z := rfl
  unfold firstBad
  cases hb : badZ n z with
  | true =>
   rw [List.filter_cons_of_pos (by rw [e0, hb])]
   simp
  | false =>
   rw [List.filter_cons_of_neg (by rw [e0, hb]; decide), List.filter_map, List.head?_map, Option.map_map]
   have ef : (badAt (z :: zs) n ∘ Nat.succ) = badAt zs (n + 1) := by
    funext k
    show badAt (z :: zs) n (k + 1) = badAt zs (n + 1) k
    unfold badAt
    rw [List.getElem?_cons_succ, show n + (k + 1) = n + 1 + k by omega]
   rw [ef]
   show firstBad (n + 1) zs = _
   rw [ih]
   congr 1
   funext k
   show n + 1 + k = n + (k + 1)
   omega
noncomputable abbrev bads (zs : List Str) : List Nat := (List.range zs.length).filter (badAt zs 0)
theorem bads_eq {zs : List Str} (h : ∀ z ∈ zs, Zok z) {y0 y2 y3 y4 y5 y6 : Option PV} : compD gtName Q_law_0 E_law_0 [y0, some (.dat (.list (zs.map .str))), y2, y3, y4, y5, y6] (rngI 0 zs.length) = some ((bads zs).map fun k => .int (0 + (k : Nat))) := by
 refine comp_filt (Fq := Q_law_0) fun k hk => ?_
 have hz := h zs[k] (List.getElem_mem hk)
 have er := isrule_eq hz
 have ix : atI (zs.map PyData.str) (k : Int) = some (.str zs[k]) := by
  rw [atI_lit (n := k) rfl (by rw [List.length_map]; exact hk), List.getElem?_map, List.getElem?_eq_getElem hk]
  rfl
 have e20 : decide ((k : Int) = 20) = decide (k = 20) := by rw [decide_eq_decide]; omega
 have eb : badAt zs 0 k = (decide (k = 20) || !ruleB (wds zs[k])) := by
  unfold badAt badZ
  rw [List.getElem?_eq_getElem hk, Nat.zero_add]
 rw [eb, Int.zero_add]
 unfold Q_law_0
 simp only [bOr, bNot, bVal, fOp, fCall, aCons, aNil, fVar, fC, List.getElem?_cons_zero, List.getElem?_cons_succ, Option.bind_some, PV.d_dat, eqDD_int, asB_bool, ixD_list]
 rw [ix]
 simp only [Option.bind_some, PV.d_dat]
 rw [er]
 simp only [Option.bind_some, PV.d_dat, asB_bool]
 rw [e20]
 cases decide (k = 20) <;> rfl
end Law
local macro_rules | `(tactic| walk_at "w") => `(tactic| simp only [L2.fnF, L2.fnX, L2.seqK_up, L2.outX, L2.gUpP, L2.gTryA, L2.gTryE, L2.unOut, L2.fIsE, L2.fFld, L2.isExc_self, L2.excField_self, L2.isNone_exc, L2.fVarB, L2.fAlt, L2.isFnD, L2.fMeth, L2.fLst, L2.iWk, L2.walkOf, L2.startsD, L2.findD, L2.gSeq_eq, L2.seqK_next, L2.seqK_ret, L2.seqK_brk, L2.seqK_cont, L2.gSet_eq, L2.letP_some, L2.gSetD_eq, L2.letK_some, L2.gIf, L2.gRet, L2.gRetV, L2.gRetN, L2.gNext, L2.gPass, L2.gBreak, L2.gCont, L2.gDrop, L2.gPar, L2.gApp_eq, L2.gFor, L2.gWhile, L2.gFrz1, L2.frz1, L2.fVar, L2.fC, L2.fOp, L2.fUn, L2.fCall, L2.fTup, L2.fLst, L2.fSl, L2.fIf, L2.fAnd, L2.fOr, L2.fNot, L2.fChain, L2.fIsin, L2.fFlat, L2.Flat, L2.fFrz, L2.frz, L2.fComp, L2.oNone, L2.oSome, L2.asI_int, L2.asB_bool, L2.aCons, L2.aNil, L2.bVal, L2.bNot, L2.bAnd, L2.bOr, L2.bTrue, L2.iFn, L2.iSq, L2.seqOf_list, L2.seqOf_tup, L2.outV_ret, L2.outV_next, L2.dats_nil, L2.dats_cons, L2.sName, L2.sTup, L2.sCons, L2.sNil, L2.gtName, L2.gtTup, L2.PV.d_dat, L2.PV.d_own, L2.muAbs,
 L2.addD_int, L2.subD_int, L2.ltD_int, L2.leD_int, L2.gtD_int, L2.geD_int, L2.eqDD_int, L2.neDD_int, L2.eqDD_str, L2.neDD_str, L2.ixD_tup, L2.ixD_list, L2.absD_int, L2.negD_int, L2.lenD_list, L2.lenD_tup, L2.tupD_list, L2.tupD_tup, L2.listD_list, L2.listD_tup, L2.slD_tup, L2.slD_list, L2.isD_none, L2.isNotD_none, L2.chain_if, L2.intD_int, L2.intD_bool, L2.sumD_list, L2.enumD_seq, L2.fIxO, L2.fListO, L2.gMut0, L2.isNone_tup, L2.isNone_lst, L2.isNone_int, L2.isNone_non, L2.isNone_str, L2.atI_0, L2.atI_1, L2.atI_2, L2.atI_3, L2.atI_4, L2.atI_5, L2.atI_6, L2.isI, L2.tyOf, String.reduceBEq,
 Option.bind_some, Option.bind_none, Option.map_some, Option.map_none, List.map_cons, List.map_nil, List.length_cons, List.length_nil, List.replicate, List.cons_append, List.nil_append, List.append_nil, List.set_cons_zero, List.set_cons_succ, List.getElem?_cons_zero, List.getElem?_cons_succ, Nat.reduceAdd, Nat.reduceSub, Nat.reduceEqDiff, Nat.reduceLeDiff, Nat.reduceLT, Int.reduceToNat, Int.cast_ofNat_Int, eq_self,
 if_true, if_false, reduceIte, decide_eq_true_eq, decide_true, decide_false, Bool.false_eq_true, Bool.not_eq_true', decide_eq_false_iff_not, Bool.not_true, Bool.not_false, not_true_eq_false, not_false_eq_true, Bool.true_or, Bool.false_or, Bool.or_true, Bool.or_false, Bool.and_true, Bool.true_and, Bool.and_false, Bool.false_and, reduceCtorEq, and_self])
namespace Law
open PySem L2 PySem.NumText PySem.StrLaws
noncomputable abbrev scr (ns : List Int) : PyData := .list (ns.map .int)
theorem law_of (cE : Addr) {ns : List Int} {pv : PV} {zs : List Str} (el : F_l_lines [scr ns] = some pv) (hpv : pv.d = .list (zs.map .str)) (h : ∀ z ∈ zs, Zok z) (hl : zs.length <= 50) : F_law cE [scr ns] = some (.dat (.bool true)) := by
 obtain ⟨k1, k2⟩ := keeperX_eq cE h hl
 have hf := first_filter zs 0
 have eb := bads_eq h (y0 := some (.dat (scr ns))) (y2 := none) (y3 := none) (y4 := none) (y5 := none) (y6 := none)
 have lz' : (zs.map PyData.str).length = zs.length := List.length_map ..
 have q1 : (gSetD 1 (fCall F_l_lines (aCons (fVar 0) aNil))) [some (.dat (scr ns)), none, none, none, none, none, none] = some (.next [some (.dat (scr ns)), some (.dat (.list (zs.map .str))), none, none, none, none, none]) := by
  rw [<- hpv]
  refine setD_eq5 (pv := pv) ?_
  simp only [fCall, aCons, aNil, fVar, List.getElem?_cons_zero, Option.bind_some, PV.d_dat]
  exact el
 have q2 : (gSetD 2 (fComp (iFn rng1 (aCons (fCall lenD (aCons (fVar 1) aNil)) aNil)) gtName Q_law_0 E_law_0)) [some (.dat (scr ns)), some (.dat (.list (zs.map .str))), none, none, none, none, none] = some (.next [some (.dat (scr ns)), some (.dat (.list (zs.map .str))), some (.dat (.list ((bads zs).map fun k => .int (0 + (k : Nat))))), none, none, none, none]) := by
  refine setD_eq5 (pv := .own ((bads zs).map fun k => .int (0 + (k : Nat)))) ?_
  simp only [fComp, iFn, fCall, aCons, aNil, fVar, List.getElem?_cons_zero, List.getElem?_cons_succ, Option.bind_some, PV.d_dat, lenD_list]
  rw [lz', rng1_int (by omega), Int.toNat_natCast]
  simp only [Option.bind_some]
  rw [if_pos (by unfold rngI; rw [List.length_map, List.length_range]; omega), eb]
  rfl
 have fn7 : ∀ G : Ds -> Option Out, fnF 1 7 G [scr ns] = (G [some (.dat (scr ns)), none, none, none, none, none, none]).bind outV := fun G => rfl
 unfold F_law
 rw [fn7, sq_next5 q1, sq_next5 q2]
 cases hb : bads zs with
 | nil =>
  rw [show (List.range zs.length).filter (badAt zs 0) = [] from hb] at hf
  obtain ⟨T, e, lT⟩ := k2 hf
  generalize zs.map PyData.str = ZL at *
  rw [List.map_nil]
  walk_at "w"
  rw [e]
  walk_at "w"
  rw [lT, lz']
  walk_at "w"
 | cons i r =>
  rw [show (List.range zs.length).filter (badAt zs 0) = i :: r from hb] at hf
  have hf' : firstBad 0 zs = some i := by rw [hf]; simp
  have e := k1 i hf'
  generalize zs.map PyData.str = ZL at *
  rw [List.map_cons, Int.zero_add]
  generalize (r.map fun k => PyData.int (0 + (k : Nat))) = RL
  walk_at "w"
  rw [e]
  walk_at "w"
  rw [if_neg (by omega)]
  walk_at "w"
end Law
namespace Law
open PySem L2 PySem.NumText PySem.StrLaws
structure Zs (z : Str) (n : Nat) : Prop where
 len : z.length <= n
 ok : ∀ c ∈ lz z, c < 1114112
theorem zs_app {x y : Str} {n m : Nat} (hx : Zs x n) (hy : Zs y m) : Zs (x ++ y) (n + m) := by
 have h1 := hx.len; have h2 := hy.len
 refine ⟨by rw [lz_len, lz_app, List.length_append, <- lz_len, <- lz_len]; omega, fun c hc => ?_⟩
 rw [lz_app] at hc
 rcases List.mem_append.mp hc with z | z
 . exact hx.ok c z
 . exact hy.ok c z
noncomputable def signsZ : Str := Str.ofString " !\"#$&'()*+,-./0123456789:;<=>?@ABCDEFGHIJKLMNOPQRSTUVWXYZ[\\]^_`" ++ Str.ofString "abcdefghijklmnopqrstuvwxyz{|}~ 00--/"
theorem signs_len : signsZ.length = 100 := by decide +kernel
theorem signs_ok : ∀ c ∈ lz signsZ, c < 1114112 := by decide +kernel
theorem bent_eq {z : Str} {n : Nat} (h : Zs z n) (hn : n <= 700) {p q : Int} (p0 : 0 <= p) (q0 : 0 <= q) : ∃ z', F_l_bent [.str z, .int p, .int q] = some (.dat (.str z')) /\ Zs z' (n + 1) := by
 have hl := h.len
 have kz := lz_len z
 obtain ⟨a, ea, a0, a1⟩ : ∃ a : Nat, p.fmod ((z.length : Nat) + 1) = (a : Int) /\ 0 <= a /\ a <= z.length := by
  have h1 := Int.fmod_nonneg_of_pos p (show (0 : Int) < (z.length : Nat) + 1 by omega)
  have h2 := Int.fmod_lt_of_pos p (show (0 : Int) < (z.length : Nat) + 1 by omega)
  exact ⟨(p.fmod ((z.length : Nat) + 1)).toNat, by omega, by omega, by omega⟩
 obtain ⟨b, eb, b1⟩ : ∃ b : Nat, (q.fdiv 3).fmod 100 = (b : Int) /\ b < 100 := by
  have h1 := Int.fmod_nonneg_of_pos (q.fdiv 3) (show (0 : Int) < 100 by decide)
  have h2 := Int.fmod_lt_of_pos (q.fdiv 3) (show (0 : Int) < 100 by decide)
  exact ⟨((q.fdiv 3).fmod 100).toNat, by omega, by omega⟩
 have hb : b < (lz signsZ).length := by rw [<- lz_len, signs_len]; exact b1
 have ib : ixD (.str signsZ) (.int (b : Int)) = some (.dat (.str ⟨#[(lz signsZ)[b]]⟩)) := by
  show (if signsZ.length <= 1000000 then (atI signsZ.cps.toList (b : Int)).bind fun c => some (PV.dat (.str ⟨#[c]⟩)) else none) = _
  rw [if_pos (by rw [signs_len]; decide), atI_lit (n := b) rfl hb]
  have h' : signsZ.cps.toList[b]? = some (lz signsZ)[b] := List.getElem?_eq_getElem hb
  rw [h']
  rfl
 have s1 := slAD_to (z := z) (by omega) a
 have s2 := slAD_from (z := z) (by omega) a
 have s3 := slAD_from (z := z) (by omega) (a + 1)
 have z1 : Zs (Txt.slice z none (some (a : Int))) a := ⟨by rw [lz_len, lz_to]; exact List.length_take_le _ _, fun c hc => h.ok c (by rw [lz_to] at hc; exact List.mem_of_mem_take hc)⟩
 have z2 : Zs (Txt.slice z (some (a : Int)) none) (n - a) := ⟨by rw [lz_len, lz_from, List.length_drop]; omega, fun c hc => h.ok c (by rw [lz_from] at hc; exact List.mem_of_mem_drop hc)⟩
 have z3 : Zs (Txt.slice z (some ((a + 1 : Nat) : Int)) none) (n - a) := ⟨by rw [lz_len, lz_from, List.length_drop]; omega, fun c hc => h.ok c (by rw [lz_from] at hc; exact List.mem_of_mem_drop hc)⟩
 have z4 : Zs (⟨#[(lz signsZ)[b]]⟩ : Str) 1 := ⟨Nat.le_refl 1, fun c hc => by
  have : c = (lz signsZ)[b] := by simpa using hc
  rw [this]
  exact signs_ok _ (List.getElem_mem hb)⟩
 have w1 := zs_app z1 z3
 have w2 := zs_app (zs_app z1 z4) z2
 have add : ∀ {x y : Str} {n m : Nat}, Zs x n -> Zs y m -> n + m <= 5000 -> addD (.str x) (.str y) = some (.dat (.str (x ++ y))) := fun hx hy h => addD_str (by have := hx.len; have := hy.len; omega)
 have q1 : addD (.str (Str.ofString " !\"#$&'()*+,-./0123456789:;<=>?@ABCDEFGHIJKLMNOPQRSTUVWXYZ[\\]^_`")) (.str (Str.ofString "abcdefghijklmnopqrstuvwxyz{|}~ 00--/")) = some (.dat (.str signsZ)) := addD_str (by decide +kernel)
 have eL := lenD_str (z := z) (by omega)
 have eS : lenD [.str signsZ] = some (.dat (.int 100)) := by rw [lenD_str (by rw [signs_len]; decide), signs_len]; rfl
 have md : modD (.int p) (.int ((z.length : Nat) + 1)) = some (.dat (.int (a : Int))) := by rw [modD_int (by omega), ea]
 have sl3 : slAD (.str z) (some ((a : Int) + 1)) none = some (.dat (.str (Txt.slice z (some ((a + 1 : Nat) : Int)) none))) := s3
 generalize signsZ = SZ at *
 unfold F_l_bent
 walk_at "t"
 rw [q1]
 walk_at "t"
 rw [eL]
 walk_at "t"
 rw [md]
 walk_at "t"
 rw [modD_int (by decide)]
 walk_at "t"
 by_cases c1 : q.fmod 3 = 0
 . rw [if_pos c1]
   try walk_at "t"
   by_cases c2 : (a : Int) < (z.length : Nat)
   . refine ⟨_, ?_, ⟨Nat.le_trans w1.len (by omega), w1.ok⟩⟩
     rw [eL]
     walk_at "t"
     rw [if_pos c2, s1]
     walk_at "t"
     rw [sl3]
     walk_at "t"
     rw [add z1 z3 (by omega)]
     walk_at "t"
   . refine ⟨_, ?_, ⟨Nat.le_trans w2.len (by omega), w2.ok⟩⟩
     rw [eL]
     walk_at "t"
     rw [if_neg c2]
     walk_at "t"
     rw [s1]
     walk_at "t"
     rw [fdivD_int (j := 3) (by decide) (Bt.s62 (by omega) (by omega)), eS]
     walk_at "t"
     rw [modD_int (by decide), eb]
     walk_at "t"
     rw [ib]
     walk_at "t"
     rw [add z1 z4 (by omega)]
     walk_at "t"
     rw [s2]
     walk_at "t"
     rw [add (zs_app z1 z4) z2 (by omega)]
     walk_at "t"
 . refine ⟨_, ?_, ⟨Nat.le_trans w2.len (by omega), w2.ok⟩⟩
   rw [if_neg c1]
   walk_at "t"
   rw [s1]
   walk_at "t"
   rw [fdivD_int (j := 3) (by decide) (Bt.s62 (by omega) (by omega)), eS]
   walk_at "t"
   rw [modD_int (by decide), eb]
   walk_at "t"
   rw [ib]
   walk_at "t"
   rw [add z1 z4 (by omega)]
   walk_at "t"
   rw [s2]
   walk_at "t"
   rw [add (zs_app z1 z4) z2 (by omega)]
   walk_at "t"
end Law
namespace Law
open PySem L2 PySem.NumText PySem.StrLaws
theorem scr_len (ns : List Int) : (ns.map PyData.int).length = ns.length := by simp
theorem scr_at {ns : List Int} {i : Int} (h0 : 0 <= i) (h : i < ns.length) : atI (ns.map PyData.int) i = some (.int (ns.getD i.toNat 0)) := by
 rw [atI_lit (n := i.toNat) (by omega) (by simp; omega), List.getElem?_map, List.getElem?_eq_getElem (by omega)]
 simp [List.getD_eq_getElem?_getD, List.getElem?_eq_getElem (show i.toNat < ns.length by omega)]
noncomputable def mixTail : Ds -> Option Out := (gSeq (gSetD 4 (fOp modD (fOp addD (fOp addD (fOp mulD (fOp modD (fVar 2) (fC (.int 1000003))) (fC (.int 48271))) (fOp mulD (fOp mulD (fVar 1) (fVar 1)) (fC (.int 7919)))) (fC (.int 1))) (fC (.int 65521)))) (gSeq (gSetD 4 (fOp modD (fOp addD (fOp mulD (fVar 4) (fVar 4)) (fVar 1)) (fC (.int 65519)))) (gRet (fOp modD (fOp addD (fOp mulD (fOp mulD (fVar 4) (fVar 4)) (fC (.int 31))) (fVar 4)) (fC (.int 65497))))))
theorem mix_tail {d : PyData} {k c : Int} (y : Option PV) (h0 : 0 <= k) (h1 : k <= 100000) : ∃ r : Int, (mixTail [some (.dat d), iD k, iD c, y, none]).bind outV = some (.dat (.int r)) /\ 0 <= r /\ r < 65497 := by
 have c0 := Int.fmod_nonneg_of_pos c (b := 1000003) (by decide)
 have c1 := Int.fmod_lt_of_pos c (b := 1000003) (by decide)
 have kk : Bt 60000 (k * k) := ((Bt.small (i := k) (by omega) (by omega)).mul (Bt.small (i := k) (by omega) (by omega))).mono (by decide)
 unfold mixTail
 walk_at "t"
 rw [modD_int (by decide)]
 walk_at "t"
 rw [mulD_int (Bt.s62 (by omega) (by omega)) Bt.lit]
 walk_at "t"
 rw [mulD_int (Bt.s62 (by omega) (by omega)) (Bt.s62 (by omega) (by omega))]
 walk_at "t"
 rw [mulD_int kk Bt.lit]
 walk_at "t"
 rw [modD_int (by decide)]
 walk_at "t"
 have v0 := Int.fmod_nonneg_of_pos (c.fmod 1000003 * 48271 + k * k * 7919 + 1) (b := 65521) (by decide)
 have v1 := Int.fmod_lt_of_pos (c.fmod 1000003 * 48271 + k * k * 7919 + 1) (b := 65521) (by decide)
 generalize (c.fmod 1000003 * 48271 + k * k * 7919 + 1).fmod 65521 = v at *
 rw [mulD_int (Bt.s62 (by omega) (by omega)) (Bt.s62 (by omega) (by omega))]
 walk_at "t"
 rw [modD_int (by decide)]
 walk_at "t"
 have w0 := Int.fmod_nonneg_of_pos (v * v + k) (b := 65519) (by decide)
 have w1 := Int.fmod_lt_of_pos (v * v + k) (b := 65519) (by decide)
 generalize (v * v + k).fmod 65519 = w at *
 have ww : Bt 60000 (w * w) := ((Bt.small (i := w) (by omega) (by omega)).mul (Bt.small (i := w) (by omega) (by omega))).mono (by decide)
 rw [mulD_int (Bt.s62 (by omega) (by omega)) (Bt.s62 (by omega) (by omega))]
 walk_at "t"
 rw [mulD_int ww Bt.lit]
 walk_at "t"
 rw [modD_int (by decide)]
 exact ⟨_, rfl, Int.fmod_nonneg_of_pos _ (by decide), Int.fmod_lt_of_pos _ (by decide)⟩
theorem mixed_eq {ns : List Int} {k : Int} (hl : ns.length <= 63) (h0 : 0 <= k) (h1 : k <= 100000) : ∃ r : Int, F_l_mixed [scr ns, .int k] = some (.dat (.int r)) /\ 0 <= r /\ r < 65497 := by
 unfold F_l_mixed
 walk_at "t"
 rw [scr_len]
 by_cases hp : (0 : Int) < (ns.length : Int)
 . rw [if_pos hp, modD_int (by omega)]
   have g1 := Int.fmod_nonneg_of_pos k hp
   have g2 := Int.fmod_lt_of_pos k hp
   walk_at "t"
   rw [scr_at g1 g2]
   walk_at "t"
   rw [scr_at (Int.le_refl 0) hp]
   walk_at "t"
   rw [modD_int (by decide)]
   walk_at "t"
   by_cases h2 : Int.fmod (ns.getD 0 0) 2 = 1
   . rw [if_pos h2, scr_len]
     rw [fdivD_int (by omega) (Bt.s62 (by omega) (by omega))]
     walk_at "t"
     rw [modD_int (by decide)]
     have m0 := Int.fmod_nonneg_of_pos (k.fdiv (ns.length : Int)) (b := 60) (by decide)
     have m1 := Int.fmod_lt_of_pos (k.fdiv (ns.length : Int)) (b := 60) (by decide)
     walk_at "t"
     rw [rng1_int (by omega)]
     walk_at "t"
     obtain ⟨ds', e1, c, y3, rfl⟩ := forD_rng (gt := sName 3) (G := B_l_mixed_0) (lo := 0) (n := ((k.fdiv (ns.length : Int)).fmod 60).toNat) (ds := [some (.dat (scr ns)), iD k, iD (ns.getD (k.fmod (ns.length : Int)).toNat 0), none, none])
      (fun n ds => ∃ c y3, ds = [some (.dat (scr ns)), iD k, iD c, y3, none]) ⟨_, none, rfl⟩ (by
       rintro n ds hn ⟨c, y3, rfl⟩
       refine ⟨_, [some (.dat (scr ns)), iD k, iD (c.fdiv 65497), iD (0 + (n : Int)), none], rfl, .inl ?_, _, _, rfl⟩
       unfold B_l_mixed_0
       walk_at "t"
       rw [fdivD_int (by decide) Bt.lit]
       walk_at "t")
     erw [e1]
     walk_at "t"
     rw [modD_int (by decide)]
     walk_at "t"
     exact ⟨_, rfl, Int.fmod_nonneg_of_pos _ (by decide), Int.fmod_lt_of_pos _ (by decide)⟩
   . rw [if_neg h2]
     simp only [seqK_next]
     exact mix_tail none h0 h1
 . rw [if_neg hp]
   simp only [seqK_next]
   exact mix_tail none h0 h1
inductive Fi | non | sun | line
 deriving DecidableEq
inductive Ta | non | need | give
 deriving DecidableEq
noncomputable def fiS : Fi -> Str | .non => "none" | .sun => "sun" | .line => "line"
noncomputable def taS : Ta -> Str | .non => "none" | .need => "need" | .give => "give"
noncomputable def woS : Bool -> Str | true => "wait" | false => "now"
inductive Ts | from_ (n : Int) | till (n : Int) | over (n : Int) | under (n : Int) | dear (n : Int) | cheap (n : Int) | dark | sunny
noncomputable def tsD : Ts -> PyData
 | .from_ n => .tuple [.str "from", .int n]
 | .till n => .tuple [.str "till", .int n]
 | .over n => .tuple [.str "over", .int n]
 | .under n => .tuple [.str "under", .int n]
 | .dear n => .tuple [.str "dear", .int n]
 | .cheap n => .tuple [.str "cheap", .int n]
 | .dark => .tuple [.str "dark"]
 | .sunny => .tuple [.str "sunny"]
structure Rl where
 ts : List Ts
 fi : Fi
 ta : Ta
 wo : Bool
noncomputable def rlD (r : Rl) : PyData := .tuple [.tuple (r.ts.map tsD), .str (fiS r.fi), .str (taS r.ta), .str (woS r.wo)]
noncomputable def wordsT : Ts -> List Str
 | .from_ n => [Str.ofString "from", txtI n]
 | .till n => [Str.ofString "till", txtI n]
 | .over n => [Str.ofString "over", txtI n]
 | .under n => [Str.ofString "under", txtI n]
 | .dear n => [Str.ofString "dear", txtI n]
 | .cheap n => [Str.ofString "cheap", txtI n]
 | .dark => [Str.ofString "dark"]
 | .sunny => [Str.ofString "sunny"]
noncomputable def allW : List Ts -> List Str
 | [] => []
 | x :: l => wordsT x ++ allW l
noncomputable def sixW (r : Rl) : List Str := [Str.ofString "fill", fiS r.fi, Str.ofString "take", taS r.ta, Str.ofString "works", woS r.wo]
noncomputable def lineW (r : Rl) : List Str := Str.ofString "when" :: (allW r.ts ++ sixW r)
noncomputable def TsR : Ts -> Prop
 | .from_ n => 0 <= n /\ n <= 1000000
 | .till n => 0 <= n /\ n <= 1000000
 | .over n => 0 <= n /\ n <= 1000000
 | .under n => 0 <= n /\ n <= 1000000
 | .dear n => -1000000 <= n /\ n <= 1000000
 | .cheap n => -1000000 <= n /\ n <= 1000000
 | _ => True
structure RlR (r : Rl) : Prop where
 ts : ∀ x ∈ r.ts, TsR x
 tl : r.ts.length <= 6
structure Wd (w : Str) : Prop where
 l : w.length <= 10
 o : ∀ c ∈ lz w, c < 1114112
theorem wd_num {n : Int} (h0 : -1000000 <= n) (h1 : n <= 1000000) : Wd (txtI n) := by
 have hl := (numL_len (n := n.natAbs) (k := 7) (by decide)).mpr (Nat.lt_of_le_of_lt (show n.natAbs <= 1000000 by omega) (by decide))
 have hd := numL_digits n.natAbs
 refine ⟨?_, ?_⟩
 . rw [lz_len, lz_int]
   unfold intL
   split
   . rw [List.length_cons]; omega
   . omega
 . rw [lz_int]
   unfold intL
   intro c z
   split at z
   . rcases List.mem_cons.mp z with z | z
     . omega
     . have := hd c z; omega
   . have := hd c z; omega
theorem wd_lit {s : String} (h1 : (Str.ofString s).length <= 10) (h2 : (lz (Str.ofString s)).all (fun c => decide (c < 1114112)) = true) : Wd (Str.ofString s) := ⟨h1, fun c hc => of_decide_eq_true (List.all_eq_true.mp h2 c hc)⟩
theorem wd_test {x : Ts} (h : TsR x) : ∀ w ∈ wordsT x, Wd w := by
 intro w hw
 cases x with
 | dark => simp only [wordsT, List.mem_cons, List.not_mem_nil, or_false] at hw; subst hw; exact wd_lit (by decide +kernel) (by decide +kernel)
 | sunny => simp only [wordsT, List.mem_cons, List.not_mem_nil, or_false] at hw; subst hw; exact wd_lit (by decide +kernel) (by decide +kernel)
 | dear n =>
  have h' : -1000000 <= n /\ n <= 1000000 := h
  simp only [wordsT, List.mem_cons, List.not_mem_nil, or_false] at hw
  rcases hw with rfl | rfl
  . exact wd_lit (by decide +kernel) (by decide +kernel)
  . exact wd_num h'.1 h'.2
 | cheap n =>
  have h' : -1000000 <= n /\ n <= 1000000 := h
  simp only [wordsT, List.mem_cons, List.not_mem_nil, or_false] at hw
  rcases hw with rfl | rfl
  . exact wd_lit (by decide +kernel) (by decide +kernel)
  . exact wd_num h'.1 h'.2
 | _ n =>
  have h' : 0 <= n /\ n <= 1000000 := h
  simp only [wordsT, List.mem_cons, List.not_mem_nil, or_false] at hw
  rcases hw with rfl | rfl
  . exact wd_lit (by decide +kernel) (by decide +kernel)
  . exact wd_num (by omega) h'.2
theorem wd_all : ∀ (l : List Ts), (∀ x ∈ l, TsR x) -> ∀ w ∈ allW l, Wd w
 | [], _, w, hw => by cases hw
 | x :: l, h, w, hw => by
  rcases List.mem_append.mp (show w ∈ wordsT x ++ allW l from hw) with hw | hw
  . exact wd_test (h x (by simp)) w hw
  . exact wd_all l (fun y hy => h y (by simp [hy])) w hw
theorem wd_six (r : Rl) : ∀ w ∈ sixW r, Wd w := by
 intro w hw
 simp only [sixW, List.mem_cons, List.not_mem_nil, or_false] at hw
 rcases hw with rfl | rfl | rfl | rfl | rfl | rfl
 . exact wd_lit (by decide +kernel) (by decide +kernel)
 . cases r.fi <;> exact wd_lit (by decide +kernel) (by decide +kernel)
 . exact wd_lit (by decide +kernel) (by decide +kernel)
 . cases r.ta <;> exact wd_lit (by decide +kernel) (by decide +kernel)
 . exact wd_lit (by decide +kernel) (by decide +kernel)
 . cases r.wo <;> exact wd_lit (by decide +kernel) (by decide +kernel)
theorem wd_line {r : Rl} (h : RlR r) : ∀ w ∈ lineW r, Wd w := by
 intro w hw
 rcases List.mem_cons.mp hw with rfl | hw
 . exact wd_lit (by decide +kernel) (by decide +kernel)
 rcases List.mem_append.mp hw with hw | hw
 . exact wd_all r.ts h.ts w hw
 . exact wd_six r w hw
theorem all_len : ∀ (l : List Ts), l.length <= (allW l).length /\ (allW l).length <= 2 * l.length
 | [] => ⟨Nat.le_refl _, Nat.le_refl _⟩
 | x :: l => by
  have ih := all_len l
  have hx : 1 <= (wordsT x).length /\ (wordsT x).length <= 2 := by cases x <;> exact ⟨by simp [wordsT], by simp [wordsT]⟩
  show (l.length + 1) <= (wordsT x ++ allW l).length /\ (wordsT x ++ allW l).length <= 2 * (l.length + 1)
  rw [List.length_append]
  omega
end Law
namespace Law
open PySem L2 PySem.NumText PySem.StrLaws
theorem fold_len (k : Nat) : ∀ (ts : List Str) (n : Nat), (∀ t ∈ ts, t.length <= 10) -> ts.foldl (fun a t => a + t.length + k) n <= n + ts.length * (10 + k)
 | [], n, _ => by simp
 | t :: ts, n, h => by
  have ht := h t (by simp)
  have ih := fold_len k ts (n + t.length + k) fun x hx => h x (by simp [hx])
  rw [List.foldl_cons, List.length_cons, Nat.add_mul]
  omega
theorem strsOf_map : ∀ l : List Str, strsOf (l.map .str) = some l
 | [] => rfl
 | a :: l => by rw [List.map_cons]; unfold strsOf; rw [strsOf_map l]; rfl
theorem joinD_eq {ws : List Str} (hl : ws.length <= 1000) (h : ∀ w ∈ ws, w.length <= 10) : joinD (.str (Str.ofString " ")) [.list (ws.map .str)] = some (.dat (.str (Txt.join ⟨#[32]⟩ ws))) := by
 show ((strsOf (ws.map .str)).bind fun ts => if JoinOk (Str.ofString " ") ts = true then some (PV.dat (PyData.str (Txt.join (Str.ofString " ") ts))) else none) = _
 rw [strsOf_map, sp_one]
 have hj : JoinOk ⟨#[32]⟩ ws = true := by
  have f := fold_len 1 ws 0 h
  unfold JoinOk
  rw [List.foldl_toArray]
  show (!decide (ws.foldl (fun a t => a + t.length + 1) 0 > sizeLine)) = true
  have s : (20000 : Nat) <= sizeLine := by decide
  rw [decide_eq_false (by omega)]
  rfl
 simp only [Option.bind_some, hj, if_true]
noncomputable def lineS (r : Rl) : Str := Txt.join ⟨#[32]⟩ (lineW r)
theorem lineW_len {r : Rl} (h : RlR r) : (lineW r).length <= 19 /\ 7 <= (lineW r).length := by
 have al := all_len r.ts
 have tl := h.tl
 unfold lineW
 rw [List.length_cons, List.length_append]
 show (allW r.ts).length + 6 + 1 <= 19 /\ _ <= (allW r.ts).length + 6 + 1
 omega
noncomputable def restT : Ts -> List PyData
 | .from_ n => [.int n]
 | .till n => [.int n]
 | .over n => [.int n]
 | .under n => [.int n]
 | .dear n => [.int n]
 | .cheap n => [.int n]
 | _ => []
noncomputable def headT : Ts -> Str
 | .from_ _ => Str.ofString "from"
 | .till _ => Str.ofString "till"
 | .over _ => Str.ofString "over"
 | .under _ => Str.ofString "under"
 | .dear _ => Str.ofString "dear"
 | .cheap _ => Str.ofString "cheap"
 | .dark => Str.ofString "dark"
 | .sunny => Str.ofString "sunny"
theorem tsD_parts (x : Ts) : tsD x = .tuple (.str (headT x) :: restT x) := by cases x <;> rfl
theorem ext_own {i : Nat} {F : Ds -> Option PV} {ds : Ds} {l m : List PyData} (h1 : F ds = some (.own m)) (h2 : ds[i]? = some (some (.own l))) (h3 : l.length + m.length <= 1000000) : gExt i F ds = some (.next (ds.set i (some (.own (l ++ m))))) := by
 unfold gExt
 rw [h1]
 simp only [Option.bind_some]
 rw [h2]
 simp only
 rw [if_pos h3]
theorem law_comp {x : Ts} (h : TsR x) (ds : Ds) : compD gtName bTrue E_l_rule_line_0 ds (.str (headT x) :: restT x) = some ((wordsT x).map .str) := by
 have ew : ∀ w : Str, E_l_rule_line_0 (some (.dat (.str w)) :: ds) = some (.dat (.str w)) := fun w => by
  unfold E_l_rule_line_0
  walk_at "t"
  rfl
 have ei : ∀ n : Int, -1000000 <= n -> n <= 1000000 -> E_l_rule_line_0 (some (.dat (.int n)) :: ds) = some (.dat (.str (txtI n))) := fun n h0 h1 => by
  have hn : n.natAbs < 10 ^ 60 := Nat.lt_of_le_of_lt (show n.natAbs <= 1000000 by omega) (by decide)
  unfold E_l_rule_line_0
  walk_at "t"
  unfold or1
  rw [strD_int hn]
 have c0 : compD gtName bTrue E_l_rule_line_0 ds [] = some [] := rfl
 have c1 : ∀ (d e : PyData) (l m : List PyData), E_l_rule_line_0 (some (.dat d) :: ds) = some (.dat e) -> compD gtName bTrue E_l_rule_line_0 ds l = some m -> compD gtName bTrue E_l_rule_line_0 ds (d :: l) = some (e :: m) := fun d e l m h1 h2 => by
  rw [compD]
  simp only [gtName, bTrue, Option.bind_some, dats_cons, dats_nil, List.cons_append, List.nil_append, if_true]
  rw [h1]
  simp only [Option.bind_some]
  rw [h2]
  rfl
 cases x with
 | dark => exact c1 _ _ _ _ (ew _) c0
 | sunny => exact c1 _ _ _ _ (ew _) c0
 | dear n => exact c1 _ _ _ _ (ew _) (c1 _ _ _ _ (ei n h.1 h.2) c0)
 | cheap n => exact c1 _ _ _ _ (ew _) (c1 _ _ _ _ (ei n h.1 h.2) c0)
 | _ n => exact c1 _ _ _ _ (ew _) (c1 _ _ _ _ (ei n (by have : 0 <= n := h.1; omega) h.2) c0)
theorem lline_loop : ∀ (ts : List Ts) (W : List Str) (a y : Option PV), (∀ x ∈ ts, TsR x) -> W.length + 2 * ts.length <= 1000 ->
  ∃ y', forD (sName 2) B_l_rule_line_0 (ts.map tsD) [a, some (.own (W.map .str)), y] = some (.next [a, some (.own ((W ++ allW ts).map .str)), y'])
 | [], W, a, y, _, _ => ⟨y, by unfold allW; rw [List.append_nil]; rfl⟩
 | x :: ts, W, a, y, h, hl => by
  have hl' : W.length + 2 * (ts.length + 1) <= 1000 := hl
  have hx := h x (by simp)
  have wl : (wordsT x).length <= 2 := by cases x <;> simp [wordsT]
  obtain ⟨y', ih⟩ := lline_loop ts (W ++ wordsT x) a (some (.dat (tsD x))) (fun z hz => h z (by simp [hz])) (by rw [List.length_append]; omega)
  refine ⟨y', ?_⟩
  have st : B_l_rule_line_0 [a, some (.own (W.map .str)), some (.dat (tsD x))] = some (.next [a, some (.own ((W ++ wordsT x).map .str)), some (.dat (tsD x))]) := by
   have rc := law_comp hx
   have tp := tsD_parts x
   rw [List.map_append]
   rw [tp]
   unfold B_l_rule_line_0
   refine Eq.trans (ext_own (l := W.map .str) (m := (wordsT x).map .str) ?_ rfl (by rw [List.length_map, List.length_map]; omega)) ?_
   . unfold fComp
     walk_at "t"
     rw [if_pos (by cases x <;> exact Nat.le_of_ble_eq_true rfl), rc]
     rfl
   . rfl
  rw [List.map_cons]
  show ((B_l_rule_line_0 [a, some (.own (W.map .str)), some (.dat (tsD x))]).bind fun o => match o with
   | .next ds2 => forD (sName 2) B_l_rule_line_0 (ts.map tsD) ds2
   | .cont ds2 => forD (sName 2) B_l_rule_line_0 (ts.map tsD) ds2
   | .brk ds2 => some (.next ds2)
   | .ret pv => some (.ret pv)
   | .up x => some (.up x)) = _
  rw [st]
  refine Eq.trans ih ?_
  rw [List.append_assoc]
  rfl
theorem lrule_line_eq {r : Rl} (h : RlR r) : F_l_rule_line [rlD r] = some (.dat (.str (lineS r))) := by
 have wd := wd_line h
 obtain ⟨l1, l2⟩ := lineW_len h
 have jd := joinD_eq (ws := lineW r) (by omega) (fun w hw => (wd w hw).l)
 have tl := h.tl
 have al := all_len r.ts
 obtain ⟨y, e⟩ := lline_loop r.ts [Str.ofString "when"] (some (.dat (rlD r))) none h.ts (by simp; omega)
 have i0 : ixD (rlD r) (.int 0) = some (.dat (.tuple (r.ts.map tsD))) := rfl
 have i1 : ixD (rlD r) (.int 1) = some (.dat (.str (fiS r.fi))) := rfl
 have i2 : ixD (rlD r) (.int 2) = some (.dat (.str (taS r.ta))) := rfl
 have i3 : ixD (rlD r) (.int 3) = some (.dat (.str (woS r.wo))) := rfl
 have ew : ([Str.ofString "when"] ++ allW r.ts).map PyData.str ++ [.str (Str.ofString "fill"), .str (fiS r.fi), .str (Str.ofString "take"), .str (taS r.ta), .str (Str.ofString "works"), .str (woS r.wo)] = (lineW r).map .str := by
  unfold lineW sixW
  simp [List.map_append]
 have wl : (([Str.ofString "when"] ++ allW r.ts).map PyData.str).length <= 100 := by rw [List.length_map, List.length_append]; simp; omega
 generalize ([Str.ofString "when"] ++ allW r.ts).map PyData.str = wm at *
 generalize rlD r = rd at *
 unfold F_l_rule_line lineS
 walk_at "t"
 rw [i0]
 walk_at "t"
 erw [e]
 walk_at "t"
 rw [i1, i2, i3]
 walk_at "t"
 rw [addD_list (by simp; omega)]
 walk_at "t"
 rw [ew, jd]
 walk_at "t"
end Law
namespace Law
open PySem L2 PySem.NumText PySem.StrLaws
theorem wide_test {ns : List Int} {k : Int} (hl : ns.length <= 63) (h0 : 0 <= k) (h1 : k <= 10000) : ∃ x : Ts, F_l_wide_test [scr ns, .int k] = some (.dat (tsD x)) /\ TsR x := by
 obtain ⟨a, ea, a0, a1⟩ := mixed_eq (ns := ns) (k := k) hl h0 (by omega)
 obtain ⟨b, eb, b0, b1⟩ := mixed_eq (ns := ns) (k := k + 1) hl (by omega) (by omega)
 obtain ⟨c, ec, c0, c1⟩ := mixed_eq (ns := ns) (k := k + 2) hl (by omega) (by omega)
 have p0 := Int.fmod_nonneg_of_pos a (b := 8) (by decide)
 have p1 := Int.fmod_lt_of_pos a (b := 8) (by decide)
 have q0 := Int.fmod_nonneg_of_pos (b * 65521) (b := 1000001) (by decide)
 have q1 := Int.fmod_lt_of_pos (b * 65521) (b := 1000001) (by decide)
 have r0 := Int.fmod_nonneg_of_pos b (b := 5) (by decide)
 have r1 := Int.fmod_lt_of_pos b (b := 5) (by decide)
 obtain ⟨v, ev, v0, v1⟩ : ∃ v : Int, atI [PyData.int 0, .int 1, .int 1000000, .int 10, .int 999999] (b.fmod 5) = some (.int v) /\ 0 <= v /\ v <= 1000000 := by
  generalize b.fmod 5 = z at *
  have : z = 0 \/ z = 1 \/ z = 2 \/ z = 3 \/ z = 4 := by omega
  rcases this with rfl | rfl | rfl | rfl | rfl <;> exact ⟨_, rfl, by decide, by decide⟩
 have fin : ∀ n : Int, -1000000 <= n -> n <= 1000000 -> ∀ z : Int, 0 <= z -> z <= 5 -> (z <= 3 -> 0 <= n) -> ∃ (w : Str) (x : Ts), atI [PyData.str (Str.ofString "from"), .str (Str.ofString "till"), .str (Str.ofString "over"), .str (Str.ofString "under"), .str (Str.ofString "dear"), .str (Str.ofString "cheap")] z = some (.str w) /\ PyData.tuple [.str w, .int n] = tsD x /\ TsR x := fun n h0 h1 z z0 z5 h3 => by
  have : z = 0 \/ z = 1 \/ z = 2 \/ z = 3 \/ z = 4 \/ z = 5 := by omega
  rcases this with rfl | rfl | rfl | rfl | rfl | rfl
  . exact ⟨_, .from_ n, rfl, rfl, h3 (by decide), h1⟩
  . exact ⟨_, .till n, rfl, rfl, h3 (by decide), h1⟩
  . exact ⟨_, .over n, rfl, rfl, h3 (by decide), h1⟩
  . exact ⟨_, .under n, rfl, rfl, h3 (by decide), h1⟩
  . exact ⟨_, .dear n, rfl, rfl, h0, h1⟩
  . exact ⟨_, .cheap n, rfl, rfl, h0, h1⟩
 unfold F_l_wide_test
 walk_at "t"
 rw [ea]
 walk_at "t"
 rw [modD_int (by decide)]
 walk_at "t"
 generalize a.fmod 8 = z at *
 by_cases c5 : 5 < z
 . rw [if_pos c5]
   have : z = 6 \/ z = 7 := by omega
   rcases this with rfl | rfl
   . exact ⟨.dark, rfl, trivial⟩
   . exact ⟨.sunny, rfl, trivial⟩
 rw [if_neg c5]
 walk_at "t"
 rw [eb]
 walk_at "t"
 rw [mulD_int (Bt.s62 (by omega) (by omega)) Bt.lit]
 walk_at "t"
 rw [modD_int (by decide)]
 walk_at "t"
 rw [ec]
 walk_at "t"
 rw [modD_int (by decide)]
 walk_at "t"
 obtain ⟨n0, en, n00, n01⟩ : ∃ n0 : Int, (if c.fmod 3 = 0 then letK (((F_l_mixed [scr ns, .int (k + 1)]).bind fun x => modD x.d (.int 5)).bind fun y => ixD (.list [.int 0, .int 1, .int 1000000, .int 10, .int 999999]) y.d) 3 [some (.dat (scr ns)), some (.dat (.int k)), some (.dat (.int z)), some (.dat (.int ((b * 65521).fmod 1000001)))] else some (Out.next [some (.dat (scr ns)), some (.dat (.int k)), some (.dat (.int z)), some (.dat (.int ((b * 65521).fmod 1000001)))])) = some (Out.next [some (.dat (scr ns)), some (.dat (.int k)), some (.dat (.int z)), some (.dat (.int n0))]) /\ 0 <= n0 /\ n0 <= 1000000 := by
  split
  . rw [eb]
    walk_at "t"
    rw [modD_int (by decide)]
    walk_at "t"
    rw [ev]
    exact ⟨v, rfl, v0, v1⟩
  . exact ⟨_, rfl, q0, by omega⟩
 rw [en]
 walk_at "t"
 obtain ⟨n1, en1, n10, n11, n12⟩ : ∃ n1 : Int, ((if 3 < z then (((F_l_mixed [scr ns, .int (k + 2)]).bind fun x => modD x.d (.int 2)).bind fun x => eqDD x.d (.int 1)).bind fun x => asB x.d else some false).bind fun t => if t = true then some (Out.next [some (.dat (scr ns)), some (.dat (.int k)), some (.dat (.int z)), some (.dat (.int (0 - n0)))]) else some (Out.next [some (.dat (scr ns)), some (.dat (.int k)), some (.dat (.int z)), some (.dat (.int n0))])) = some (Out.next [some (.dat (scr ns)), some (.dat (.int k)), some (.dat (.int z)), some (.dat (.int n1))]) /\ -1000000 <= n1 /\ n1 <= 1000000 /\ (z <= 3 -> 0 <= n1) := by
  by_cases c3 : 3 < z
  . rw [if_pos c3, ec]
    walk_at "t"
    rw [modD_int (by decide)]
    walk_at "t"
    split
    . exact ⟨_, rfl, by omega, by omega, fun h => by omega⟩
    . exact ⟨_, rfl, by omega, by omega, fun h => by omega⟩
  . rw [if_neg c3]
    exact ⟨n0, rfl, by omega, by omega, fun _ => n00⟩
 erw [en1]
 walk_at "t"
 obtain ⟨w, x, ew, ex, hx⟩ := fin n1 n10 n11 z (by omega) (by omega) n12
 rw [ew]
 walk_at "t"
 rw [ex]
 exact ⟨x, rfl, hx⟩
theorem wide_rule {ns : List Int} {k : Int} (hl : ns.length <= 63) (h0 : 0 <= k) (h1 : k <= 5000) : ∃ r : Rl, F_l_wide_rule [scr ns, .int k] = some (.dat (rlD r)) /\ RlR r := by
 obtain ⟨a, ea, a0, a1⟩ := mixed_eq (ns := ns) (k := k + 18) hl (by omega) (by omega)
 obtain ⟨b, eb, b0, b1⟩ := mixed_eq (ns := ns) (k := k + 19) hl (by omega) (by omega)
 obtain ⟨c, ec, c0, c1⟩ := mixed_eq (ns := ns) (k := k + 20) hl (by omega) (by omega)
 obtain ⟨d, ed, d0, d1⟩ := mixed_eq (ns := ns) (k := k + 21) hl (by omega) (by omega)
 have p0 := Int.fmod_nonneg_of_pos a (b := 7) (by decide)
 have p1 := Int.fmod_lt_of_pos a (b := 7) (by decide)
 have b0' := Int.fmod_nonneg_of_pos b (b := 3) (by decide)
 have b1' := Int.fmod_lt_of_pos b (b := 3) (by decide)
 have c0' := Int.fmod_nonneg_of_pos c (b := 3) (by decide)
 have c1' := Int.fmod_lt_of_pos c (b := 3) (by decide)
 have d0' := Int.fmod_nonneg_of_pos d (b := 2) (by decide)
 have d1' := Int.fmod_lt_of_pos d (b := 2) (by decide)
 obtain ⟨fi, efi⟩ : ∃ fi : Fi, atI [PyData.str (Str.ofString "none"), .str (Str.ofString "sun"), .str (Str.ofString "line")] (b.fmod 3) = some (.str (fiS fi)) := by
  generalize b.fmod 3 = z at *
  have : z = 0 \/ z = 1 \/ z = 2 := by omega
  rcases this with rfl | rfl | rfl
  . exact ⟨.non, rfl⟩
  . exact ⟨.sun, rfl⟩
  . exact ⟨.line, rfl⟩
 obtain ⟨ta, eta⟩ : ∃ ta : Ta, atI [PyData.str (Str.ofString "none"), .str (Str.ofString "need"), .str (Str.ofString "give")] (c.fmod 3) = some (.str (taS ta)) := by
  generalize c.fmod 3 = z at *
  have : z = 0 \/ z = 1 \/ z = 2 := by omega
  rcases this with rfl | rfl | rfl
  . exact ⟨.non, rfl⟩
  . exact ⟨.need, rfl⟩
  . exact ⟨.give, rfl⟩
 obtain ⟨wo, ewo⟩ : ∃ wo : Bool, atI [PyData.str (Str.ofString "now"), .str (Str.ofString "wait")] (d.fmod 2) = some (.str (woS wo)) := by
  generalize d.fmod 2 = z at *
  have : z = 0 \/ z = 1 := by omega
  rcases this with rfl | rfl
  . exact ⟨false, rfl⟩
  . exact ⟨true, rfl⟩
 have tk : ∀ j : Nat, j < (a.fmod 7).toNat -> ∃ x : Ts, F_l_wide_test [scr ns, .int (k + 3 * (0 + (j : Int)))] = some (.dat (tsD x)) /\ TsR x := fun j hj => wide_test hl (by omega) (by omega)
 obtain ⟨tf, htf⟩ : ∃ tf : Nat -> Ts, ∀ j, j < (a.fmod 7).toNat -> F_l_wide_test [scr ns, .int (k + 3 * (0 + (j : Int)))] = some (.dat (tsD (tf j))) /\ TsR (tf j) := by
  refine ⟨fun j => if h : j < (a.fmod 7).toNat then (tk j h).choose else .dark, fun j hj => ?_⟩
  simp only [hj, dite_true]
  exact (tk j hj).choose_spec
 have er : PyData.tuple [.tuple ((List.range (a.fmod 7).toNat).map fun j => tsD (tf j)), .str (fiS fi), .str (taS ta), .str (woS wo)] = rlD ⟨(List.range (a.fmod 7).toNat).map tf, fi, ta, wo⟩ := by
  unfold rlD
  rw [List.map_map]
  rfl
 have cr := fun ds => comp_rng (Fe := E_l_wide_rule_0) (ds := some (.dat (scr ns)) :: iD k :: ds) (lo := 0) (n := (a.fmod 7).toNat) (f := fun j => tsD (tf j)) fun j hj => ⟨.dat (tsD (tf j)), by
  unfold E_l_wide_rule_0
  walk_at "t"
  rw [mulD_int Bt.lit (Bt.s62 (by omega) (by omega))]
  walk_at "t"
  exact (htf j hj).1, rfl⟩
 unfold F_l_wide_rule
 walk_at "t"
 rw [ea]
 walk_at "t"
 rw [modD_int (by decide)]
 walk_at "t"
 rw [rng1_int (by omega)]
 walk_at "t"
 rw [if_pos (by simp [rngI]; omega)]
 erw [cr]
 walk_at "t"
 rw [eb]
 walk_at "t"
 rw [modD_int (by decide)]
 walk_at "t"
 rw [efi]
 walk_at "t"
 rw [ec]
 walk_at "t"
 rw [modD_int (by decide)]
 walk_at "t"
 rw [eta]
 walk_at "t"
 rw [ed]
 walk_at "t"
 rw [modD_int (by decide)]
 walk_at "t"
 rw [ewo]
 walk_at "t"
 rw [er]
 refine ⟨⟨(List.range (a.fmod 7).toNat).map tf, fi, ta, wo⟩, rfl, fun x hx => ?_, by show ((List.range (a.fmod 7).toNat).map tf).length <= 6; rw [List.length_map, List.length_range]; omega⟩
 obtain ⟨j, hj, rfl⟩ := List.mem_map.mp hx
 exact (htf j (List.mem_range.mp hj)).2
end Law
namespace Law
open PySem L2 PySem.NumText PySem.StrLaws
noncomputable def OL (F : Ds -> Option (List PyData)) (ds : Ds) (n : Nat) : Prop := ∃ zs : List Str, F ds = some (zs.map .str) /\ (∀ z ∈ zs, Zs z 100) /\ zs.length = n
theorem ol_nil {ds : Ds} : OL aNil ds 0 := ⟨[], rfl, (fun z h => by cases h), rfl⟩
theorem ol_cons {F : Ds -> Option PV} {G : Ds -> Option (List PyData)} {ds : Ds} {n : Nat} {z : Str} (h1 : F ds = some (.dat (.str z))) (hz : Zs z 100) (h : OL G ds n) : OL (aCons F G) ds (n + 1) := by
 obtain ⟨zs, e, hs, hl⟩ := h
 refine ⟨z :: zs, ?_, fun y hy => ?_, by rw [List.length_cons, hl]⟩
 . unfold aCons
   rw [h1]
   simp only [Option.bind_some]
   rw [e]
   rfl
 . rcases List.mem_cons.mp hy with rfl | hy
   . exact hz
   . exact hs y hy
theorem zs_lit {s : String} {n : Nat} (h1 : (Str.ofString s).length <= n) (h2 : (lz (Str.ofString s)).all (fun c => decide (c < 1114112)) = true) : Zs (Str.ofString s) n := ⟨h1, fun c hc => of_decide_eq_true (List.all_eq_true.mp h2 c hc)⟩
noncomputable def endZ : Str := Str.ofString " fill sun take need works wait"
theorem zs_end : Zs endZ 40 := zs_lit (by decide +kernel) (by decide +kernel)
theorem ol_lit {s : String} {G : Ds -> Option (List PyData)} {ds : Ds} {n : Nat} (hz : Zs (Str.ofString s) 100) (h : OL G ds n) : OL (aCons (fC (.str (Str.ofString s))) G) ds (n + 1) := ol_cons rfl hz h
theorem ol_add {s : String} {x0 x2 : Option PV} {G : Ds -> Option (List PyData)} {n : Nat} (hz : Zs (Str.ofString s) 60) (h : OL G [x0, some (.dat (.str endZ)), x2] n) : OL (aCons (fOp addD (fC (.str (Str.ofString s))) (fVar 1)) G) [x0, some (.dat (.str endZ)), x2] (n + 1) := by
 refine ol_cons (z := Str.ofString s ++ endZ) ?_ (zs_app hz zs_end) h
 show addD (.str (Str.ofString s)) (.str endZ) = _
 exact addD_str (by have := hz.len; have := zs_end.len; omega)
theorem ol_add2 {s t : String} {x0 x2 : Option PV} {G : Ds -> Option (List PyData)} {n : Nat} (hz : Zs (Str.ofString s) 30) (ht : Zs (Str.ofString t) 30) (h : OL G [x0, some (.dat (.str endZ)), x2] n) : OL (aCons (fOp addD (fOp addD (fC (.str (Str.ofString s))) (fVar 1)) (fC (.str (Str.ofString t)))) G) [x0, some (.dat (.str endZ)), x2] (n + 1) := by
 have l1 := hz.len
 have l2 := zs_end.len
 have w := zs_app hz zs_end
 have l3 := w.len
 have l4 := ht.len
 refine ol_cons (z := Str.ofString s ++ endZ ++ Str.ofString t) ?_ (zs_app w ht) h
 show ((addD (.str (Str.ofString s)) (.str endZ)).bind fun x => addD x.d (.str (Str.ofString t))) = _
 rw [addD_str (by omega)]
 exact addD_str (by omega)
theorem ol_cut {x0 x2 : Option PV} {G : Ds -> Option (List PyData)} {n : Nat} (h : OL G [x0, some (.dat (.str endZ)), x2] n) : OL (aCons (fSl slAD (fVar 1) (oSome (fC (.int 1))) oNone) G) [x0, some (.dat (.str endZ)), x2] (n + 1) := by
 have l2 := zs_end.len
 refine ol_cons (z := Txt.slice endZ (some ((1 : Nat) : Int)) none) ?_ ⟨by rw [lz_len, lz_from, List.length_drop, <- lz_len]; omega, fun c hc => zs_end.ok c (by rw [lz_from] at hc; exact List.mem_of_mem_drop hc)⟩ h
 show slAD (.str endZ) (some 1) none = _
 exact slAD_from (z := endZ) (by omega) 1
theorem odd_set {x0 : Option PV} : gSetD 1 (fC (.str (Str.ofString " fill sun take need works wait"))) [x0, none, none] = some (.next [x0, some (.dat (.str endZ)), none]) := by
 unfold endZ
 rfl
noncomputable abbrev OutOk (o : Option PV) : Prop := ∃ z, o = some (.dat (.str z)) /\ Zs z 100
theorem odd_first {A : Ds -> Option (List PyData)} {G : Ds -> Option Out} {x0 : Option PV} {n : Nat} (h : OL A [x0, some (.dat (.str endZ)), none] n) (hm : n <= 100)
  (k : ∀ zs : List Str, (∀ z ∈ zs, Zs z 100) -> zs.length = n -> OutOk ((G [x0, some (.dat (.str endZ)), some (.dat (.list (zs.map .str)))]).bind outV)) : OutOk ((gSeq (gSetD 2 (fLst A)) G [x0, some (.dat (.str endZ)), none]).bind outV) := by
 obtain ⟨zs, e, hz, hl⟩ := h
 have st : gSetD 2 (fLst A) [x0, some (.dat (.str endZ)), none] = some (.next [x0, some (.dat (.str endZ)), some (.dat (.list (zs.map .str)))]) := by
  refine setD_eq5 (pv := .own (zs.map .str)) ?_
  unfold fLst
  rw [e]
  simp only [Option.bind_some]
  rw [if_pos (by rw [List.length_map]; omega)]
 rw [sq_next5 st]
 exact k zs hz hl
theorem odd_then {A : Ds -> Option (List PyData)} {G : Ds -> Option Out} {x0 : Option PV} {zs : List Str} {n m : Nat} (hz : ∀ z ∈ zs, Zs z 100) (hl : zs.length = m) (h : ∀ x2, OL A [x0, some (.dat (.str endZ)), x2] n) (hm : m + n <= 100)
  (k : ∀ zs' : List Str, (∀ z ∈ zs', Zs z 100) -> zs'.length = m + n -> OutOk ((G [x0, some (.dat (.str endZ)), some (.dat (.list (zs'.map .str)))]).bind outV)) : OutOk ((gSeq (gSetD 2 (fOp addD (fVar 2) (fLst A))) G [x0, some (.dat (.str endZ)), some (.dat (.list (zs.map .str)))]).bind outV) := by
 obtain ⟨ys, e, hy, ly⟩ := h (some (.dat (.list (zs.map .str))))
 have st : gSetD 2 (fOp addD (fVar 2) (fLst A)) [x0, some (.dat (.str endZ)), some (.dat (.list (zs.map .str)))] = some (.next [x0, some (.dat (.str endZ)), some (.dat (.list ((zs ++ ys).map .str)))]) := by
  refine setD_eq5 (pv := .own ((zs ++ ys).map .str)) ?_
  unfold fOp fLst
  rw [e]
  simp only [Option.bind_some]
  rw [if_pos (by rw [List.length_map]; omega)]
  show addD (.list (zs.map .str)) (.list (ys.map .str)) = _
  rw [addD_list (by rw [List.length_map, List.length_map]; omega), List.map_append]
 rw [sq_next5 st]
 refine k (zs ++ ys) (fun z hzz => ?_) (by rw [List.length_append]; omega)
 rcases List.mem_append.mp hzz with q | q
 . exact hz z q
 . exact hy z q
theorem fn13 (G : Ds -> Option Out) (d : PyData) : fnF 1 3 G [d] = (G [some (.dat d), none, none]).bind outV := rfl
theorem odd_at {c : Int} {x1 : Option PV} {zs : List Str} (hz : ∀ z ∈ zs, Zs z 100) (hl : zs.length = 30) : OutOk ((gRet (fOp ixD (fVar 2) (fOp modD (fVar 0) (fC (.int 30)))) [iD c, x1, some (.dat (.list (zs.map .str)))]).bind outV) := by
 have h1 := Int.fmod_nonneg_of_pos c (show (0 : Int) < 30 by decide)
 have h2 := Int.fmod_lt_of_pos c (show (0 : Int) < 30 by decide)
 obtain ⟨i, ei, hi⟩ : ∃ i : Nat, c.fmod 30 = (i : Int) /\ i < zs.length := ⟨(c.fmod 30).toNat, by omega, by omega⟩
 refine ⟨zs[i], ?_, hz _ (List.getElem_mem hi)⟩
 have e1 : ixD (.list (zs.map .str)) (.int (i : Int)) = some (.dat (.str zs[i])) := by
  rw [ixD_list, atI_lit (n := i) rfl (by rw [List.length_map]; exact hi), List.getElem?_map, List.getElem?_eq_getElem hi]
  rfl
 show ((((modD (.int c) (.int 30)).bind fun y => ixD (.list (zs.map .str)) y.d).bind fun pv => some (Out.ret pv)).bind outV) = _
 rw [modD_int (by decide), ei]
 simp only [Option.bind_some, PV.d_dat]
 rw [e1]
 rfl
theorem odd_eq {c : Int} : OutOk (F_l_odd [.int c]) := by
 unfold F_l_odd
 rw [fn13, sq_next5 odd_set]
 refine odd_first (n := 8) (by repeat (first | exact ol_nil | refine ol_cut ?_ | refine ol_add2 (zs_lit (by decide +kernel) (by decide +kernel)) (zs_lit (by decide +kernel) (by decide +kernel)) ?_ | refine ol_add (zs_lit (by decide +kernel) (by decide +kernel)) ?_ | refine ol_lit (zs_lit (by decide +kernel) (by decide +kernel)) ?_)) (by decide) fun zs hz hl => ?_
 refine odd_then hz hl (n := 1) (fun x2 => by repeat (first | exact ol_nil | refine ol_add (zs_lit (by decide +kernel) (by decide +kernel)) ?_ | refine ol_lit (zs_lit (by decide +kernel) (by decide +kernel)) ?_)) (by decide) fun zs hz hl => ?_
 refine odd_then hz hl (n := 4) (fun x2 => by repeat (first | exact ol_nil | refine ol_add (zs_lit (by decide +kernel) (by decide +kernel)) ?_ | refine ol_lit (zs_lit (by decide +kernel) (by decide +kernel)) ?_)) (by decide) fun zs hz hl => ?_
 refine odd_then hz hl (n := 4) (fun x2 => by repeat (first | exact ol_nil | refine ol_add (zs_lit (by decide +kernel) (by decide +kernel)) ?_ | refine ol_lit (zs_lit (by decide +kernel) (by decide +kernel)) ?_)) (by decide) fun zs hz hl => ?_
 refine odd_then hz hl (n := 3) (fun x2 => by repeat (first | exact ol_nil | refine ol_add (zs_lit (by decide +kernel) (by decide +kernel)) ?_ | refine ol_lit (zs_lit (by decide +kernel) (by decide +kernel)) ?_)) (by decide) fun zs hz hl => ?_
 refine odd_then hz hl (n := 1) (fun x2 => by repeat (first | exact ol_nil | refine ol_add (zs_lit (by decide +kernel) (by decide +kernel)) ?_ | refine ol_lit (zs_lit (by decide +kernel) (by decide +kernel)) ?_)) (by decide) fun zs hz hl => ?_
 refine odd_then hz hl (n := 2) (fun x2 => by repeat (first | exact ol_nil | refine ol_add (zs_lit (by decide +kernel) (by decide +kernel)) ?_ | refine ol_lit (zs_lit (by decide +kernel) (by decide +kernel)) ?_)) (by decide) fun zs hz hl => ?_
 refine odd_then hz hl (n := 2) (fun x2 => by repeat (first | exact ol_nil | refine ol_add (zs_lit (by decide +kernel) (by decide +kernel)) ?_ | refine ol_lit (zs_lit (by decide +kernel) (by decide +kernel)) ?_)) (by decide) fun zs hz hl => ?_
 refine odd_then hz hl (n := 2) (fun x2 => by repeat (first | exact ol_nil | refine ol_add (zs_lit (by decide +kernel) (by decide +kernel)) ?_ | refine ol_lit (zs_lit (by decide +kernel) (by decide +kernel)) ?_)) (by decide) fun zs hz hl => ?_
 refine odd_then hz hl (n := 3) (fun x2 => by repeat (first | exact ol_nil | refine ol_add (zs_lit (by decide +kernel) (by decide +kernel)) ?_ | refine ol_lit (zs_lit (by decide +kernel) (by decide +kernel)) ?_)) (by decide) fun zs hz hl => ?_
 exact odd_at hz hl
end Law
namespace Law
open PySem L2 PySem.NumText PySem.StrLaws
theorem join_short {ws : List Str} (h : ∀ w ∈ ws, Wd w) : Zs (Txt.join ⟨#[32]⟩ ws) (ws.length * 11) := by
 have e := size_glued ⟨#[32]⟩ ws
 have s : (ws.map (·.length)).sum <= ws.length * 10 := by
  clear e
  induction ws with
  | nil => simp
  | cons w r ih =>
   have := (h w (by simp)).l
   have := ih fun x hx => h x (by simp [hx])
   simp only [List.map_cons, List.sum_cons, List.length_cons, Nat.add_mul]
   omega
 have e' : (Txt.join ⟨#[32]⟩ ws).length = (ws.map (·.length)).sum + (ws.length - 1) * 1 := e
 refine ⟨by omega, ?_⟩
 rw [show Txt.join ⟨#[32]⟩ ws = Str.join ⟨#[32]⟩ ws from glued_eq_join _ _, lz_join]
 intro c hc
 cases ws with
 | nil => cases hc
 | cons w r =>
  rcases List.mem_append.mp hc with hc | hc
  . exact (h w (by simp)).o c hc
  . obtain ⟨l, hl, hc⟩ := List.mem_flatten.mp hc
    obtain ⟨x, hx, rfl⟩ := List.mem_map.mp hl
    rcases List.mem_append.mp hc with hc | hc
    . have : c = 32 := by simpa using hc
      omega
    . exact (h x (by simp [hx])).o c hc
theorem line_short {r : Rl} (h : RlR r) : Zs (lineS r) 300 := by
 have w := join_short (wd_line h)
 have l := (lineW_len h).1
 exact ⟨Nat.le_trans w.len (by omega), w.ok⟩
theorem setI_eq {i k : Nat} {Fk Fv : Ds -> Option PV} {ds : Ds} {l : List PyData} {pv : PV} (h1 : Fv ds = some pv) (h2 : Fk ds = some (.dat (.int (k : Int)))) (h3 : ds[i]? = some (some (.own l))) (hk : k < l.length) :
  gSetI i Fk Fv ds = some (.next (ds.set i (some (.own (l.set k pv.d))))) := by
 have e : ixN l.length (k : Int) = some k := by
  unfold ixN
  rw [if_pos (by omega), if_pos (by omega), Int.toNat_natCast]
 unfold gSetI
 rw [h1, Option.bind_some, h2, Option.bind_some, h3]
 show (ixN l.length (k : Int)).bind _ = _
 rw [e]
 rfl
theorem zs_set {zs : List Str} {n i : Nat} {z : Str} (h : ∀ y ∈ zs, Zs y n) (hz : Zs z (n + 1)) : ∀ y ∈ zs.set i z, Zs y (n + 1) := fun y hy => by
 rcases List.mem_or_eq_of_mem_set hy with q | rfl
 . exact ⟨Nat.le_trans (h y q).len (by omega), (h y q).ok⟩
 . exact hz
theorem lines_step {ns : List Int} (hl : ns.length <= 63) {m : Int} (m0 : 1 <= m) (m1 : m <= 24) {j : Int} (j0 : 0 <= j) (j1 : j <= 2) {zs : List Str} {n : Nat} (hz : ∀ z ∈ zs, Zs z n) (hn : n <= 400) (hn' : 100 <= n) (hm : zs.length = m.toNat) (x4 : Option PV) :
  ∃ (zs' : List Str) (x4' : Option PV), B_l_lines_0 [some (.dat (scr ns)), iD m, some (.own (zs.map .str)), iD j, x4] = some (.next [some (.dat (scr ns)), iD m, some (.own (zs'.map .str)), iD j, x4']) /\ (∀ z ∈ zs', Zs z (n + 1)) /\ zs'.length = m.toNat := by
 obtain ⟨a, ea, a0, a1⟩ := mixed_eq (ns := ns) (k := 20 + 4 * j) hl (by omega) (by omega)
 obtain ⟨b, eb, b0, b1⟩ := mixed_eq (ns := ns) (k := 21 + 4 * j) hl (by omega) (by omega)
 obtain ⟨c, ec, c0, c1⟩ := mixed_eq (ns := ns) (k := 22 + 4 * j) hl (by omega) (by omega)
 obtain ⟨d, ed, d0, d1⟩ := mixed_eq (ns := ns) (k := 23 + 4 * j) hl (by omega) (by omega)
 have p0 := Int.fmod_nonneg_of_pos a (show (0 : Int) < m by omega)
 have p1 := Int.fmod_lt_of_pos a (show (0 : Int) < m by omega)
 obtain ⟨i, ei, hi⟩ : ∃ i : Nat, a.fmod m = (i : Int) /\ i < zs.length := ⟨(a.fmod m).toNat, by omega, by omega⟩
 have hi' : i < (zs.map PyData.str).length := by rw [List.length_map]; exact hi
 have mj : mulD (.int 4) (.int j) = some (.dat (.int (4 * j))) := mulD_int Bt.lit (Bt.s62 (by omega) (by omega))
 obtain ⟨z1, e1, h1⟩ := bent_eq (hz zs[i] (List.getElem_mem hi)) (by omega) b0 c0
 obtain ⟨z2, e2, h2⟩ := odd_eq (c := b)
 have at1 : ixD (.list (zs.map .str)) (.int (i : Int)) = some (.dat (.str zs[i])) := by
  rw [ixD_list, atI_lit (n := i) rfl hi', List.getElem?_map, List.getElem?_eq_getElem hi]
  rfl
 have s1 : (gSetD 4 (fOp modD (fCall F_l_mixed (aCons (fVar 0) (aCons (fOp addD (fC (.int 20)) (fOp mulD (fC (.int 4)) (fVar 3))) aNil))) (fVar 1))) [some (.dat (scr ns)), iD m, some (.own (zs.map .str)), iD j, x4] = some (.next [some (.dat (scr ns)), iD m, some (.own (zs.map .str)), iD j, iD (i : Int)]) := by
  refine setD_eq5 (pv := .dat (.int (i : Int))) ?_
  generalize zs.map PyData.str = ZL at *
  walk_at "t"
  rw [mj]
  walk_at "t"
  rw [ea]
  walk_at "t"
  rw [modD_int (by omega), ei]
 have s2 : (gSetI 2 (fVar 4) (fCall F_l_bent (aCons (fIxO 2 (fVar 4)) (aCons (fCall F_l_mixed (aCons (fVar 0) (aCons (fOp addD (fC (.int 21)) (fOp mulD (fC (.int 4)) (fVar 3))) aNil))) (aCons (fCall F_l_mixed (aCons (fVar 0) (aCons (fOp addD (fC (.int 22)) (fOp mulD (fC (.int 4)) (fVar 3))) aNil))) aNil))))) [some (.dat (scr ns)), iD m, some (.own (zs.map .str)), iD j, iD (i : Int)] = some (.next [some (.dat (scr ns)), iD m, some (.own ((zs.set i z1).map .str)), iD j, iD (i : Int)]) := by
  refine Eq.trans (setI_eq (k := i) (l := zs.map .str) (pv := .dat (.str z1)) ?_ rfl rfl hi') ?_
  . generalize zs.map PyData.str = ZL at *
    simp only [fCall, aCons, aNil, fIxO, fOp, fVar, fC, List.getElem?_cons_zero, List.getElem?_cons_succ, Option.bind_some, PV.d_dat, PV.d_own, mj, addD_int, at1, eb, ec]
    exact e1
  . rw [List.map_set]
    rfl
 have s3 : ∃ zs' : List Str, (gIf (bVal (fOp eqDD (fOp modD (fCall F_l_mixed (aCons (fVar 0) (aCons (fOp addD (fC (.int 23)) (fOp mulD (fC (.int 4)) (fVar 3))) aNil))) (fC (.int 2))) (fC (.int 0)))) (gSetI 2 (fVar 4) (fCall F_l_odd (aCons (fCall F_l_mixed (aCons (fVar 0) (aCons (fOp addD (fC (.int 21)) (fOp mulD (fC (.int 4)) (fVar 3))) aNil))) aNil))) gNext) [some (.dat (scr ns)), iD m, some (.own ((zs.set i z1).map .str)), iD j, iD (i : Int)] = some (.next [some (.dat (scr ns)), iD m, some (.own (zs'.map .str)), iD j, iD (i : Int)]) /\ (∀ z ∈ zs', Zs z (n + 1)) /\ zs'.length = m.toNat := by
  have w1 := zs_set (i := i) hz h1
  have l1 : (zs.set i z1).length = m.toNat := by rw [List.length_set]; exact hm
  have w2 : ∀ y ∈ (zs.set i z1).set i z2, Zs y (n + 1) := fun y hy => by
   rcases List.mem_or_eq_of_mem_set hy with q | rfl
   . exact w1 y q
   . exact ⟨Nat.le_trans h2.len (by omega), h2.ok⟩
  have l2 : ((zs.set i z1).set i z2).length = m.toNat := by rw [List.length_set]; exact l1
  have st : gSetI 2 (fVar 4) (fCall F_l_odd (aCons (fCall F_l_mixed (aCons (fVar 0) (aCons (fOp addD (fC (.int 21)) (fOp mulD (fC (.int 4)) (fVar 3))) aNil))) aNil)) [some (.dat (scr ns)), iD m, some (.own ((zs.set i z1).map .str)), iD j, iD (i : Int)] = some (.next [some (.dat (scr ns)), iD m, some (.own (((zs.set i z1).set i z2).map .str)), iD j, iD (i : Int)]) := by
   refine Eq.trans (setI_eq (k := i) (l := (zs.set i z1).map .str) (pv := .dat (.str z2)) ?_ rfl rfl (by rw [List.length_map]; omega)) ?_
   . generalize (zs.set i z1).map PyData.str = ZL at *
     simp only [fCall, aCons, aNil, fOp, fVar, fC, List.getElem?_cons_zero, List.getElem?_cons_succ, Option.bind_some, PV.d_dat, mj, addD_int, eb]
     exact e2
   . rw [List.map_set (l := zs.set i z1)]
     rfl
  unfold gIf
  simp only [bVal, fCall, aCons, aNil, fOp, fVar, fC, List.getElem?_cons_zero, List.getElem?_cons_succ, Option.bind_some, PV.d_dat, mj, addD_int, ed]
  rw [modD_int (by decide)]
  simp only [Option.bind_some, PV.d_dat, eqDD_int, asB_bool, decide_eq_true_eq]
  split
  . exact ⟨_, st, w2, l2⟩
  . exact ⟨_, rfl, w1, l1⟩
 obtain ⟨zs', e3, w3, l3⟩ := s3
 refine ⟨zs', iD (i : Int), ?_, w3, l3⟩
 unfold B_l_lines_0
 rw [sq_next5 s1, sq_next5 s2]
 exact e3
end Law
namespace Law
open PySem L2 PySem.NumText PySem.StrLaws
theorem fn15 (G : Ds -> Option Out) (d : PyData) : fnF 1 5 G [d] = (G [some (.dat d), none, none, none, none]).bind outV := rfl
theorem set_eq5 {j : Nat} {F : Ds -> Option PV} {ds : Ds} {pv : PV} (h : F ds = some pv) : gSet j F ds = some (.next (ds.set j (some pv))) := by unfold gSet; rw [h]; rfl
theorem lines_eq {ns : List Int} (hl : ns.length <= 63) : ∃ (pv : PV) (zs : List Str), F_l_lines [scr ns] = some pv /\ pv.d = .list (zs.map .str) /\ (∀ z ∈ zs, Zok z) /\ zs.length <= 50 := by
 obtain ⟨a, ea, a0, a1⟩ := mixed_eq (ns := ns) (k := 0) hl (by decide) (by decide)
 obtain ⟨b, eb, b0, b1⟩ := mixed_eq (ns := ns) (k := 1) hl (by decide) (by decide)
 obtain ⟨c, ec, c0, c1⟩ := mixed_eq (ns := ns) (k := 2) hl (by decide) (by decide)
 have p0 := Int.fmod_nonneg_of_pos a (b := 5) (by decide)
 have p1 := Int.fmod_lt_of_pos a (b := 5) (by decide)
 have q0 := Int.fmod_nonneg_of_pos b (b := 7) (by decide)
 have q1 := Int.fmod_lt_of_pos b (b := 7) (by decide)
 have r0 := Int.fmod_nonneg_of_pos c (b := 3) (by decide)
 have r1 := Int.fmod_lt_of_pos c (b := 3) (by decide)
 have s1 : (gSetD 1 (fOp addD (fC (.int 1)) (fOp modD (fCall F_l_mixed (aCons (fVar 0) (aCons (fC (.int 0)) aNil))) (fC (.int 5))))) [some (.dat (scr ns)), none, none, none, none] = some (.next [some (.dat (scr ns)), iD (1 + a.fmod 5), none, none, none]) := by
  refine setD_eq5 (pv := .dat (.int (1 + a.fmod 5))) ?_
  walk_at "t"
  rw [ea]
  walk_at "t"
  rw [modD_int (by decide)]
  walk_at "t"
 obtain ⟨m, s2, m0, m1⟩ : ∃ m : Int, (gIf (bVal (fOp eqDD (fOp modD (fOp fdivD (fCall F_l_mixed (aCons (fVar 0) (aCons (fC (.int 0)) aNil))) (fC (.int 5))) (fC (.int 4))) (fC (.int 0)))) (gSetD 1 (fOp addD (fC (.int 18)) (fOp modD (fCall F_l_mixed (aCons (fVar 0) (aCons (fC (.int 1)) aNil))) (fC (.int 7))))) gNext) [some (.dat (scr ns)), iD (1 + a.fmod 5), none, none, none] = some (.next [some (.dat (scr ns)), iD m, none, none, none]) /\ 1 <= m /\ m <= 24 := by
  walk_at "t"
  rw [ea]
  walk_at "t"
  rw [fdivD_int (j := 5) (by decide) (Bt.s62 (by omega) (by omega))]
  walk_at "t"
  rw [modD_int (by decide)]
  walk_at "t"
  split
  . rw [eb]
    walk_at "t"
    rw [modD_int (by decide)]
    walk_at "t"
    exact ⟨18 + b.fmod 7, rfl, by omega, by omega⟩
  . exact ⟨_, rfl, by omega, by omega⟩
 have wk : ∀ j : Nat, j < m.toNat -> ∃ r : Rl, F_l_wide_rule [scr ns, .int (600 + 23 * (0 + (j : Int)))] = some (.dat (rlD r)) /\ RlR r := fun j hj => wide_rule hl (by omega) (by omega)
 obtain ⟨rf, hrf⟩ : ∃ rf : Nat -> Rl, ∀ j, j < m.toNat -> F_l_wide_rule [scr ns, .int (600 + 23 * (0 + (j : Int)))] = some (.dat (rlD (rf j))) /\ RlR (rf j) := by
  refine ⟨fun j => if h : j < m.toNat then (wk j h).choose else ⟨[], .non, .non, true⟩, fun j hj => ?_⟩
  simp only [hj, dite_true]
  exact (wk j hj).choose_spec
 have cr := fun ds => comp_rng (Fe := E_l_lines_0) (ds := some (.dat (scr ns)) :: ds) (lo := 0) (n := m.toNat) (f := fun j => PyData.str (lineS (rf j))) fun j hj => ⟨.dat (.str (lineS (rf j))), by
  have e1 := (hrf j hj).1
  have e2 := lrule_line_eq (hrf j hj).2
  generalize rlD (rf j) = rd at *
  unfold E_l_lines_0
  walk_at "t"
  rw [mulD_int Bt.lit (Bt.s62 (by omega) (by omega))]
  walk_at "t"
  rw [e1]
  walk_at "t"
  exact e2, rfl⟩
 have s3 : (gSet 2 (fComp (iFn rng1 (aCons (fVar 1) aNil)) gtName bTrue E_l_lines_0)) [some (.dat (scr ns)), iD m, none, none, none] = some (.next [some (.dat (scr ns)), iD m, some (.own (((List.range m.toNat).map fun j => lineS (rf j)).map .str)), none, none]) := by
  refine set_eq5 (pv := .own (((List.range m.toNat).map fun j => lineS (rf j)).map .str)) ?_
  rw [List.map_map]
  simp only [fComp, iFn, aCons, aNil, fVar, List.getElem?_cons_zero, List.getElem?_cons_succ, Option.bind_some, PV.d_dat]
  rw [rng1_int (by omega)]
  simp only [Option.bind_some]
  rw [if_pos (by unfold rngI; rw [List.length_map, List.length_range]; omega), cr]
  rfl
 have z0 : ∀ z ∈ (List.range m.toNat).map fun j => lineS (rf j), Zs z (300 + 0) := fun z hz => by
  obtain ⟨j, hj, rfl⟩ := List.mem_map.mp hz
  exact line_short (hrf j (List.mem_range.mp hj)).2
 have zl : ((List.range m.toNat).map fun j => lineS (rf j)).length = m.toNat := by rw [List.length_map, List.length_range]
 generalize ((List.range m.toNat).map fun j => lineS (rf j)) = zs at *
 obtain ⟨ds', s4, zs', x3, x4, rfl, hz', hl'⟩ := forD_rng (gt := sName 3) (G := B_l_lines_0) (lo := 0) (n := (c.fmod 3).toNat) (ds := [some (.dat (scr ns)), iD m, some (.own (zs.map .str)), none, none])
  (fun n ds => ∃ (zs' : List Str) (x3 x4 : Option PV), ds = [some (.dat (scr ns)), iD m, some (.own (zs'.map .str)), x3, x4] /\ (∀ z ∈ zs', Zs z (300 + n)) /\ zs'.length = m.toNat) ⟨zs, none, none, rfl, z0, zl⟩ (by
   rintro n ds hn ⟨zs', x3, x4, rfl, hz', hl'⟩
   obtain ⟨zs2, x4', e, h2, l2⟩ := lines_step hl m0 m1 (j := 0 + (n : Int)) (by omega) (by omega) hz' (by omega) (by omega) hl' x4
   exact ⟨_, _, rfl, .inl e, zs2, _, _, rfl, h2, l2⟩)
 have s4' : gFor (iFn rng1 (aCons (fOp modD (fCall F_l_mixed (aCons (fVar 0) (aCons (fC (.int 2)) aNil))) (fC (.int 3))) aNil)) (sName 3) B_l_lines_0 [some (.dat (scr ns)), iD m, some (.own (zs.map .str)), none, none] = some (.next [some (.dat (scr ns)), iD m, some (.own (zs'.map .str)), x3, x4]) := by
  simp only [gFor, iFn, fCall, fOp, fC, aCons, aNil, fVar, List.getElem?_cons_zero, List.getElem?_cons_succ, Option.bind_some, PV.d_dat, ec]
  rw [modD_int (by decide)]
  simp only [Option.bind_some, PV.d_dat]
  rw [rng1_int (by omega)]
  exact s4
 refine ⟨.own (zs'.map .str), zs', ?_, rfl, fun z hz => ⟨Nat.le_trans (hz' z hz).len (by omega), (hz' z hz).ok⟩, by omega⟩
 unfold F_l_lines
 rw [fn15, sq_next5 s1, sq_next5 s2, sq_next5 s3, sq_next5 s4']
 rfl
theorem law_true (cE : Addr) (ns : List Int) (hl : ns.length <= 63) : F_law cE [.list (ns.map .int)] = some (.dat (.bool true)) := by
 obtain ⟨pv, zs, e, hp, hz, h50⟩ := lines_eq hl
 exact law_of cE e hp hz h50
end Law
set_option maxHeartbeats 4000000
local macro_rules | `(tactic| walk_at "s") => `(tactic| simp only [L2.tSeq, L2.tAsg, L2.tIfS, L2.tRet, L2.tNext, L2.tOp, L2.tTest, L2.tB, L2.tNot, L2.tAnd, L2.tOr, L2.tAndV, L2.tOrV, L2.tNotV, L2.tUn, L2.tCB, L2.tCons, L2.tNil, L2.tVar, L2.tC, L2.tIf, L2.tCall, L2.tTup, L2.tLst, L2.tPar, L2.tSl, L2.tNoPart, L2.tPart, L2.tIfs0, L2.gName, L2.gTup, L2.gCons, L2.gNil, L2.rI, L2.rI0, L2.rU, L2.rEq, L2.rNe, L2.rIxL, L2.rIxT, L2.scal_int, L2.scal_str, L2.scal_bl, L2.start, L2.blkSt, L2.CDiv, L2.CMul, L2.CPow,
 L2.V.int.injEq, L2.V.ref.injEq, L2.V.bl.injEq, L2.V.str.injEq, L2.V.ty.injEq, List.cons.injEq, Option.some.injEq, reduceCtorEq, and_true, true_and, and_false, false_and, exists_eq_left, exists_eq_left', exists_and_left, L2.ex2, exists_false, exists_const, exists_eq', exists_eq, or_false, false_or,
 List.map_cons, List.map_nil, List.length_cons, List.length_nil, List.length_map, List.replicate, List.cons_append, List.nil_append, List.append_nil, List.set_cons_zero, List.set_cons_succ, List.getElem?_cons_zero, List.getElem?_cons_succ, List.length_append, List.length_singleton,
 decide_eq_true_eq, decide_eq_false_iff_not, Bool.not_eq_true', Bool.false_eq_true, if_true, if_false, ne_eq, not_true_eq_false, not_false_eq_true, Bool.not_true, Bool.not_false, decide_true, decide_false, Nat.reduceAdd, Nat.reduceSub, L2.isI, L2.tyOf, String.reduceBEq, Bool.true_or, Bool.false_or, Bool.or_true, Bool.or_false, Bool.and_true, Bool.true_and, Bool.and_false, Bool.false_and])
local macro_rules | `(tactic| walk_at "g") => `(tactic| repeat ((first | refine ⟨_, (by assumption), _, rfl, ?_⟩ | refine ⟨⟨(by assumption), (by assumption)⟩, ?_⟩); (try walk_at "s")))
local macro_rules | `(tactic| walk_at "i") => `(tactic| repeat ((refine ⟨_, (by assumption), (by assumption), ?_⟩); (try walk_at "s")))
namespace Law
open PySem L2
noncomputable def top (i : Nat) : Stmt := PySem.Challenge.pw_sunstore_k71_lines_of_no_rule.main.body.getD i (.Pass ⟨0, 0, 0, 0⟩)
noncomputable abbrev s_common_divisor : Stmt := top 10
theorem sc_common_divisor : FnScope ["one", "other", "rest"] ["one", "other"] (defScope s_common_divisor) := ⟨rfl, rfl, rfl, by decide +kernel, rfl, by decide +kernel, by decide +kernel⟩
noncomputable abbrev s_fraction : Stmt := top 11
theorem sc_fraction : FnScope ["top", "bottom", "divisor"] ["top", "bottom"] (defScope s_fraction) := ⟨rfl, rfl, rfl, by decide +kernel, rfl, by decide +kernel, by decide +kernel⟩
noncomputable abbrev s_figures_of : Stmt := top 12
theorem sc_figures_of : FnScope ["number", "piece", "pieces", "rest"] ["number"] (defScope s_figures_of) := ⟨rfl, rfl, rfl, by decide +kernel, rfl, by decide +kernel, by decide +kernel⟩
noncomputable abbrev s_written : Stmt := top 13
theorem sc_written : FnScope ["one", "text"] ["one"] (defScope s_written) := ⟨rfl, rfl, rfl, by decide +kernel, rfl, by decide +kernel, by decide +kernel⟩
noncomputable abbrev s_read_figures : Stmt := top 14
theorem sc_read_figures : FnScope ["text", "sign"] ["text"] (defScope s_read_figures) := ⟨rfl, rfl, rfl, by decide +kernel, rfl, by decide +kernel, by decide +kernel⟩
noncomputable abbrev s_read_signed : Stmt := top 15
theorem sc_read_signed : FnScope ["text", "number"] ["text"] (defScope s_read_signed) := ⟨rfl, rfl, rfl, by decide +kernel, rfl, by decide +kernel, by decide +kernel⟩
noncomputable abbrev s_read_fraction : Stmt := top 16
theorem sc_read_fraction : FnScope ["text", "parts", "top", "bottom", "one"] ["text"] (defScope s_read_fraction) := ⟨rfl, rfl, rfl, by decide +kernel, rfl, by decide +kernel, by decide +kernel⟩
noncomputable abbrev s_read_bound : Stmt := top 28
theorem sc_read_bound : FnScope ["word", "least", "one"] ["word", "least"] (defScope s_read_bound) := ⟨rfl, rfl, rfl, by decide +kernel, rfl, by decide +kernel, by decide +kernel⟩
noncomputable abbrev s_read_test : Stmt := top 29
theorem sc_read_test : FnScope ["words", "bound"] ["words"] (defScope s_read_test) := ⟨rfl, rfl, rfl, by decide +kernel, rfl, by decide +kernel, by decide +kernel⟩
noncomputable abbrev s_read_tests : Stmt := top 30
theorem sc_read_tests : FnScope ["words", "tests", "place", "test"] ["words"] (defScope s_read_tests) := ⟨rfl, rfl, rfl, by decide +kernel, rfl, by decide +kernel, by decide +kernel⟩
noncomputable abbrev s_read_deeds : Stmt := top 31
theorem sc_read_deeds : FnScope ["words", "deeds"] ["words"] (defScope s_read_deeds) := ⟨rfl, rfl, rfl, by decide +kernel, rfl, by decide +kernel, by decide +kernel⟩
noncomputable abbrev s_read_rule : Stmt := top 32
theorem sc_read_rule : FnScope ["line", "words", "tests", "deeds"] ["line"] (defScope s_read_rule) := ⟨rfl, rfl, rfl, by decide +kernel, rfl, by decide +kernel, by decide +kernel⟩
noncomputable abbrev s_read_keeper : Stmt := top 33
theorem sc_read_keeper : FnScope ["lines", "rules", "place", "line", "rule"] ["lines"] (defScope s_read_keeper) := ⟨rfl, rfl, rfl, by decide +kernel, rfl, by decide +kernel, by decide +kernel⟩
noncomputable abbrev s_l_mixed : Stmt := top 35
theorem sc_l_mixed : FnScope ["_law_script", "_law_k", "_law_cell", "_law_turn", "_law_v"] ["_law_script", "_law_k"] (defScope s_l_mixed) := ⟨rfl, rfl, rfl, by decide +kernel, rfl, by decide +kernel, by decide +kernel⟩
noncomputable abbrev s_l_rule_line : Stmt := top 36
theorem sc_l_rule_line : FnScope ["_law_rule", "_law_words", "_law_test"] ["_law_rule"] (defScope s_l_rule_line) := ⟨rfl, rfl, rfl, by decide +kernel, rfl, by decide +kernel, by decide +kernel⟩
noncomputable abbrev s_l_wide_test : Stmt := top 37
theorem sc_l_wide_test : FnScope ["_law_script", "_law_k", "_law_kind", "_law_number"] ["_law_script", "_law_k"] (defScope s_l_wide_test) := ⟨rfl, rfl, rfl, by decide +kernel, rfl, by decide +kernel, by decide +kernel⟩
noncomputable abbrev s_l_wide_rule : Stmt := top 38
theorem sc_l_wide_rule : FnScope ["_law_script", "_law_k", "_law_tests", "_law_fill", "_law_take"] ["_law_script", "_law_k"] (defScope s_l_wide_rule) := ⟨rfl, rfl, rfl, by decide +kernel, rfl, by decide +kernel, by decide +kernel⟩
noncomputable abbrev s_l_is_number : Stmt := top 39
theorem sc_l_is_number : FnScope ["_law_word", "_law_below", "_law_figures", "_law_sign"] ["_law_word", "_law_below"] (defScope s_l_is_number) := ⟨rfl, rfl, rfl, by decide +kernel, rfl, by decide +kernel, by decide +kernel⟩
noncomputable abbrev s_l_is_rule : Stmt := top 40
theorem sc_l_is_rule : FnScope ["_law_line", "_law_words", "_law_left", "_law_tests", "_law_word"] ["_law_line"] (defScope s_l_is_rule) := ⟨rfl, rfl, rfl, by decide +kernel, rfl, by decide +kernel, by decide +kernel⟩
noncomputable abbrev s_l_bent : Stmt := top 41
theorem sc_l_bent : FnScope ["_law_line", "_law_by", "_law_more", "_law_signs", "_law_at"] ["_law_line", "_law_by", "_law_more"] (defScope s_l_bent) := ⟨rfl, rfl, rfl, by decide +kernel, rfl, by decide +kernel, by decide +kernel⟩
noncomputable abbrev s_l_odd : Stmt := top 42
theorem sc_l_odd : FnScope ["_law_by", "_law_end", "_law_odd_here"] ["_law_by"] (defScope s_l_odd) := ⟨rfl, rfl, rfl, by decide +kernel, rfl, by decide +kernel, by decide +kernel⟩
noncomputable abbrev s_l_lines : Stmt := top 43
theorem sc_l_lines : FnScope ["_law_script", "_law_many", "_law_lines_here", "_law_j", "_law_at"] ["_law_script"] (defScope s_l_lines) := ⟨rfl, rfl, rfl, by decide +kernel, rfl, by decide +kernel, by decide +kernel⟩
noncomputable abbrev s_law : Stmt := top 44
theorem sc_law : FnScope ["_law_script", "_law_lines_here", "_law_bad", "_law_told", "_law_refused", "e", "_law_place"] ["_law_script"] (defScope s_law) := ⟨rfl, rfl, rfl, by decide +kernel, rfl, by decide +kernel, by decide +kernel⟩
noncomputable abbrev s_init : Stmt := inClass (top 3) 0
theorem sc_init : FnScope ["self", "place"] ["self", "place"] (defScope s_init) := ⟨rfl, rfl, rfl, by decide +kernel, rfl, by decide +kernel, by decide +kernel⟩
theorem bt_ValueError : bootBuiltins "ValueError" = some (.type "ValueError") := by decide +kernel
theorem bt_abs : bootBuiltins "abs" = some (.builtin "abs") := by decide +kernel
theorem bt_bool : bootBuiltins "bool" = some (.type "bool") := by decide +kernel
theorem bt_int : bootBuiltins "int" = some (.type "int") := by decide +kernel
theorem bt_isinstance : bootBuiltins "isinstance" = some (.builtin "isinstance") := by decide +kernel
theorem bt_len : bootBuiltins "len" = some (.builtin "len") := by decide +kernel
theorem bt_str : bootBuiltins "str" = some (.type "str") := by decide +kernel
theorem bt_tuple : bootBuiltins "tuple" = some (.type "tuple") := by decide +kernel
structure Ads where
 f_common_divisor : Addr
 fd_common_divisor : FuncData
 f_fraction : Addr
 fd_fraction : FuncData
 f_figures_of : Addr
 fd_figures_of : FuncData
 f_written : Addr
 fd_written : FuncData
 f_read_figures : Addr
 fd_read_figures : FuncData
 f_read_signed : Addr
 fd_read_signed : FuncData
 f_read_fraction : Addr
 fd_read_fraction : FuncData
 f_read_bound : Addr
 fd_read_bound : FuncData
 f_read_test : Addr
 fd_read_test : FuncData
 f_read_tests : Addr
 fd_read_tests : FuncData
 f_read_deeds : Addr
 fd_read_deeds : FuncData
 f_read_rule : Addr
 fd_read_rule : FuncData
 f_read_keeper : Addr
 fd_read_keeper : FuncData
 f_l_mixed : Addr
 fd_l_mixed : FuncData
 f_l_rule_line : Addr
 fd_l_rule_line : FuncData
 f_l_wide_test : Addr
 fd_l_wide_test : FuncData
 f_l_wide_rule : Addr
 fd_l_wide_rule : FuncData
 f_l_is_number : Addr
 fd_l_is_number : FuncData
 f_l_is_rule : Addr
 fd_l_is_rule : FuncData
 f_l_bent : Addr
 fd_l_bent : FuncData
 f_l_odd : Addr
 fd_l_odd : FuncData
 f_l_lines : Addr
 fd_l_lines : FuncData
 f_law : Addr
 fd_law : FuncData
 u_AMOUNT_WORDS : Value
 w_AMOUNT_WORDS : V
 u_BARE_WORDS : Value
 w_BARE_WORDS : V
 u_DEED_WORDS : Value
 w_DEED_WORDS : V
 u_FIGURES : Value
 w_FIGURES : V
 u_FILL_WORDS : Value
 w_FILL_WORDS : V
 u_MOST_FIGURES : Value
 w_MOST_FIGURES : V
 u_MOST_NUMBER : Value
 w_MOST_NUMBER : V
 u_MOST_RULES : Value
 w_MOST_RULES : V
 u_MOST_TESTS : Value
 w_MOST_TESTS : V
 u_PRICE_WORDS : Value
 w_PRICE_WORDS : V
 u_TAKE_WORDS : Value
 w_TAKE_WORDS : V
 u_WORK_WORDS : Value
 w_WORK_WORDS : V
 C_NoText : Addr
 C_StoreError : Addr
 C_NoLine : Addr
 C_NoKeeper : Addr
 C_NoFraction : Addr
 C_NoPrices : Addr
 f_init : Addr
 fd_init : FuncData
structure Txt (K : PySem.W.Frag) (mg : Str -> Option Value) (a : Ads) : Prop where
 F_common_divisor : Fun K "common_divisor" "common_divisor" s_common_divisor a.f_common_divisor a.fd_common_divisor
 m_common_divisor : mg "common_divisor" = some (.ref a.f_common_divisor)
 b_common_divisor : Binds K a.fd_common_divisor ["one", "other"] []
 F_fraction : Fun K "fraction" "fraction" s_fraction a.f_fraction a.fd_fraction
 m_fraction : mg "fraction" = some (.ref a.f_fraction)
 b_fraction : Binds K a.fd_fraction ["top", "bottom"] []
 F_figures_of : Fun K "figures_of" "figures_of" s_figures_of a.f_figures_of a.fd_figures_of
 m_figures_of : mg "figures_of" = some (.ref a.f_figures_of)
 b_figures_of : Binds K a.fd_figures_of ["number"] []
 F_written : Fun K "written" "written" s_written a.f_written a.fd_written
 m_written : mg "written" = some (.ref a.f_written)
 b_written : Binds K a.fd_written ["one"] []
 F_read_figures : Fun K "read_figures" "read_figures" s_read_figures a.f_read_figures a.fd_read_figures
 m_read_figures : mg "read_figures" = some (.ref a.f_read_figures)
 b_read_figures : Binds K a.fd_read_figures ["text"] []
 F_read_signed : Fun K "read_signed" "read_signed" s_read_signed a.f_read_signed a.fd_read_signed
 m_read_signed : mg "read_signed" = some (.ref a.f_read_signed)
 b_read_signed : Binds K a.fd_read_signed ["text"] []
 F_read_fraction : Fun K "read_fraction" "read_fraction" s_read_fraction a.f_read_fraction a.fd_read_fraction
 m_read_fraction : mg "read_fraction" = some (.ref a.f_read_fraction)
 b_read_fraction : Binds K a.fd_read_fraction ["text"] []
 F_read_bound : Fun K "read_bound" "read_bound" s_read_bound a.f_read_bound a.fd_read_bound
 m_read_bound : mg "read_bound" = some (.ref a.f_read_bound)
 b_read_bound : Binds K a.fd_read_bound ["word", "least"] []
 F_read_test : Fun K "read_test" "read_test" s_read_test a.f_read_test a.fd_read_test
 m_read_test : mg "read_test" = some (.ref a.f_read_test)
 b_read_test : Binds K a.fd_read_test ["words"] []
 F_read_tests : Fun K "read_tests" "read_tests" s_read_tests a.f_read_tests a.fd_read_tests
 m_read_tests : mg "read_tests" = some (.ref a.f_read_tests)
 b_read_tests : Binds K a.fd_read_tests ["words"] []
 F_read_deeds : Fun K "read_deeds" "read_deeds" s_read_deeds a.f_read_deeds a.fd_read_deeds
 m_read_deeds : mg "read_deeds" = some (.ref a.f_read_deeds)
 b_read_deeds : Binds K a.fd_read_deeds ["words"] []
 F_read_rule : Fun K "read_rule" "read_rule" s_read_rule a.f_read_rule a.fd_read_rule
 m_read_rule : mg "read_rule" = some (.ref a.f_read_rule)
 b_read_rule : Binds K a.fd_read_rule ["line"] []
 F_read_keeper : Fun K "read_keeper" "read_keeper" s_read_keeper a.f_read_keeper a.fd_read_keeper
 m_read_keeper : mg "read_keeper" = some (.ref a.f_read_keeper)
 b_read_keeper : Binds K a.fd_read_keeper ["lines"] []
 F_l_mixed : Fun K "_law_mixed" "_law_mixed" s_l_mixed a.f_l_mixed a.fd_l_mixed
 m_l_mixed : mg "_law_mixed" = some (.ref a.f_l_mixed)
 b_l_mixed : Binds K a.fd_l_mixed ["_law_script", "_law_k"] []
 F_l_rule_line : Fun K "_law_rule_line" "_law_rule_line" s_l_rule_line a.f_l_rule_line a.fd_l_rule_line
 m_l_rule_line : mg "_law_rule_line" = some (.ref a.f_l_rule_line)
 b_l_rule_line : Binds K a.fd_l_rule_line ["_law_rule"] []
 F_l_wide_test : Fun K "_law_wide_test" "_law_wide_test" s_l_wide_test a.f_l_wide_test a.fd_l_wide_test
 m_l_wide_test : mg "_law_wide_test" = some (.ref a.f_l_wide_test)
 b_l_wide_test : Binds K a.fd_l_wide_test ["_law_script", "_law_k"] []
 F_l_wide_rule : Fun K "_law_wide_rule" "_law_wide_rule" s_l_wide_rule a.f_l_wide_rule a.fd_l_wide_rule
 m_l_wide_rule : mg "_law_wide_rule" = some (.ref a.f_l_wide_rule)
 b_l_wide_rule : Binds K a.fd_l_wide_rule ["_law_script", "_law_k"] []
 F_l_is_number : Fun K "_law_is_number" "_law_is_number" s_l_is_number a.f_l_is_number a.fd_l_is_number
 m_l_is_number : mg "_law_is_number" = some (.ref a.f_l_is_number)
 b_l_is_number : Binds K a.fd_l_is_number ["_law_word", "_law_below"] []
 F_l_is_rule : Fun K "_law_is_rule" "_law_is_rule" s_l_is_rule a.f_l_is_rule a.fd_l_is_rule
 m_l_is_rule : mg "_law_is_rule" = some (.ref a.f_l_is_rule)
 b_l_is_rule : Binds K a.fd_l_is_rule ["_law_line"] []
 F_l_bent : Fun K "_law_bent" "_law_bent" s_l_bent a.f_l_bent a.fd_l_bent
 m_l_bent : mg "_law_bent" = some (.ref a.f_l_bent)
 b_l_bent : Binds K a.fd_l_bent ["_law_line", "_law_by", "_law_more"] []
 F_l_odd : Fun K "_law_odd" "_law_odd" s_l_odd a.f_l_odd a.fd_l_odd
 m_l_odd : mg "_law_odd" = some (.ref a.f_l_odd)
 b_l_odd : Binds K a.fd_l_odd ["_law_by"] []
 F_l_lines : Fun K "_law_lines" "_law_lines" s_l_lines a.f_l_lines a.fd_l_lines
 m_l_lines : mg "_law_lines" = some (.ref a.f_l_lines)
 b_l_lines : Binds K a.fd_l_lines ["_law_script"] []
 F_law : Fun K "law" "law" s_law a.f_law a.fd_law
 m_law : mg "law" = some (.ref a.f_law)
 b_law : Binds K a.fd_law ["_law_script"] []
 n_ValueError : mg "ValueError" = none
 n_abs : mg "abs" = none
 n_bool : mg "bool" = none
 n_enumerate : mg "enumerate" = none
 n_int : mg "int" = none
 n_isinstance : mg "isinstance" = none
 n_len : mg "len" = none
 n_range : mg "range" = none
 n_str : mg "str" = none
 n_tuple : mg "tuple" = none
 xm_NoText : mg "NoText" = some (.ref a.C_NoText)
 xm_StoreError : mg "StoreError" = some (.ref a.C_StoreError)
 xm_NoLine : mg "NoLine" = some (.ref a.C_NoLine)
 xm_NoKeeper : mg "NoKeeper" = some (.ref a.C_NoKeeper)
 xm_NoFraction : mg "NoFraction" = some (.ref a.C_NoFraction)
 xm_NoPrices : mg "NoPrices" = some (.ref a.C_NoPrices)
 xK : ExcK K a.C_NoText a.C_StoreError a.f_init "place"
 xC : ExcC K a.C_NoText
 xk : PySem.W.keepIn K (.ref a.C_NoText) = true
 xF : Fun K "__init__" "NoText.__init__" s_init a.f_init a.fd_init
 xb : Binds K a.fd_init ["self", "place"] []
 xB : ∃ (nm qn : Str) (N : Addr) (bs tl : List Value) (hd : Bool) (sn : List Str) (sub : List Value) (ab : Bool) (col : Option Bool) (dd : Option Addr) (k0 k1 k2 k3 k5 : Option Value) (nid : String), K.lookup a.C_StoreError = some (excClassObj nm qn a.C_StoreError N bs tl hd sn sub ab col dd k0 k1 k2 k3 k5 nid) /\ tl.contains (.type "BaseException") = true
 kit_ValueError : PySem.W.kitOne K (.ref a.C_NoText) (.type "ValueError") = some true
 kit0_ValueError : PySem.W.kitOne K (.type "NoneType") (.type "ValueError") = some false
 kit_NoText : PySem.W.kitOne K (.ref a.C_NoText) (.ref a.C_NoText) = some true
 kit0_NoText : PySem.W.kitOne K (.type "NoneType") (.ref a.C_NoText) = some false
 kit_NoLine : PySem.W.kitOne K (.ref a.C_NoText) (.ref a.C_NoLine) = some false
 kit0_NoLine : PySem.W.kitOne K (.type "NoneType") (.ref a.C_NoLine) = some false
 kit_NoKeeper : PySem.W.kitOne K (.ref a.C_NoText) (.ref a.C_NoKeeper) = some false
 kit0_NoKeeper : PySem.W.kitOne K (.type "NoneType") (.ref a.C_NoKeeper) = some false
 kit_NoFraction : PySem.W.kitOne K (.ref a.C_NoText) (.ref a.C_NoFraction) = some false
 kit0_NoFraction : PySem.W.kitOne K (.type "NoneType") (.ref a.C_NoFraction) = some false
 kit_NoPrices : PySem.W.kitOne K (.ref a.C_NoText) (.ref a.C_NoPrices) = some false
 kit0_NoPrices : PySem.W.kitOne K (.type "NoneType") (.ref a.C_NoPrices) = some false
 v_AMOUNT_WORDS : mg "AMOUNT_WORDS" = some a.u_AMOUNT_WORDS /\ RelV a.w_AMOUNT_WORDS a.u_AMOUNT_WORDS /\ ∀ H, Dt K H a.w_AMOUNT_WORDS c_AMOUNT_WORDS
 v_BARE_WORDS : mg "BARE_WORDS" = some a.u_BARE_WORDS /\ RelV a.w_BARE_WORDS a.u_BARE_WORDS /\ ∀ H, Dt K H a.w_BARE_WORDS c_BARE_WORDS
 v_DEED_WORDS : mg "DEED_WORDS" = some a.u_DEED_WORDS /\ RelV a.w_DEED_WORDS a.u_DEED_WORDS /\ ∀ H, Dt K H a.w_DEED_WORDS c_DEED_WORDS
 v_FIGURES : mg "FIGURES" = some a.u_FIGURES /\ RelV a.w_FIGURES a.u_FIGURES /\ ∀ H, Dt K H a.w_FIGURES c_FIGURES
 v_FILL_WORDS : mg "FILL_WORDS" = some a.u_FILL_WORDS /\ RelV a.w_FILL_WORDS a.u_FILL_WORDS /\ ∀ H, Dt K H a.w_FILL_WORDS c_FILL_WORDS
 v_MOST_FIGURES : mg "MOST_FIGURES" = some a.u_MOST_FIGURES /\ RelV a.w_MOST_FIGURES a.u_MOST_FIGURES /\ ∀ H, Dt K H a.w_MOST_FIGURES c_MOST_FIGURES
 v_MOST_NUMBER : mg "MOST_NUMBER" = some a.u_MOST_NUMBER /\ RelV a.w_MOST_NUMBER a.u_MOST_NUMBER /\ ∀ H, Dt K H a.w_MOST_NUMBER c_MOST_NUMBER
 v_MOST_RULES : mg "MOST_RULES" = some a.u_MOST_RULES /\ RelV a.w_MOST_RULES a.u_MOST_RULES /\ ∀ H, Dt K H a.w_MOST_RULES c_MOST_RULES
 v_MOST_TESTS : mg "MOST_TESTS" = some a.u_MOST_TESTS /\ RelV a.w_MOST_TESTS a.u_MOST_TESTS /\ ∀ H, Dt K H a.w_MOST_TESTS c_MOST_TESTS
 v_PRICE_WORDS : mg "PRICE_WORDS" = some a.u_PRICE_WORDS /\ RelV a.w_PRICE_WORDS a.u_PRICE_WORDS /\ ∀ H, Dt K H a.w_PRICE_WORDS c_PRICE_WORDS
 v_TAKE_WORDS : mg "TAKE_WORDS" = some a.u_TAKE_WORDS /\ RelV a.w_TAKE_WORDS a.u_TAKE_WORDS /\ ∀ H, Dt K H a.w_TAKE_WORDS c_TAKE_WORDS
 v_WORK_WORDS : mg "WORK_WORDS" = some a.u_WORK_WORDS /\ RelV a.w_WORK_WORDS a.u_WORK_WORDS /\ ∀ H, Dt K H a.w_WORK_WORDS c_WORK_WORDS
section
variable {P : Program} {w : World} {K : PySem.W.Frag} {mg : Str -> Option Value} {base : Heap} {ad : Ads}
theorem ok_common_divisor (T : Txt K mg ad) : FnOk P w K mg base CX0 1 ad.f_common_divisor ad.fd_common_divisor ["one", "other"] (spF K F_common_divisor) := by
 exact T.F_common_divisor.okF (k := 0) sc_common_divisor (by decide) fun cdv A outer s H E hr => ⟨_, (pssx_cons (psx_while (muAbs 1) PassesOwn.never (ptx_cmp (fr := true) (r := rNeX K) (op_neX hr.units) x_ne (nomark _) (px_var 1 (pv 1)) px_int) (pssx_cons (psx_setD (i := 2) sc_common_divisor.nd rfl (Or.inl rfl) (px_op op_modN x_mod (px_var 0 (pv 0)) (px_var 1 (pv 1)))) (pssx_cons (psx_setD (i := 0) sc_common_divisor.nd rfl (Or.inl rfl) (px_var 1 (pv 1))) (pssx_one (psx_setD (i := 1) sc_common_divisor.nd rfl (Or.inl rfl) (px_var 2 (pv 2))))))) (pssx_one (psx_retV 0 (pv 0))))⟩
theorem ok_fraction (T : Txt K mg ad) : FnOk P w K mg base CX0 2 ad.f_fraction ad.fd_fraction ["top", "bottom"] (spF K F_fraction) := by
 have G_common_divisor : FnOk P w K mg base CX0 1 _ _ _ (spF K F_common_divisor) := ok_common_divisor T
 exact T.F_fraction.okF (k := 1) sc_fraction (by decide) fun cdv A outer s H E hr => ⟨_, (pssx_cons (psx_if (ptx_cmp (fr := true) (r := rEqX K) (op_eqX hr.units) x_eq (nomark _) (px_var 1 (pv 1)) px_int) (pssx_one psx_never) pssx_nil) (pssx_cons (psx_setD (i := 2) sc_fraction.nd rfl (Or.inl rfl) (px_callK rfl G_common_divisor (hr.mono (by omega)) rfl T.m_common_divisor T.F_common_divisor.kp T.b_common_divisor pass0 (pax_cons (px_callB call_abs x_abs rfl T.n_abs bt_abs (pax_cons (px_var 0 (pv 0)) pax_nil)) (pax_cons (px_callB call_abs x_abs rfl T.n_abs bt_abs (pax_cons (px_var 1 (pv 1)) pax_nil)) pax_nil)))) (pssx_cons (psx_if (ptx_cmp (fr := true) op_lt x_lt (nomark _) (px_var 1 (pv 1)) px_int) (pssx_one (psx_setD (i := 2) sc_fraction.nd rfl (Or.inl rfl) (px_un un_neg x_neg (px_var 2 (pv 2))))) pssx_nil) (pssx_one (psx_ret (fr := true) (px_tup (pax_cons (px_op op_fdivB x_fdiv (px_var 0 (pv 0)) (px_var 2 (pv 2))) (pax_cons (px_op op_fdivB x_fdiv (px_var 1 (pv 1)) (px_var 2 (pv 2))) pax_nil))))))))⟩
theorem ok_figures_of (T : Txt K mg ad) : FnOk P w K mg base CX0 1 ad.f_figures_of ad.fd_figures_of ["number"] (spF K F_figures_of) := by
 exact T.F_figures_of.okF (k := 0) sc_figures_of (by decide) fun cdv A outer s H E hr => ⟨_, (pssx_cons (psx_setD (i := 1) sc_figures_of.nd rfl (Or.inl rfl) (px_op op_pow x_pow px_int px_int)) (pssx_cons (psx_set (i := 2) sc_figures_of.nd rfl (Or.inl rfl) (px_lst pax_nil)) (pssx_cons (psx_setD (i := 3) sc_figures_of.nd rfl (Or.inl rfl) (px_var 0 (pv 0))) (pssx_cons (psx_while (muAbs 3) PassesOwn.never (ptx_cmp (fr := true) op_ge x_ge (nomark _) (px_var 3 (pv 3)) (px_var 1 (pv 1))) (pssx_cons (psx_app 2 (pv 2) (px_sm (name := "zfill") (id := "str.zfill") F.slot_str_zfill F.type_str_zfill mt_zfill x_zfill (fun _ _ _ h => zfillD_str h) (px_callTy call_str_int x_str rfl T.n_str bt_str (pax_cons (px_op op_modN x_mod (px_var 3 (pv 3)) (px_var 1 (pv 1))) pax_nil)) (pax_cons px_int pax_nil))) (pssx_one (psx_setD (i := 3) sc_figures_of.nd rfl (Or.inl rfl) (px_op op_fdivB x_fdiv (px_var 3 (pv 3)) (px_var 1 (pv 1))))))) (pssx_cons (psx_app 2 (pv 2) (px_callTy call_str_int x_str rfl T.n_str bt_str (pax_cons (px_var 3 (pv 3)) pax_nil))) (pssx_cons (psx_rev 2 (pv 2)) (pssx_one (psx_ret (fr := false) (px_frz (px_sm (name := "join") (id := "str.join") F.slot_str_join F.type_str_join mt_join x_join (fun _ _ _ h => joinD_str h) px_str (pax_cons (px_var 2 (pv 2)) pax_nil)))))))))))⟩
theorem ok_written (T : Txt K mg ad) : FnOk P w K mg base CX0 2 ad.f_written ad.fd_written ["one"] (spF K F_written) := by
 have G_figures_of : FnOk P w K mg base CX0 1 _ _ _ (spF K F_figures_of) := ok_figures_of T
 exact T.F_written.okF (k := 1) sc_written (by decide) fun cdv A outer s H E hr => ⟨_, (pssx_cons (psx_setD (i := 1) sc_written.nd rfl (Or.inl rfl) (px_callK rfl G_figures_of (hr.mono (by omega)) rfl T.m_figures_of T.F_figures_of.kp T.b_figures_of pass0 (pax_cons (px_callB call_abs x_abs rfl T.n_abs bt_abs (pax_cons (px_ix (r := rIx K) ix_seq x_ix (px_var 0 (pv 0)) px_int (fun _ _ => rfl)) pax_nil)) pax_nil))) (pssx_cons (psx_if (ptx_cmp (fr := true) op_lt x_lt (nomark _) (px_ix (r := rIx K) ix_seq x_ix (px_var 0 (pv 0)) px_int (fun _ _ => rfl)) px_int) (pssx_one (psx_setD (i := 1) sc_written.nd rfl (Or.inl rfl) (px_op (r := rAddX K) op_addX x_add px_str (px_var 1 (pv 1))))) pssx_nil) (pssx_cons (psx_if (ptx_cmp (fr := true) (r := rNeX K) (op_neX hr.units) x_ne (nomark _) (px_ix (r := rIx K) ix_seq x_ix (px_var 0 (pv 0)) px_int (fun _ _ => rfl)) px_int) (pssx_one (psx_setD (i := 1) sc_written.nd rfl (Or.inl rfl) (px_op (r := rAddX K) op_addX x_add (px_op (r := rAddX K) op_addX x_add (px_var 1 (pv 1)) px_str) (px_callK rfl G_figures_of (hr.mono (by omega)) rfl T.m_figures_of T.F_figures_of.kp T.b_figures_of pass0 (pax_cons (px_ix (r := rIx K) ix_seq x_ix (px_var 0 (pv 0)) px_int (fun _ _ => rfl)) pax_nil))))) pssx_nil) (pssx_one (psx_retV 1 (pv 1))))))⟩
theorem ok_read_figures (T : Txt K mg ad) : FnOk P w K mg base CX0 1 ad.f_read_figures ad.fd_read_figures ["text"] (spF K F_read_figures) := by
 exact T.F_read_figures.okF (k := 0) sc_read_figures (by decide) fun cdv A outer s H E hr => ⟨_, (pssx_cons (psx_if (PWX.pt (pwx_or (ptx_cmp (fr := true) (r := rEqX K) (op_eqX hr.units) x_eq (nomark _) (px_var 0 (pv 0)) px_str) (pwx_or1 (ptx_cmp (fr := true) op_gt x_gt (nomark _) (px_callB (r := rLen K) call_lenX x_len rfl T.n_len bt_len (pax_cons (px_var 0 (pv 0)) pax_nil)) (px_const rfl T.v_MOST_FIGURES))))) (pssx_one (psx_ret (fr := true) px_non)) pssx_nil) (pssx_cons (psx_for PassesOwn.never rfl (pix_any (px_var 0 (pv 0))) (pg_name (i := 1) sc_read_figures.nd rfl (Or.inl rfl)) tgx_name (pssx_one (psx_if (ptx_cmp (fr := true) (r := rInA K true) op_notInA x_notInA (by with_unfolding_all rfl) (px_var 1 (pv 1)) (px_const rfl T.v_FIGURES)) (pssx_one (psx_ret (fr := true) px_non)) pssx_nil))) (pssx_one (psx_ret (fr := true) (px_callTy (call_int1.or call_intS) (x_int.or x_intS) rfl T.n_int bt_int (pax_cons (px_var 0 (pv 0)) pax_nil))))))⟩
theorem ok_read_signed (T : Txt K mg ad) : FnOk P w K mg base CX0 2 ad.f_read_signed ad.fd_read_signed ["text"] (spF K F_read_signed) := by
 have G_read_figures : FnOk P w K mg base CX0 1 _ _ _ (spF K F_read_figures) := ok_read_figures T
 exact T.F_read_signed.okF (k := 1) sc_read_signed (by decide) fun cdv A outer s H E hr => ⟨_, (pssx_cons (psx_if (ptx_not (ptx_val (fr := true) (px_sm (name := "startswith") (id := "str.startswith") F.slot_str_startswith F.type_str_startswith mt_starts x_starts (fun _ _ _ h => startsD_str h) (px_var 0 (pv 0)) (pax_cons px_str pax_nil)))) (pssx_one (psx_ret (fr := true) (px_callK rfl G_read_figures (hr.mono (by omega)) rfl T.m_read_figures T.F_read_figures.kp T.b_read_figures pass0 (pax_cons (px_var 0 (pv 0)) pax_nil)))) pssx_nil) (pssx_cons (psx_setD (i := 1) sc_read_signed.nd rfl (Or.inl rfl) (px_callK rfl G_read_figures (hr.mono (by omega)) rfl T.m_read_figures T.F_read_figures.kp T.b_read_figures pass0 (pax_cons (px_slice (r := rSlA K) sl_any x_slA (px_var 0 (pv 0)) (pox_some (fr := true) px_int) pox_none) pax_nil))) (pssx_cons (psx_if (ptx_cmp (fr := true) op_isN x_is (nomark _) (px_var 1 (pv 1)) px_non) (pssx_one (psx_ret (fr := true) px_non)) pssx_nil) (pssx_one (psx_ret (fr := true) (px_un un_neg x_neg (px_var 1 (pv 1))))))))⟩
theorem ok_read_fraction (T : Txt K mg ad) : FnOk P w K mg base CX0 3 ad.f_read_fraction ad.fd_read_fraction ["text"] (spF K F_read_fraction) := by
 have G_fraction : FnOk P w K mg base CX0 2 _ _ _ (spF K F_fraction) := ok_fraction T
 have G_read_figures : FnOk P w K mg base CX0 1 _ _ _ (spF K F_read_figures) := ok_read_figures T
 have G_read_signed : FnOk P w K mg base CX0 2 _ _ _ (spF K F_read_signed) := ok_read_signed T
 have G_written : FnOk P w K mg base CX0 2 _ _ _ (spF K F_written) := ok_written T
 exact T.F_read_fraction.okF (k := 2) sc_read_fraction (by decide) fun cdv A outer s H E hr => ⟨_, (pssx_cons (psx_setD (i := 1) sc_read_fraction.nd rfl (Or.inl rfl) (px_sm (name := "partition") (id := "str.partition") F.slot_str_partition F.type_str_partition mt_part x_part (fun _ _ _ h => partD_str h) (px_var 0 (pv 0)) (pax_cons px_str pax_nil))) (pssx_cons (psx_setD (i := 2) sc_read_fraction.nd rfl (Or.inl rfl) (px_callK rfl G_read_signed (hr.mono (by omega)) rfl T.m_read_signed T.F_read_signed.kp T.b_read_signed pass0 (pax_cons (px_ix (r := rIx K) ix_seq x_ix (px_var 1 (pv 1)) px_int (fun _ _ => rfl)) pax_nil))) (pssx_cons (psx_setD (i := 3) sc_read_fraction.nd rfl (Or.inl rfl) px_int) (pssx_cons (psx_if (ptx_cmp (fr := true) (r := rEqX K) (op_eqX hr.units) x_eq (nomark _) (px_ix (r := rIx K) ix_seq x_ix (px_var 1 (pv 1)) px_int (fun _ _ => rfl)) px_str) (pssx_one (psx_setD (i := 3) sc_read_fraction.nd rfl (Or.inl rfl) (px_callK rfl G_read_figures (hr.mono (by omega)) rfl T.m_read_figures T.F_read_figures.kp T.b_read_figures pass0 (pax_cons (px_ix (r := rIx K) ix_seq x_ix (px_var 1 (pv 1)) px_int (fun _ _ => rfl)) pax_nil)))) pssx_nil) (pssx_cons (psx_if (PWX.pt (pwx_or (ptx_cmp (fr := true) op_isN x_is (nomark _) (px_var 2 (pv 2)) px_non) (pwx_or (ptx_cmp (fr := true) op_isN x_is (nomark _) (px_var 3 (pv 3)) px_non) (pwx_or1 (ptx_cmp (fr := true) (r := rEqX K) (op_eqX hr.units) x_eq (nomark _) (px_var 3 (pv 3)) px_int))))) (pssx_one (psx_ret (fr := true) px_non)) pssx_nil) (pssx_cons (psx_setD (i := 4) sc_read_fraction.nd rfl (Or.inl rfl) (px_callK rfl G_fraction (hr.mono (by omega)) rfl T.m_fraction T.F_fraction.kp T.b_fraction pass0 (pax_cons (px_var 2 (pv 2)) (pax_cons (px_var 3 (pv 3)) pax_nil)))) (pssx_cons (psx_if (ptx_cmp (fr := true) (r := rNeX K) (op_neX hr.units) x_ne (nomark _) (px_callK rfl G_written (hr.mono (by omega)) rfl T.m_written T.F_written.kp T.b_written pass0 (pax_cons (px_var 4 (pv 4)) pax_nil)) (px_var 0 (pv 0))) (pssx_one (psx_ret (fr := true) px_non)) pssx_nil) (pssx_one (psx_retV 4 (pv 4))))))))))⟩
theorem ok_read_bound (T : Txt K mg ad) : FnOk P w K mg base CX0 4 ad.f_read_bound ad.fd_read_bound ["word", "least"] (spF K F_read_bound) := by
 have G_read_fraction : FnOk P w K mg base CX0 3 _ _ _ (spF K F_read_fraction) := ok_read_fraction T
 exact T.F_read_bound.okF (k := 3) sc_read_bound (by decide) fun cdv A outer s H E hr => ⟨_, (pssx_cons (psx_setD (i := 2) sc_read_bound.nd rfl (Or.inl rfl) (px_callK rfl G_read_fraction (hr.mono (by omega)) rfl T.m_read_fraction T.F_read_fraction.kp T.b_read_fraction pass0 (pax_cons (px_var 0 (pv 0)) pax_nil))) (pssx_cons (psx_if (PWX.pt (pwx_or (ptx_cmp (fr := true) op_isN x_is (nomark _) (px_var 2 (pv 2)) px_non) (pwx_or (ptx_cmp (fr := true) (r := rNeX K) (op_neX hr.units) x_ne (nomark _) (px_ix (r := rIx K) ix_seq x_ix (px_var 2 (pv 2)) px_int (fun _ _ => rfl)) px_int) (pwx_or (ptx_cmp (fr := true) op_lt x_lt (nomark _) (px_ix (r := rIx K) ix_seq x_ix (px_var 2 (pv 2)) px_int (fun _ _ => rfl)) (px_var 1 (pv 1))) (pwx_or1 (ptx_cmp (fr := true) op_gt x_gt (nomark _) (px_ix (r := rIx K) ix_seq x_ix (px_var 2 (pv 2)) px_int (fun _ _ => rfl)) (px_const rfl T.v_MOST_NUMBER))))))) (pssx_one (psx_ret (fr := true) px_non)) pssx_nil) (pssx_one (psx_ret (fr := true) (px_ix (r := rIx K) ix_seq x_ix (px_var 2 (pv 2)) px_int (fun _ _ => rfl))))))⟩
theorem ok_read_test (T : Txt K mg ad) : FnOk P w K mg base CX0 5 ad.f_read_test ad.fd_read_test ["words"] (spF K F_read_test) := by
 have G_read_bound : FnOk P w K mg base CX0 4 _ _ _ (spF K F_read_bound) := ok_read_bound T
 exact T.F_read_test.okF (k := 4) sc_read_test (by decide) fun cdv A outer s H E hr => ⟨_, (pssx_cons (psx_if (ptx_cmp (fr := true) (r := rInA K false) op_inA x_inA (by with_unfolding_all rfl) (px_ix (r := rIx K) ix_seq x_ix (px_var 0 (pv 0)) px_int (fun _ _ => rfl)) (px_const rfl T.v_BARE_WORDS)) (pssx_one (psx_ret (fr := true) (px_tup (pax_cons (px_ix (r := rIx K) ix_seq x_ix (px_var 0 (pv 0)) px_int (fun _ _ => rfl)) pax_nil)))) pssx_nil) (pssx_cons (psx_setD (i := 1) sc_read_test.nd rfl (Or.inl rfl) px_non) (pssx_cons (psx_if (PWX.pt (pwx_and (ptx_cmp (fr := true) (r := rInA K false) op_inA x_inA (by with_unfolding_all rfl) (px_ix (r := rIx K) ix_seq x_ix (px_var 0 (pv 0)) px_int (fun _ _ => rfl)) (px_const rfl T.v_AMOUNT_WORDS)) (pwx_and1 (ptx_cmp (fr := true) op_gt x_gt (nomark _) (px_callB (r := rLen K) call_lenX x_len rfl T.n_len bt_len (pax_cons (px_var 0 (pv 0)) pax_nil)) px_int)))) (pssx_one (psx_setD (i := 1) sc_read_test.nd rfl (Or.inl rfl) (px_callK rfl G_read_bound (hr.mono (by omega)) rfl T.m_read_bound T.F_read_bound.kp T.b_read_bound pass0 (pax_cons (px_ix (r := rIx K) ix_seq x_ix (px_var 0 (pv 0)) px_int (fun _ _ => rfl)) (pax_cons px_int pax_nil))))) pssx_nil) (pssx_cons (psx_if (PWX.pt (pwx_and (ptx_cmp (fr := true) (r := rInA K false) op_inA x_inA (by with_unfolding_all rfl) (px_ix (r := rIx K) ix_seq x_ix (px_var 0 (pv 0)) px_int (fun _ _ => rfl)) (px_const rfl T.v_PRICE_WORDS)) (pwx_and1 (ptx_cmp (fr := true) op_gt x_gt (nomark _) (px_callB (r := rLen K) call_lenX x_len rfl T.n_len bt_len (pax_cons (px_var 0 (pv 0)) pax_nil)) px_int)))) (pssx_one (psx_setD (i := 1) sc_read_test.nd rfl (Or.inl rfl) (px_callK rfl G_read_bound (hr.mono (by omega)) rfl T.m_read_bound T.F_read_bound.kp T.b_read_bound pass0 (pax_cons (px_ix (r := rIx K) ix_seq x_ix (px_var 0 (pv 0)) px_int (fun _ _ => rfl)) (pax_cons (px_un un_neg x_neg (px_const rfl T.v_MOST_NUMBER)) pax_nil))))) pssx_nil) (pssx_cons (psx_if (ptx_cmp (fr := true) op_isN x_is (nomark _) (px_var 1 (pv 1)) px_non) (pssx_one (psx_ret (fr := true) px_non)) pssx_nil) (pssx_one (psx_ret (fr := true) (px_tup (pax_cons (px_ix (r := rIx K) ix_seq x_ix (px_var 0 (pv 0)) px_int (fun _ _ => rfl)) (pax_cons (px_var 1 (pv 1)) pax_nil))))))))))⟩
theorem ok_read_tests (T : Txt K mg ad) : FnOk P w K mg base CX0 6 ad.f_read_tests ad.fd_read_tests ["words"] (spF K F_read_tests) := by
 have G_read_test : FnOk P w K mg base CX0 5 _ _ _ (spF K F_read_test) := ok_read_test T
 exact T.F_read_tests.okF (k := 5) sc_read_tests (by decide) fun cdv A outer s H E hr => ⟨_, (pssx_cons (psx_set (i := 1) sc_read_tests.nd rfl (Or.inl rfl) (px_lst pax_nil)) (pssx_cons (psx_setD (i := 2) sc_read_tests.nd rfl (Or.inl rfl) px_int) (pssx_cons (psx_while (muLen 0) PassesOwn.never (ptx_cmp (fr := true) op_lt x_lt (nomark _) (px_var 2 (pv 2)) (px_callB (r := rLen K) call_lenX x_len rfl T.n_len bt_len (pax_cons (px_var 0 (pv 0)) pax_nil))) (pssx_cons (psx_setD (i := 3) sc_read_tests.nd rfl (Or.inl rfl) (px_callK rfl G_read_test (hr.mono (by omega)) rfl T.m_read_test T.F_read_test.kp T.b_read_test pass0 (pax_cons (px_slice (r := rSlA K) sl_any x_slA (px_var 0 (pv 0)) (pox_some (fr := true) (px_var 2 (pv 2))) pox_none) pax_nil))) (pssx_cons (psx_if (PWX.pt (pwx_or (ptx_cmp (fr := true) op_isN x_is (nomark _) (px_var 3 (pv 3)) px_non) (pwx_or1 (ptx_cmp (fr := false) (r := rEqX K) (op_eqX hr.units) x_eq (nomark _) (px_frz (px_callB (r := rLen K) call_lenX x_len rfl T.n_len bt_len (pax_cons (px_var 1 (pv 1)) pax_nil))) (px_frz (px_const rfl T.v_MOST_TESTS)))))) (pssx_one (psx_ret (fr := true) px_non)) pssx_nil) (pssx_cons (psx_app 1 (pv 1) (px_var 3 (pv 3))) (pssx_one (psx_setD (i := 2) sc_read_tests.nd rfl (Or.inl rfl) (px_op (r := rAddX K) op_addX x_add (px_var 2 (pv 2)) (px_callB (r := rLen K) call_lenX x_len rfl T.n_len bt_len (pax_cons (px_var 3 (pv 3)) pax_nil))))))))) (pssx_one (psx_ret (fr := false) (px_frz (px_callTy (r := rTupC K) call_tuple_of x_tuple rfl T.n_tuple bt_tuple (pax_cons (px_var 1 (pv 1)) pax_nil))))))))⟩
theorem ok_read_deeds (T : Txt K mg ad) : FnOk P w K mg base CX0 1 ad.f_read_deeds ad.fd_read_deeds ["words"] (spF K F_read_deeds) := by
 exact T.F_read_deeds.okF (k := 0) sc_read_deeds (by decide) fun cdv A outer s H E hr => ⟨_, (pssx_cons (psx_if (ptx_cmp (fr := true) (r := rNeX K) (op_neX hr.units) x_ne (nomark _) (px_slice3 (px_var 0 (pv 0)) (pox_some (fr := true) px_int) pox_none (pox_some (fr := true) px_int)) (px_lst (pax_cons px_str (pax_cons px_str (pax_cons px_str pax_nil))))) (pssx_one (psx_ret (fr := true) px_non)) pssx_nil) (pssx_cons (psx_setD (i := 1) sc_read_deeds.nd rfl (Or.inl rfl) (px_callTy (r := rTupC K) call_tuple_of x_tuple rfl T.n_tuple bt_tuple (pax_cons (px_slice3 (px_var 0 (pv 0)) (pox_some (fr := true) px_int) pox_none (pox_some (fr := true) px_int)) pax_nil))) (pssx_cons (psx_if (PWX.pt (pwx_or (ptx_cmp (fr := true) (r := rInA K true) op_notInA x_notInA (by with_unfolding_all rfl) (px_ix (r := rIx K) ix_seq x_ix (px_var 1 (pv 1)) px_int (fun _ _ => rfl)) (px_const rfl T.v_FILL_WORDS)) (pwx_or (ptx_cmp (fr := true) (r := rInA K true) op_notInA x_notInA (by with_unfolding_all rfl) (px_ix (r := rIx K) ix_seq x_ix (px_var 1 (pv 1)) px_int (fun _ _ => rfl)) (px_const rfl T.v_TAKE_WORDS)) (pwx_or1 (ptx_cmp (fr := true) (r := rInA K true) op_notInA x_notInA (by with_unfolding_all rfl) (px_ix (r := rIx K) ix_seq x_ix (px_var 1 (pv 1)) px_int (fun _ _ => rfl)) (px_const rfl T.v_WORK_WORDS)))))) (pssx_one (psx_ret (fr := true) px_non)) pssx_nil) (pssx_one (psx_retV 1 (pv 1))))))⟩
theorem ok_read_rule (T : Txt K mg ad) : FnOk P w K mg base CX0 7 ad.f_read_rule ad.fd_read_rule ["line"] (spF K F_read_rule) := by
 have G_read_deeds : FnOk P w K mg base CX0 1 _ _ _ (spF K F_read_deeds) := ok_read_deeds T
 have G_read_tests : FnOk P w K mg base CX0 6 _ _ _ (spF K F_read_tests) := ok_read_tests T
 exact T.F_read_rule.okF (k := 6) sc_read_rule (by decide) fun cdv A outer s H E hr => ⟨_, (pssx_cons (psx_setD (i := 1) sc_read_rule.nd rfl (Or.inl rfl) (px_sm (name := "split") (id := "str.split") F.slot_str_split F.type_str_split mt_split x_split (fun _ _ _ h => splitD_str h) (px_var 0 (pv 0)) (pax_cons px_str pax_nil))) (pssx_cons (psx_if (PWX.pt (pwx_or (ptx_cmp (fr := true) (r := rNeX K) (op_neX hr.units) x_ne (nomark _) (px_ix (r := rIx K) ix_seq x_ix (px_var 1 (pv 1)) px_int (fun _ _ => rfl)) px_str) (pwx_or1 (ptx_cmp (fr := true) op_le x_le (nomark _) (px_callB (r := rLen K) call_lenX x_len rfl T.n_len bt_len (pax_cons (px_var 1 (pv 1)) pax_nil)) (px_const rfl T.v_DEED_WORDS))))) (pssx_one (psx_ret (fr := true) px_non)) pssx_nil) (pssx_cons (psx_setD (i := 2) sc_read_rule.nd rfl (Or.inl rfl) (px_callK rfl G_read_tests (hr.mono (by omega)) rfl T.m_read_tests T.F_read_tests.kp T.b_read_tests pass0 (pax_cons (px_slice (r := rSlA K) sl_any x_slA (px_var 1 (pv 1)) (pox_some (fr := true) px_int) (pox_some (fr := true) (px_un un_neg x_neg (px_const rfl T.v_DEED_WORDS)))) pax_nil))) (pssx_cons (psx_setD (i := 3) sc_read_rule.nd rfl (Or.inl rfl) (px_callK rfl G_read_deeds (hr.mono (by omega)) rfl T.m_read_deeds T.F_read_deeds.kp T.b_read_deeds pass0 (pax_cons (px_slice (r := rSlA K) sl_any x_slA (px_var 1 (pv 1)) (pox_some (fr := true) (px_un un_neg x_neg (px_const rfl T.v_DEED_WORDS))) pox_none) pax_nil))) (pssx_cons (psx_if (PWX.pt (pwx_or (ptx_cmp (fr := true) op_isN x_is (nomark _) (px_var 2 (pv 2)) px_non) (pwx_or1 (ptx_cmp (fr := true) op_isN x_is (nomark _) (px_var 3 (pv 3)) px_non)))) (pssx_one (psx_ret (fr := true) px_non)) pssx_nil) (pssx_one (psx_ret (fr := true) (px_op (r := rAddX K) op_addX x_add (px_tup (pax_cons (px_var 2 (pv 2)) pax_nil)) (px_var 3 (pv 3))))))))))⟩
theorem ok_init (T : Txt K mg ad) : FnOk P w K mg base CX0 1 ad.f_init ad.fd_init ["self", "place"] (spInitP SmallV ad.C_NoText "place") := by
 refine T.xF.ok (k := 0) sc_init (fun vs H Q E h => ?_) fun cdv A outer s H vs Q E hr h => ⟨_, pss_cons (ps_expr (pe_baseInit T.xK rfl T.xm_StoreError (pa_cons (pv 0) (pa_cons (pe_fmt3 1 (pv 1) (by decide +kernel) (by decide +kernel)) pa_nil)) (pl := _))) (pss_one (ps_setE T.xK (pv 0) (pv 1))), ?_⟩
 . obtain ⟨ea, v, rfl, _⟩ := h
   rfl
 . obtain ⟨ea, v, rfl, ⟨i, rfl, hi⟩, hH, q⟩ := h
   exact ⟨.ref ea, rfl, i, rfl, hi, fun x => ⟨ea, _, none, rfl, hH, .int i, rfl, .ref ea, rfl, ea, rfl, hH, q⟩⟩
theorem okx_read_keeper (T : Txt K mg ad) : FnOk P w K mg base (CX1 P w) 8 ad.f_read_keeper ad.fd_read_keeper ["lines"] (spX K (FX_read_keeper ad.C_NoText)) := by
 have G_read_rule : FnOk P w K mg base CX0 7 _ _ _ (spF K F_read_rule) := ok_read_rule T
 have G_init : FnOk P w K mg base CX0 1 ad.f_init ad.fd_init ["self", "place"] (spInitP SmallV ad.C_NoText "place") := ok_init T
 exact T.F_read_keeper.okX (k := 7) sc_read_keeper (by decide) fun cdv A outer s H E hr => ⟨_, (pssx_cons (psx_set (i := 1) sc_read_keeper.nd rfl (Or.inl rfl) (px_lst pax_nil)) (pssx_cons (psx_for PassesOwn.leaving rfl (pix_enum rfl T.n_enumerate (pax_cons (px_var 0 (pv 0)) pax_nil)) (pg_tup (n := 2) rfl (pgs_cons (pg_name (i := 2) sc_read_keeper.nd rfl (Or.inl rfl)) (pgs_cons (pg_name (i := 3) sc_read_keeper.nd rfl (Or.inl rfl)) pgs_nil))) (tgx_tup (tgsx_cons (tgsx_cons tgsx_nil))) (pssx_cons (psx_setD (i := 4) sc_read_keeper.nd rfl (Or.inl rfl) (px_callK rfl G_read_rule (hr.mono (by omega)) rfl T.m_read_rule T.F_read_rule.kp T.b_read_rule pass0 (pax_cons (px_var 3 (pv 3)) pax_nil))) (pssx_cons (psx_if (PWX.pt (pwx_or (ptx_cmp (fr := true) op_isN x_is (nomark _) (px_var 4 (pv 4)) px_non) (pwx_or1 (ptx_cmp (fr := true) (r := rEqX K) (op_eqX hr.units) x_eq (nomark _) (px_var 2 (pv 2)) (px_const rfl T.v_MOST_RULES))))) (pssx_one (psx_raiseP (fr := true) small_dt T.xK T.xC G_init (hr.mono (by omega)) T.xb T.xk hr.hd rfl T.xm_NoText (pax_cons (px_var 2 (pv 2)) pax_nil))) pssx_nil) (pssx_one (psx_app 1 (pv 1) (px_var 4 (pv 4))))))) (pssx_one (psx_ret (fr := false) (px_frz (px_callTy (r := rTupC K) call_tuple_of x_tuple rfl T.n_tuple bt_tuple (pax_cons (px_var 1 (pv 1)) pax_nil)))))))⟩
theorem ok_l_mixed (T : Txt K mg ad) : FnOk P w K mg base CX0 1 ad.f_l_mixed ad.fd_l_mixed ["_law_script", "_law_k"] (spF K F_l_mixed) := by
 exact T.F_l_mixed.okF (k := 0) sc_l_mixed (by decide) fun cdv A outer s H E hr => ⟨_, (pssx_cons (psx_setD (i := 2) sc_l_mixed.nd rfl (Or.inl rfl) px_int) (pssx_cons (psx_if (ptx_cmp (fr := true) op_gt x_gt (nomark _) (px_callB (r := rLen K) call_lenX x_len rfl T.n_len bt_len (pax_cons (px_var 0 (pv 0)) pax_nil)) px_int) (pssx_cons (psx_setD (i := 2) sc_l_mixed.nd rfl (Or.inl rfl) (px_ix (r := rIx K) ix_seq x_ix (px_var 0 (pv 0)) (px_op op_modN x_mod (px_var 1 (pv 1)) (px_callB (r := rLen K) call_lenX x_len rfl T.n_len bt_len (pax_cons (px_var 0 (pv 0)) pax_nil))) (fun _ _ => rfl))) (pssx_one (psx_if (ptx_cmp (fr := true) (r := rEqX K) (op_eqX hr.units) x_eq (nomark _) (px_op op_modN x_mod (px_ix (r := rIx K) ix_seq x_ix (px_var 0 (pv 0)) px_int (fun _ _ => rfl)) px_int) px_int) (pssx_cons (psx_for PassesOwn.never rfl (pix_range1 rfl T.n_range (pax_cons (px_op op_modN x_mod (px_op op_fdivB x_fdiv (px_var 1 (pv 1)) (px_callB (r := rLen K) call_lenX x_len rfl T.n_len bt_len (pax_cons (px_var 0 (pv 0)) pax_nil))) px_int) pax_nil)) (pg_name (i := 3) sc_l_mixed.nd rfl (Or.inl rfl)) tgx_name (pssx_one (psx_setD (i := 2) sc_l_mixed.nd rfl (Or.inl rfl) (px_op op_fdivB x_fdiv (px_var 2 (pv 2)) px_int)))) (pssx_one (psx_ret (fr := true) (px_op op_modN x_mod (px_var 2 (pv 2)) px_int)))) pssx_nil))) pssx_nil) (pssx_cons (psx_setD (i := 4) sc_l_mixed.nd rfl (Or.inl rfl) (px_op op_modN x_mod (px_op (r := rAddX K) op_addX x_add (px_op (r := rAddX K) op_addX x_add (px_op op_mulB x_mul (px_op op_modN x_mod (px_var 2 (pv 2)) px_int) px_int) (px_op op_mulB x_mul (px_op op_mulB x_mul (px_var 1 (pv 1)) (px_var 1 (pv 1))) px_int)) px_int) px_int)) (pssx_cons (psx_setD (i := 4) sc_l_mixed.nd rfl (Or.inl rfl) (px_op op_modN x_mod (px_op (r := rAddX K) op_addX x_add (px_op op_mulB x_mul (px_var 4 (pv 4)) (px_var 4 (pv 4))) (px_var 1 (pv 1))) px_int)) (pssx_one (psx_ret (fr := true) (px_op op_modN x_mod (px_op (r := rAddX K) op_addX x_add (px_op op_mulB x_mul (px_op op_mulB x_mul (px_var 4 (pv 4)) (px_var 4 (pv 4))) px_int) (px_var 4 (pv 4))) px_int)))))))⟩
theorem ok_l_rule_line (T : Txt K mg ad) : FnOk P w K mg base CX0 1 ad.f_l_rule_line ad.fd_l_rule_line ["_law_rule"] (spF K F_l_rule_line) := by
 exact T.F_l_rule_line.okF (k := 0) sc_l_rule_line (by decide) fun cdv A outer s H E hr => ⟨_, (pssx_cons (psx_set (i := 1) sc_l_rule_line.nd rfl (Or.inl rfl) (px_lst (pax_cons px_str pax_nil))) (pssx_cons (psx_for PassesOwn.never rfl (pix_any (px_ix (r := rIx K) ix_seq x_ix (px_var 0 (pv 0)) px_int (fun _ _ => rfl))) (pg_name (i := 2) sc_l_rule_line.nd rfl (Or.inl rfl)) tgx_name (pssx_one (psx_ext 1 (pv 1) (px_comp (bs := ["_law_part"]) (nb := ["_law_rule", "_law_words", "_law_test"]) rfl (blk_of rfl) (pix_any (px_var 2 (pv 2))) (gown_name (by decide)) (fun _ _ _ _ _ _ => (pg_name (i := 0) (show List.Nodup (["_law_part", "_law_rule", "_law_words", "_law_test"] : List Str) by decide +kernel) rfl (Or.inl rfl) (Or.inr rfl))) tgb_name (fun _ _ _ _ _ _ => pifsx_nil) (fun _ _ _ _ _ _ => (px_callTy (call_str_int.or call_str_str) (x_str.or x_strS) rfl T.n_str bt_str (pax_cons (px_var 0 (pv 0)) pax_nil))))))) (pssx_one (psx_ret (fr := false) (px_frz (px_sm (name := "join") (id := "str.join") F.slot_str_join F.type_str_join mt_join x_join (fun _ _ _ h => joinD_str h) px_str (pax_cons (px_op (r := rAddX K) op_addX x_add (px_var 1 (pv 1)) (px_lst (pax_cons px_str (pax_cons (px_ix (r := rIx K) ix_seq x_ix (px_var 0 (pv 0)) px_int (fun _ _ => rfl)) (pax_cons px_str (pax_cons (px_ix (r := rIx K) ix_seq x_ix (px_var 0 (pv 0)) px_int (fun _ _ => rfl)) (pax_cons px_str (pax_cons (px_ix (r := rIx K) ix_seq x_ix (px_var 0 (pv 0)) px_int (fun _ _ => rfl)) pax_nil)))))))) pax_nil)))))))⟩
theorem ok_l_wide_test (T : Txt K mg ad) : FnOk P w K mg base CX0 2 ad.f_l_wide_test ad.fd_l_wide_test ["_law_script", "_law_k"] (spF K F_l_wide_test) := by
 have G_l_mixed : FnOk P w K mg base CX0 1 _ _ _ (spF K F_l_mixed) := ok_l_mixed T
 exact T.F_l_wide_test.okF (k := 1) sc_l_wide_test (by decide) fun cdv A outer s H E hr => ⟨_, (pssx_cons (psx_setD (i := 2) sc_l_wide_test.nd rfl (Or.inl rfl) (px_op op_modN x_mod (px_callK rfl G_l_mixed (hr.mono (by omega)) rfl T.m_l_mixed T.F_l_mixed.kp T.b_l_mixed pass0 (pax_cons (px_var 0 (pv 0)) (pax_cons (px_var 1 (pv 1)) pax_nil))) px_int)) (pssx_cons (psx_if (ptx_cmp (fr := true) op_gt x_gt (nomark _) (px_var 2 (pv 2)) px_int) (pssx_one (psx_ret (fr := true) (px_tup (pax_cons (px_ix (r := rIx K) ix_seq x_ix (px_lst (pax_cons px_str (pax_cons px_str pax_nil))) (px_op op_sub x_sub (px_var 2 (pv 2)) px_int) (fun _ _ => rfl)) pax_nil)))) pssx_nil) (pssx_cons (psx_setD (i := 3) sc_l_wide_test.nd rfl (Or.inl rfl) (px_op op_modN x_mod (px_op op_mulB x_mul (px_callK rfl G_l_mixed (hr.mono (by omega)) rfl T.m_l_mixed T.F_l_mixed.kp T.b_l_mixed pass0 (pax_cons (px_var 0 (pv 0)) (pax_cons (px_op (r := rAddX K) op_addX x_add (px_var 1 (pv 1)) px_int) pax_nil))) px_int) px_int)) (pssx_cons (psx_if (ptx_cmp (fr := true) (r := rEqX K) (op_eqX hr.units) x_eq (nomark _) (px_op op_modN x_mod (px_callK rfl G_l_mixed (hr.mono (by omega)) rfl T.m_l_mixed T.F_l_mixed.kp T.b_l_mixed pass0 (pax_cons (px_var 0 (pv 0)) (pax_cons (px_op (r := rAddX K) op_addX x_add (px_var 1 (pv 1)) px_int) pax_nil))) px_int) px_int) (pssx_one (psx_setD (i := 3) sc_l_wide_test.nd rfl (Or.inl rfl) (px_ix (r := rIx K) ix_seq x_ix (px_lst (pax_cons px_int (pax_cons px_int (pax_cons px_int (pax_cons px_int (pax_cons px_int pax_nil)))))) (px_op op_modN x_mod (px_callK rfl G_l_mixed (hr.mono (by omega)) rfl T.m_l_mixed T.F_l_mixed.kp T.b_l_mixed pass0 (pax_cons (px_var 0 (pv 0)) (pax_cons (px_op (r := rAddX K) op_addX x_add (px_var 1 (pv 1)) px_int) pax_nil))) px_int) (fun _ _ => rfl)))) pssx_nil) (pssx_cons (psx_if (PWX.pt (pwx_and (ptx_cmp (fr := true) op_gt x_gt (nomark _) (px_var 2 (pv 2)) px_int) (pwx_and1 (ptx_cmp (fr := true) (r := rEqX K) (op_eqX hr.units) x_eq (nomark _) (px_op op_modN x_mod (px_callK rfl G_l_mixed (hr.mono (by omega)) rfl T.m_l_mixed T.F_l_mixed.kp T.b_l_mixed pass0 (pax_cons (px_var 0 (pv 0)) (pax_cons (px_op (r := rAddX K) op_addX x_add (px_var 1 (pv 1)) px_int) pax_nil))) px_int) px_int)))) (pssx_one (psx_setD (i := 3) sc_l_wide_test.nd rfl (Or.inl rfl) (px_op op_sub x_sub px_int (px_var 3 (pv 3))))) pssx_nil) (pssx_one (psx_ret (fr := true) (px_tup (pax_cons (px_ix (r := rIx K) ix_seq x_ix (px_lst (pax_cons px_str (pax_cons px_str (pax_cons px_str (pax_cons px_str (pax_cons px_str (pax_cons px_str pax_nil))))))) (px_var 2 (pv 2)) (fun _ _ => rfl)) (pax_cons (px_var 3 (pv 3)) pax_nil))))))))))⟩
theorem ok_l_wide_rule (T : Txt K mg ad) : FnOk P w K mg base CX0 3 ad.f_l_wide_rule ad.fd_l_wide_rule ["_law_script", "_law_k"] (spF K F_l_wide_rule) := by
 have G_l_mixed : FnOk P w K mg base CX0 1 _ _ _ (spF K F_l_mixed) := ok_l_mixed T
 have G_l_wide_test : FnOk P w K mg base CX0 2 _ _ _ (spF K F_l_wide_test) := ok_l_wide_test T
 exact T.F_l_wide_rule.okF (k := 2) sc_l_wide_rule (by decide) fun cdv A outer s H E hr => ⟨_, (pssx_cons (psx_setCD (i := 2) (bs := ["_law_j"]) (nb := ["_law_script", "_law_k", "_law_tests", "_law_fill", "_law_take"]) sc_l_wide_rule.nd rfl (Or.inl rfl) rfl (blk_of rfl) (pix_range1 rfl T.n_range (pax_cons (px_op op_modN x_mod (px_callK rfl G_l_mixed (hr.mono (by omega)) rfl T.m_l_mixed T.F_l_mixed.kp T.b_l_mixed pass0 (pax_cons (px_var 0 (pv 0)) (pax_cons (px_op (r := rAddX K) op_addX x_add (px_var 1 (pv 1)) px_int) pax_nil))) px_int) pax_nil)) (gown_name (by decide)) (fun _ _ _ _ _ _ => (pg_name (i := 0) (show List.Nodup (["_law_j", "_law_script", "_law_k", "_law_tests", "_law_fill", "_law_take"] : List Str) by decide +kernel) rfl (Or.inl rfl) (Or.inr rfl))) tgb_name (fun _ _ _ _ _ _ => pifsx_nil) (fun _ _ _ _ _ _ => (px_callK rfl G_l_wide_test (hr.mono (by omega)) rfl T.m_l_wide_test T.F_l_wide_test.kp T.b_l_wide_test pass0 (pax_cons (px_var 1 (pv 1)) (pax_cons (px_op (r := rAddX K) op_addX x_add (px_var 2 (pv 2)) (px_op op_mulB x_mul px_int (px_var 0 (pv 0)))) pax_nil))))) (pssx_cons (psx_setD (i := 3) sc_l_wide_rule.nd rfl (Or.inl rfl) (px_ix (r := rIx K) ix_seq x_ix (px_lst (pax_cons px_str (pax_cons px_str (pax_cons px_str pax_nil)))) (px_op op_modN x_mod (px_callK rfl G_l_mixed (hr.mono (by omega)) rfl T.m_l_mixed T.F_l_mixed.kp T.b_l_mixed pass0 (pax_cons (px_var 0 (pv 0)) (pax_cons (px_op (r := rAddX K) op_addX x_add (px_var 1 (pv 1)) px_int) pax_nil))) px_int) (fun _ _ => rfl))) (pssx_cons (psx_setD (i := 4) sc_l_wide_rule.nd rfl (Or.inl rfl) (px_ix (r := rIx K) ix_seq x_ix (px_lst (pax_cons px_str (pax_cons px_str (pax_cons px_str pax_nil)))) (px_op op_modN x_mod (px_callK rfl G_l_mixed (hr.mono (by omega)) rfl T.m_l_mixed T.F_l_mixed.kp T.b_l_mixed pass0 (pax_cons (px_var 0 (pv 0)) (pax_cons (px_op (r := rAddX K) op_addX x_add (px_var 1 (pv 1)) px_int) pax_nil))) px_int) (fun _ _ => rfl))) (pssx_one (psx_ret (fr := true) (px_tup (pax_cons (px_callTy (r := rTupC K) call_tuple_of x_tuple rfl T.n_tuple bt_tuple (pax_cons (px_var 2 (pv 2)) pax_nil)) (pax_cons (px_var 3 (pv 3)) (pax_cons (px_var 4 (pv 4)) (pax_cons (px_ix (r := rIx K) ix_seq x_ix (px_lst (pax_cons px_str (pax_cons px_str pax_nil))) (px_op op_modN x_mod (px_callK rfl G_l_mixed (hr.mono (by omega)) rfl T.m_l_mixed T.F_l_mixed.kp T.b_l_mixed pass0 (pax_cons (px_var 0 (pv 0)) (pax_cons (px_op (r := rAddX K) op_addX x_add (px_var 1 (pv 1)) px_int) pax_nil))) px_int) (fun _ _ => rfl)) pax_nil))))))))))⟩
theorem ok_l_is_number (T : Txt K mg ad) : FnOk P w K mg base CX0 1 ad.f_l_is_number ad.fd_l_is_number ["_law_word", "_law_below"] (spF K F_l_is_number) := by
 exact T.F_l_is_number.okF (k := 0) sc_l_is_number (by decide) fun cdv A outer s H E hr => ⟨_, (pssx_cons (psx_setD (i := 2) sc_l_is_number.nd rfl (Or.inl rfl) (px_var 0 (pv 0))) (pssx_cons (psx_if (PWX.pt (pwx_and (ptx_val (fr := true) (px_var 1 (pv 1))) (pwx_and1 (ptx_cmp (fr := true) (r := rEqX K) (op_eqX hr.units) x_eq (nomark _) (px_slice (r := rSlA K) sl_any x_slA (px_var 0 (pv 0)) pox_none (pox_some (fr := true) px_int)) px_str)))) (pssx_one (psx_setD (i := 2) sc_l_is_number.nd rfl (Or.inl rfl) (px_slice (r := rSlA K) sl_any x_slA (px_var 0 (pv 0)) (pox_some (fr := true) px_int) pox_none))) pssx_nil) (pssx_cons (psx_for PassesOwn.never rfl (pix_any (px_var 2 (pv 2))) (pg_name (i := 3) sc_l_is_number.nd rfl (Or.inl rfl)) tgx_name (pssx_one (psx_if (ptx_cmp (fr := true) (r := rInA K true) op_notInA x_notInA (by with_unfolding_all rfl) (px_var 3 (pv 3)) px_str) (pssx_one (psx_ret (fr := true) px_bl)) pssx_nil))) (pssx_cons (psx_if (PWX.pt (pwx_or (ptx_cmp (fr := true) (r := rEqX K) (op_eqX hr.units) x_eq (nomark _) (px_var 2 (pv 2)) px_str) (pwx_or (ptx_cmp (fr := true) op_gt x_gt (nomark _) (px_callB (r := rLen K) call_lenX x_len rfl T.n_len bt_len (pax_cons (px_var 2 (pv 2)) pax_nil)) px_int) (pwx_or1 (PWX.pt (pwx_and (ptx_cmp (fr := true) (r := rEqX K) (op_eqX hr.units) x_eq (nomark _) (px_ix (r := rIx K) ix_seq x_ix (px_var 2 (pv 2)) px_int (fun _ _ => rfl)) px_str) (pwx_and1 (ptx_cmp (fr := true) (r := rNeX K) (op_neX hr.units) x_ne (nomark _) (px_var 0 (pv 0)) px_str)))))))) (pssx_one (psx_ret (fr := true) px_bl)) pssx_nil) (pssx_one (psx_ret (fr := true) (px_cmp op_le x_le (nomark _) (px_callTy (call_int1.or call_intS) (x_int.or x_intS) rfl T.n_int bt_int (pax_cons (px_var 2 (pv 2)) pax_nil)) px_int)))))))⟩
theorem ok_l_is_rule (T : Txt K mg ad) : FnOk P w K mg base CX0 2 ad.f_l_is_rule ad.fd_l_is_rule ["_law_line"] (spF K F_l_is_rule) := by
 have G_l_is_number : FnOk P w K mg base CX0 1 _ _ _ (spF K F_l_is_number) := ok_l_is_number T
 exact T.F_l_is_rule.okF (k := 1) sc_l_is_rule (by decide) fun cdv A outer s H E hr => ⟨_, (pssx_cons (psx_setD (i := 1) sc_l_is_rule.nd rfl (Or.inl rfl) (px_sm (name := "split") (id := "str.split") F.slot_str_split F.type_str_split mt_split x_split (fun _ _ _ h => splitD_str h) (px_var 0 (pv 0)) (pax_cons px_str pax_nil))) (pssx_cons (psx_if (PWX.pt (pwx_or (ptx_cmp (fr := true) op_lt x_lt (nomark _) (px_callB (r := rLen K) call_lenX x_len rfl T.n_len bt_len (pax_cons (px_var 1 (pv 1)) pax_nil)) px_int) (pwx_or (ptx_cmp (fr := true) (r := rNeX K) (op_neX hr.units) x_ne (nomark _) (px_ix (r := rIx K) ix_seq x_ix (px_var 1 (pv 1)) px_int (fun _ _ => rfl)) px_str) (pwx_or1 (ptx_cmp (fr := true) (r := rNeX K) (op_neX hr.units) x_ne (nomark _) (px_lst (pax_cons (px_ix (r := rIx K) ix_seq x_ix (px_var 1 (pv 1)) (px_un un_neg x_neg px_int) (fun _ _ => rfl)) (pax_cons (px_ix (r := rIx K) ix_seq x_ix (px_var 1 (pv 1)) (px_un un_neg x_neg px_int) (fun _ _ => rfl)) (pax_cons (px_ix (r := rIx K) ix_seq x_ix (px_var 1 (pv 1)) (px_un un_neg x_neg px_int) (fun _ _ => rfl)) pax_nil)))) (px_lst (pax_cons px_str (pax_cons px_str (pax_cons px_str pax_nil))))))))) (pssx_one (psx_ret (fr := true) px_bl)) pssx_nil) (pssx_cons (psx_if (PWX.pt (pwx_or (ptx_cmp (fr := true) (r := rInA K true) op_notInA x_notInA (by with_unfolding_all rfl) (px_ix (r := rIx K) ix_seq x_ix (px_var 1 (pv 1)) (px_un un_neg x_neg px_int) (fun _ _ => rfl)) (px_lst (pax_cons px_str (pax_cons px_str (pax_cons px_str pax_nil))))) (pwx_or1 (ptx_cmp (fr := true) (r := rInA K true) op_notInA x_notInA (by with_unfolding_all rfl) (px_ix (r := rIx K) ix_seq x_ix (px_var 1 (pv 1)) (px_un un_neg x_neg px_int) (fun _ _ => rfl)) (px_lst (pax_cons px_str (pax_cons px_str (pax_cons px_str pax_nil)))))))) (pssx_one (psx_ret (fr := true) px_bl)) pssx_nil) (pssx_cons (psx_set (i := 2) sc_l_is_rule.nd rfl (Or.inl rfl) (px_slice (r := rSlA K) sl_any x_slA (px_var 1 (pv 1)) (pox_some (fr := true) px_int) (pox_some (fr := true) (px_un un_neg x_neg px_int)))) (pssx_cons (psx_setD (i := 3) sc_l_is_rule.nd rfl (Or.inl rfl) px_int) (pssx_cons (psx_while (muOwn 2) PassesOwn.never (ptx_cmp (fr := false) op_gt x_gt (nomark _) (px_frz (px_callB (r := rLen K) call_lenX x_len rfl T.n_len bt_len (pax_cons (px_var 2 (pv 2)) pax_nil))) (px_frz px_int)) (pssx_cons (psx_pop (i := 2) (j := 4) (pv 2) px_int sc_l_is_rule.nd rfl (Or.inl rfl)) (pssx_cons (psx_setD (i := 3) sc_l_is_rule.nd rfl (Or.inl rfl) (px_op (r := rAddX K) op_addX x_add (px_var 3 (pv 3)) px_int)) (pssx_one (psx_if (ptx_cmp (fr := true) (r := rInA K false) op_inA x_inA (by with_unfolding_all rfl) (px_var 4 (pv 4)) (px_lst (pax_cons px_str (pax_cons px_str (pax_cons px_str (pax_cons px_str (pax_cons px_str (pax_cons px_str pax_nil)))))))) (pssx_one (psx_ifPop (i := 2) rfl G_l_is_number (hr.mono (by omega)) rfl T.m_l_is_number T.F_l_is_number.kp T.b_l_is_number pass0 (ptx_cmp (fr := false) (r := rEqX K) (op_eqX hr.units) x_eq (nomark _) (px_frz (px_callB (r := rLen K) call_lenX x_len rfl T.n_len bt_len (pax_cons (px_var 2 (pv 2)) pax_nil))) (px_frz px_int)) (pv 2) px_int (px_cmp (r := rInA K false) op_inA x_inA (by with_unfolding_all rfl) (px_var 4 (pv 4)) (px_lst (pax_cons px_str (pax_cons px_str pax_nil)))) (pssx_one (psx_ret (fr := true) px_bl)) pssx_nil)) (pssx_one (psx_if (ptx_cmp (fr := true) (r := rInA K true) op_notInA x_notInA (by with_unfolding_all rfl) (px_var 4 (pv 4)) (px_lst (pax_cons px_str (pax_cons px_str pax_nil)))) (pssx_one (psx_ret (fr := true) px_bl)) pssx_nil))))))) (pssx_one (psx_ret (fr := true) (px_and (px_cmp op_le x_le (nomark _) (px_var 3 (pv 3)) px_int) (px_one (px_cmp (r := rInA K false) op_inA x_inA (by with_unfolding_all rfl) (px_ix (r := rIx K) ix_seq x_ix (px_var 1 (pv 1)) (px_un un_neg x_neg px_int) (fun _ _ => rfl)) (px_lst (pax_cons px_str (pax_cons px_str pax_nil))))))))))))))⟩
theorem ok_l_bent (T : Txt K mg ad) : FnOk P w K mg base CX0 1 ad.f_l_bent ad.fd_l_bent ["_law_line", "_law_by", "_law_more"] (spF K F_l_bent) := by
 exact T.F_l_bent.okF (k := 0) sc_l_bent (by decide) fun cdv A outer s H E hr => ⟨_, (pssx_cons (psx_setD (i := 3) sc_l_bent.nd rfl (Or.inl rfl) px_str) (pssx_cons (psx_setD (i := 3) sc_l_bent.nd rfl (Or.inl rfl) (px_op (r := rAddX K) op_addX x_add (px_var 3 (pv 3)) px_str)) (pssx_cons (psx_setD (i := 4) sc_l_bent.nd rfl (Or.inl rfl) (px_op op_modN x_mod (px_var 1 (pv 1)) (px_op (r := rAddX K) op_addX x_add (px_callB (r := rLen K) call_lenX x_len rfl T.n_len bt_len (pax_cons (px_var 0 (pv 0)) pax_nil)) px_int))) (pssx_cons (psx_if (PWX.pt (pwx_and (ptx_cmp (fr := true) (r := rEqX K) (op_eqX hr.units) x_eq (nomark _) (px_op op_modN x_mod (px_var 2 (pv 2)) px_int) px_int) (pwx_and1 (ptx_cmp (fr := true) op_lt x_lt (nomark _) (px_var 4 (pv 4)) (px_callB (r := rLen K) call_lenX x_len rfl T.n_len bt_len (pax_cons (px_var 0 (pv 0)) pax_nil)))))) (pssx_one (psx_ret (fr := true) (px_op (r := rAddX K) op_addX x_add (px_slice (r := rSlA K) sl_any x_slA (px_var 0 (pv 0)) pox_none (pox_some (fr := true) (px_var 4 (pv 4)))) (px_slice (r := rSlA K) sl_any x_slA (px_var 0 (pv 0)) (pox_some (fr := true) (px_op (r := rAddX K) op_addX x_add (px_var 4 (pv 4)) px_int)) pox_none)))) pssx_nil) (pssx_one (psx_ret (fr := true) (px_op (r := rAddX K) op_addX x_add (px_op (r := rAddX K) op_addX x_add (px_slice (r := rSlA K) sl_any x_slA (px_var 0 (pv 0)) pox_none (pox_some (fr := true) (px_var 4 (pv 4)))) (px_ix (r := rIx K) ix_seq x_ix (px_var 3 (pv 3)) (px_op op_modN x_mod (px_op op_fdivB x_fdiv (px_var 2 (pv 2)) px_int) (px_callB (r := rLen K) call_lenX x_len rfl T.n_len bt_len (pax_cons (px_var 3 (pv 3)) pax_nil))) (fun _ _ => rfl))) (px_slice (r := rSlA K) sl_any x_slA (px_var 0 (pv 0)) (pox_some (fr := true) (px_var 4 (pv 4))) pox_none))))))))⟩
theorem ok_l_odd (T : Txt K mg ad) : FnOk P w K mg base CX0 1 ad.f_l_odd ad.fd_l_odd ["_law_by"] (spF K F_l_odd) := by
 exact T.F_l_odd.okF (k := 0) sc_l_odd (by decide) fun cdv A outer s H E hr => ⟨_, (pssx_cons (psx_setD (i := 1) sc_l_odd.nd rfl (Or.inl rfl) px_str) (pssx_cons (psx_setD (i := 2) sc_l_odd.nd rfl (Or.inl rfl) (px_lst (pax_cons px_str (pax_cons px_str (pax_cons px_str (pax_cons (px_slice (r := rSlA K) sl_any x_slA (px_var 1 (pv 1)) (pox_some (fr := true) px_int) pox_none) (pax_cons (px_op (r := rAddX K) op_addX x_add px_str (px_var 1 (pv 1))) (pax_cons (px_op (r := rAddX K) op_addX x_add (px_op (r := rAddX K) op_addX x_add px_str (px_var 1 (pv 1))) px_str) (pax_cons (px_op (r := rAddX K) op_addX x_add px_str (px_var 1 (pv 1))) (pax_cons (px_op (r := rAddX K) op_addX x_add px_str (px_var 1 (pv 1))) pax_nil)))))))))) (pssx_cons (psx_setD (i := 2) sc_l_odd.nd rfl (Or.inl rfl) (px_op (r := rAddX K) op_addX x_add (px_var 2 (pv 2)) (px_lst (pax_cons (px_op (r := rAddX K) op_addX x_add px_str (px_var 1 (pv 1))) pax_nil)))) (pssx_cons (psx_setD (i := 2) sc_l_odd.nd rfl (Or.inl rfl) (px_op (r := rAddX K) op_addX x_add (px_var 2 (pv 2)) (px_lst (pax_cons (px_op (r := rAddX K) op_addX x_add px_str (px_var 1 (pv 1))) (pax_cons (px_op (r := rAddX K) op_addX x_add px_str (px_var 1 (pv 1))) (pax_cons (px_op (r := rAddX K) op_addX x_add px_str (px_var 1 (pv 1))) (pax_cons (px_op (r := rAddX K) op_addX x_add px_str (px_var 1 (pv 1))) pax_nil))))))) (pssx_cons (psx_setD (i := 2) sc_l_odd.nd rfl (Or.inl rfl) (px_op (r := rAddX K) op_addX x_add (px_var 2 (pv 2)) (px_lst (pax_cons (px_op (r := rAddX K) op_addX x_add px_str (px_var 1 (pv 1))) (pax_cons (px_op (r := rAddX K) op_addX x_add px_str (px_var 1 (pv 1))) (pax_cons (px_op (r := rAddX K) op_addX x_add px_str (px_var 1 (pv 1))) (pax_cons (px_op (r := rAddX K) op_addX x_add px_str (px_var 1 (pv 1))) pax_nil))))))) (pssx_cons (psx_setD (i := 2) sc_l_odd.nd rfl (Or.inl rfl) (px_op (r := rAddX K) op_addX x_add (px_var 2 (pv 2)) (px_lst (pax_cons (px_op (r := rAddX K) op_addX x_add px_str (px_var 1 (pv 1))) (pax_cons (px_op (r := rAddX K) op_addX x_add px_str (px_var 1 (pv 1))) (pax_cons (px_op (r := rAddX K) op_addX x_add px_str (px_var 1 (pv 1))) pax_nil)))))) (pssx_cons (psx_setD (i := 2) sc_l_odd.nd rfl (Or.inl rfl) (px_op (r := rAddX K) op_addX x_add (px_var 2 (pv 2)) (px_lst (pax_cons (px_op (r := rAddX K) op_addX x_add px_str (px_var 1 (pv 1))) pax_nil)))) (pssx_cons (psx_setD (i := 2) sc_l_odd.nd rfl (Or.inl rfl) (px_op (r := rAddX K) op_addX x_add (px_var 2 (pv 2)) (px_lst (pax_cons px_str (pax_cons px_str pax_nil))))) (pssx_cons (psx_setD (i := 2) sc_l_odd.nd rfl (Or.inl rfl) (px_op (r := rAddX K) op_addX x_add (px_var 2 (pv 2)) (px_lst (pax_cons px_str (pax_cons px_str pax_nil))))) (pssx_cons (psx_setD (i := 2) sc_l_odd.nd rfl (Or.inl rfl) (px_op (r := rAddX K) op_addX x_add (px_var 2 (pv 2)) (px_lst (pax_cons px_str (pax_cons px_str pax_nil))))) (pssx_cons (psx_setD (i := 2) sc_l_odd.nd rfl (Or.inl rfl) (px_op (r := rAddX K) op_addX x_add (px_var 2 (pv 2)) (px_lst (pax_cons (px_op (r := rAddX K) op_addX x_add px_str (px_var 1 (pv 1))) (pax_cons (px_op (r := rAddX K) op_addX x_add px_str (px_var 1 (pv 1))) (pax_cons px_str pax_nil)))))) (pssx_one (psx_ret (fr := true) (px_ix (r := rIx K) ix_seq x_ix (px_var 2 (pv 2)) (px_op op_modN x_mod (px_var 0 (pv 0)) px_int) (fun _ _ => rfl)))))))))))))))⟩
theorem ok_l_lines (T : Txt K mg ad) : FnOk P w K mg base CX0 4 ad.f_l_lines ad.fd_l_lines ["_law_script"] (spF K F_l_lines) := by
 have G_l_bent : FnOk P w K mg base CX0 1 _ _ _ (spF K F_l_bent) := ok_l_bent T
 have G_l_mixed : FnOk P w K mg base CX0 1 _ _ _ (spF K F_l_mixed) := ok_l_mixed T
 have G_l_odd : FnOk P w K mg base CX0 1 _ _ _ (spF K F_l_odd) := ok_l_odd T
 have G_l_rule_line : FnOk P w K mg base CX0 1 _ _ _ (spF K F_l_rule_line) := ok_l_rule_line T
 have G_l_wide_rule : FnOk P w K mg base CX0 3 _ _ _ (spF K F_l_wide_rule) := ok_l_wide_rule T
 exact T.F_l_lines.okF (k := 3) sc_l_lines (by decide) fun cdv A outer s H E hr => ⟨_, (pssx_cons (psx_setD (i := 1) sc_l_lines.nd rfl (Or.inl rfl) (px_op (r := rAddX K) op_addX x_add px_int (px_op op_modN x_mod (px_callK rfl G_l_mixed (hr.mono (by omega)) rfl T.m_l_mixed T.F_l_mixed.kp T.b_l_mixed pass0 (pax_cons (px_var 0 (pv 0)) (pax_cons px_int pax_nil))) px_int))) (pssx_cons (psx_if (ptx_cmp (fr := true) (r := rEqX K) (op_eqX hr.units) x_eq (nomark _) (px_op op_modN x_mod (px_op op_fdivB x_fdiv (px_callK rfl G_l_mixed (hr.mono (by omega)) rfl T.m_l_mixed T.F_l_mixed.kp T.b_l_mixed pass0 (pax_cons (px_var 0 (pv 0)) (pax_cons px_int pax_nil))) px_int) px_int) px_int) (pssx_one (psx_setD (i := 1) sc_l_lines.nd rfl (Or.inl rfl) (px_op (r := rAddX K) op_addX x_add px_int (px_op op_modN x_mod (px_callK rfl G_l_mixed (hr.mono (by omega)) rfl T.m_l_mixed T.F_l_mixed.kp T.b_l_mixed pass0 (pax_cons (px_var 0 (pv 0)) (pax_cons px_int pax_nil))) px_int)))) pssx_nil) (pssx_cons (psx_setCO (i := 2) (bs := ["_law_r"]) (nb := ["_law_script", "_law_many", "_law_lines_here", "_law_j", "_law_at"]) sc_l_lines.nd rfl (Or.inl rfl) rfl (blk_of rfl) (pix_range1 rfl T.n_range (pax_cons (px_var 1 (pv 1)) pax_nil)) (gown_name (by decide)) (fun _ _ _ _ _ _ => (pg_name (i := 0) (show List.Nodup (["_law_r", "_law_script", "_law_many", "_law_lines_here", "_law_j", "_law_at"] : List Str) by decide +kernel) rfl (Or.inl rfl) (Or.inr rfl))) tgb_name (fun _ _ _ _ _ _ => pifsx_nil) (fun _ _ _ _ _ _ => (px_callK rfl G_l_rule_line (hr.mono (by omega)) rfl T.m_l_rule_line T.F_l_rule_line.kp T.b_l_rule_line pass0 (pax_cons (px_callK rfl G_l_wide_rule (hr.mono (by omega)) rfl T.m_l_wide_rule T.F_l_wide_rule.kp T.b_l_wide_rule pass0 (pax_cons (px_var 1 (pv 1)) (pax_cons (px_op (r := rAddX K) op_addX x_add px_int (px_op op_mulB x_mul px_int (px_var 0 (pv 0)))) pax_nil))) pax_nil)))) (pssx_cons (psx_for PassesOwn.never rfl (pix_range1 rfl T.n_range (pax_cons (px_op op_modN x_mod (px_callK rfl G_l_mixed (hr.mono (by omega)) rfl T.m_l_mixed T.F_l_mixed.kp T.b_l_mixed pass0 (pax_cons (px_var 0 (pv 0)) (pax_cons px_int pax_nil))) px_int) pax_nil)) (pg_name (i := 3) sc_l_lines.nd rfl (Or.inl rfl)) tgx_name (pssx_cons (psx_setD (i := 4) sc_l_lines.nd rfl (Or.inl rfl) (px_op op_modN x_mod (px_callK rfl G_l_mixed (hr.mono (by omega)) rfl T.m_l_mixed T.F_l_mixed.kp T.b_l_mixed pass0 (pax_cons (px_var 0 (pv 0)) (pax_cons (px_op (r := rAddX K) op_addX x_add px_int (px_op op_mulB x_mul px_int (px_var 3 (pv 3)))) pax_nil))) (px_var 1 (pv 1)))) (pssx_cons (psx_setI 2 (pv 2) (px_var 4 (pv 4)) (px_callK rfl G_l_bent (hr.mono (by omega)) rfl T.m_l_bent T.F_l_bent.kp T.b_l_bent pass0 (pax_cons (px_ixO 2 (pv 2) (px_var 4 (pv 4))) (pax_cons (px_callK rfl G_l_mixed (hr.mono (by omega)) rfl T.m_l_mixed T.F_l_mixed.kp T.b_l_mixed pass0 (pax_cons (px_var 0 (pv 0)) (pax_cons (px_op (r := rAddX K) op_addX x_add px_int (px_op op_mulB x_mul px_int (px_var 3 (pv 3)))) pax_nil))) (pax_cons (px_callK rfl G_l_mixed (hr.mono (by omega)) rfl T.m_l_mixed T.F_l_mixed.kp T.b_l_mixed pass0 (pax_cons (px_var 0 (pv 0)) (pax_cons (px_op (r := rAddX K) op_addX x_add px_int (px_op op_mulB x_mul px_int (px_var 3 (pv 3)))) pax_nil))) pax_nil))))) (pssx_one (psx_if (ptx_cmp (fr := true) (r := rEqX K) (op_eqX hr.units) x_eq (nomark _) (px_op op_modN x_mod (px_callK rfl G_l_mixed (hr.mono (by omega)) rfl T.m_l_mixed T.F_l_mixed.kp T.b_l_mixed pass0 (pax_cons (px_var 0 (pv 0)) (pax_cons (px_op (r := rAddX K) op_addX x_add px_int (px_op op_mulB x_mul px_int (px_var 3 (pv 3)))) pax_nil))) px_int) px_int) (pssx_one (psx_setI 2 (pv 2) (px_var 4 (pv 4)) (px_callK rfl G_l_odd (hr.mono (by omega)) rfl T.m_l_odd T.F_l_odd.kp T.b_l_odd pass0 (pax_cons (px_callK rfl G_l_mixed (hr.mono (by omega)) rfl T.m_l_mixed T.F_l_mixed.kp T.b_l_mixed pass0 (pax_cons (px_var 0 (pv 0)) (pax_cons (px_op (r := rAddX K) op_addX x_add px_int (px_op op_mulB x_mul px_int (px_var 3 (pv 3)))) pax_nil))) pax_nil)))) pssx_nil))))) (pssx_one (psx_retV 2 (pv 2)))))))⟩
theorem ok_law (T : Txt K mg ad) : FnOk P w K mg base CX0 9 ad.f_law ad.fd_law ["_law_script"] (spF K (F_law ad.C_NoText)) := by
 have G_l_is_rule : FnOk P w K mg base CX0 2 _ _ _ (spF K F_l_is_rule) := ok_l_is_rule T
 have G_l_lines : FnOk P w K mg base CX0 4 _ _ _ (spF K F_l_lines) := ok_l_lines T
 have GX_read_keeper : FnOk P w K mg base (CX1 P w) 8 _ _ _ (spX K (FX_read_keeper ad.C_NoText)) := okx_read_keeper T
 exact T.F_law.okF (k := 8) sc_law (by decide) fun cdv A outer s H E hr => ⟨_, (pssx_cons (psx_setD (i := 1) sc_law.nd rfl (Or.inr rfl) (px_callK rfl G_l_lines (hr.mono (by omega)) rfl T.m_l_lines T.F_l_lines.kp T.b_l_lines pass0 (pax_cons (px_var 0 (pv 0)) pax_nil))) (pssx_cons (psx_setCD (i := 2) (bs := ["_law_k"]) (nb := ["_law_script", "_law_lines_here", "_law_bad", "_law_told", "_law_refused", "e", "_law_place"]) sc_law.nd rfl (Or.inl rfl) rfl (blk_of rfl) (pix_range1 rfl T.n_range (pax_cons (px_callB (r := rLen K) call_lenX x_len rfl T.n_len bt_len (pax_cons (px_var 1 (pv 1)) pax_nil)) pax_nil)) (gown_name (by decide)) (fun _ _ _ _ _ _ => (pg_name (i := 0) (show List.Nodup (["_law_k", "_law_script", "_law_lines_here", "_law_bad", "_law_told", "_law_refused", "e", "_law_place"] : List Str) by decide +kernel) rfl (Or.inl rfl) (Or.inr rfl))) tgb_name (fun _ _ _ _ _ _ => (pifsx_one (PWX.pt (pwx_or (ptx_cmp (fr := true) (r := rEqX K) (op_eqX hr.units) x_eq (nomark _) (px_var 0 (pv 0)) px_int) (pwx_or1 (ptx_not (ptx_val (fr := true) (px_callK rfl G_l_is_rule (hr.mono (by omega)) rfl T.m_l_is_rule T.F_l_is_rule.kp T.b_l_is_rule pass0 (pax_cons (px_ix (r := rIx K) ix_seq x_ix (px_var 2 (pv 2)) (px_var 0 (pv 0)) (fun _ _ => rfl)) pax_nil))))))))) (fun _ _ _ _ _ _ => (px_var 0 (pv 0)))) (pssx_cons (psx_setD (i := 3) sc_law.nd rfl (Or.inl rfl) px_non) (pssx_cons (psx_setD (i := 4) sc_law.nd rfl (Or.inl rfl) px_non) (pssx_cons (psx_tryAB (i := 3) (j := 5) T.xB ⟨rfl, rfl⟩ (fun _ _ z => z) GX_read_keeper (hr.mono (by omega)) rfl T.m_read_keeper T.F_read_keeper.kp T.b_read_keeper (pax_cons (px_var 1 (pv 1)) pax_nil) T.xK rfl T.xm_StoreError sc_law.nd rfl (Or.inl rfl) rfl rfl (fun ea => (pssx_one (psx_setD (i := 4) sc_law.nd rfl (Or.inl rfl) (px_var 5 (pv 5)))))) (pssx_cons (psx_if (ptx_cmp (fr := true) (r := rEqX K) (op_eqX hr.units) x_eq (nomark _) (px_callB (r := rLen K) call_lenX x_len rfl T.n_len bt_len (pax_cons (px_var 2 (pv 2)) pax_nil)) px_int) (pssx_one (psx_ret (fr := true) (px_and (px_cmp op_isN x_is (nomark _) (px_var 4 (pv 4)) px_non) (px_and (px_isinK rfl five_tuple rfl T.n_isinstance bt_isinstance (px_var 3 (pv 3)) (pe_bltn (v := .ty "tuple") rfl T.n_tuple bt_tuple rfl)) (px_one (px_cmp (r := rEqX K) (op_eqX hr.units) x_eq (nomark _) (px_callB (r := rLen K) call_lenX x_len rfl T.n_len bt_len (pax_cons (px_var 3 (pv 3)) pax_nil)) (px_callB (r := rLen K) call_lenX x_len rfl T.n_len bt_len (pax_cons (px_var 1 (pv 1)) pax_nil)))))))) pssx_nil) (pssx_cons (psx_if (PWX.pt (pwx_or (ptx_not (ptx_val (fr := true) (px_isE (vc := .ref ad.C_NoText) (uc := .ref ad.C_NoText) (fun _ h => h) T.kit_NoText T.kit0_NoText rfl T.n_isinstance bt_isinstance (px_var 4 (pv 4)) (pe_glob (v := .ref ad.C_NoText) rfl T.xm_NoText rfl)))) (pwx_or1 (ptx_not (ptx_val (fr := true) (px_isE (vc := .ty "ValueError") (uc := .type "ValueError") (fun _ h => h) T.kit_ValueError T.kit0_ValueError rfl T.n_isinstance bt_isinstance (px_var 4 (pv 4)) (pe_bltn (v := .ty "ValueError") rfl T.n_ValueError bt_ValueError rfl))))))) (pssx_one (psx_ret (fr := true) px_bl)) pssx_nil) (pssx_cons (psx_if (PWX.pt (pwx_or (ptx_val (fr := true) (px_isE (vc := .ref ad.C_NoFraction) (uc := .ref ad.C_NoFraction) (fun _ h => h) T.kit_NoFraction T.kit0_NoFraction rfl T.n_isinstance bt_isinstance (px_var 4 (pv 4)) (pe_glob (v := .ref ad.C_NoFraction) rfl T.xm_NoFraction rfl))) (pwx_or (ptx_val (fr := true) (px_isE (vc := .ref ad.C_NoKeeper) (uc := .ref ad.C_NoKeeper) (fun _ h => h) T.kit_NoKeeper T.kit0_NoKeeper rfl T.n_isinstance bt_isinstance (px_var 4 (pv 4)) (pe_glob (v := .ref ad.C_NoKeeper) rfl T.xm_NoKeeper rfl))) (pwx_or1 (ptx_val (fr := true) (px_isE (vc := .ref ad.C_NoLine) (uc := .ref ad.C_NoLine) (fun _ h => h) T.kit_NoLine T.kit0_NoLine rfl T.n_isinstance bt_isinstance (px_var 4 (pv 4)) (pe_glob (v := .ref ad.C_NoLine) rfl T.xm_NoLine rfl))))))) (pssx_one (psx_ret (fr := true) px_bl)) pssx_nil) (pssx_cons (psx_setD (i := 6) sc_law.nd rfl (Or.inl rfl) (px_fldK (K' := K) rfl (px_var 4 (pv 4)))) (pssx_one (psx_ret (fr := true) (px_and (px_not (px_isE (vc := .ref ad.C_NoPrices) (uc := .ref ad.C_NoPrices) (fun _ h => h) T.kit_NoPrices T.kit0_NoPrices rfl T.n_isinstance bt_isinstance (px_var 4 (pv 4)) (pe_glob (v := .ref ad.C_NoPrices) rfl T.xm_NoPrices rfl))) (px_and (px_cmp (r := rEqX K) (op_eqX hr.units) x_eq (nomark _) (px_var 6 (pv 6)) (px_ix (r := rIx K) ix_seq x_ix (px_var 2 (pv 2)) px_int (fun _ _ => rfl))) (px_one (px_not (px_isinK rfl five_bool rfl T.n_isinstance bt_isinstance (px_var 6 (pv 6)) (pe_bltn (v := .ty "bool") rfl T.n_bool bt_bool rfl)))))))))))))))))⟩
end
theorem all_mk {l : PySem.W.OpenLaw} {w : World} {K : PySem.W.Frag} {h : Heap} {mg : Str -> Option Value} {fa : Addr} (X : K.In h) (G : h.Ns mainGlobals mg) (hfa : mg "law" = some (.ref fa))
  {f0 : Addr} {od0 an0 : Option Addr} {sl0 : Array (Option Value)} {oc0 kV0 dc0 pm0 cd0 ct0 : Value}
  (a0 : PySem.W.nsIn K mainGlobals "common_divisor" = some (some (.ref f0))) (l0 : K.lookup f0 = some ⟨oc0, od0, .func (PySem.W.fnOf "common_divisor" "common_divisor" (defArgs s_common_divisor) (defBody s_common_divisor) (defScope s_common_divisor) .none kV0 dc0 pm0 an0 cd0 ct0), sl0⟩) (c0 : PySem.W.codeIn K cd0 "common_divisor" = true) (k0 : PySem.W.keepIn K (.ref f0) = true)
  {f1 : Addr} {od1 an1 : Option Addr} {sl1 : Array (Option Value)} {oc1 kV1 dc1 pm1 cd1 ct1 : Value}
  (a1 : PySem.W.nsIn K mainGlobals "fraction" = some (some (.ref f1))) (l1 : K.lookup f1 = some ⟨oc1, od1, .func (PySem.W.fnOf "fraction" "fraction" (defArgs s_fraction) (defBody s_fraction) (defScope s_fraction) .none kV1 dc1 pm1 an1 cd1 ct1), sl1⟩) (c1 : PySem.W.codeIn K cd1 "fraction" = true) (k1 : PySem.W.keepIn K (.ref f1) = true)
  {f2 : Addr} {od2 an2 : Option Addr} {sl2 : Array (Option Value)} {oc2 kV2 dc2 pm2 cd2 ct2 : Value}
  (a2 : PySem.W.nsIn K mainGlobals "figures_of" = some (some (.ref f2))) (l2 : K.lookup f2 = some ⟨oc2, od2, .func (PySem.W.fnOf "figures_of" "figures_of" (defArgs s_figures_of) (defBody s_figures_of) (defScope s_figures_of) .none kV2 dc2 pm2 an2 cd2 ct2), sl2⟩) (c2 : PySem.W.codeIn K cd2 "figures_of" = true) (k2 : PySem.W.keepIn K (.ref f2) = true)
  {f3 : Addr} {od3 an3 : Option Addr} {sl3 : Array (Option Value)} {oc3 kV3 dc3 pm3 cd3 ct3 : Value}
  (a3 : PySem.W.nsIn K mainGlobals "written" = some (some (.ref f3))) (l3 : K.lookup f3 = some ⟨oc3, od3, .func (PySem.W.fnOf "written" "written" (defArgs s_written) (defBody s_written) (defScope s_written) .none kV3 dc3 pm3 an3 cd3 ct3), sl3⟩) (c3 : PySem.W.codeIn K cd3 "written" = true) (k3 : PySem.W.keepIn K (.ref f3) = true)
  {f4 : Addr} {od4 an4 : Option Addr} {sl4 : Array (Option Value)} {oc4 kV4 dc4 pm4 cd4 ct4 : Value}
  (a4 : PySem.W.nsIn K mainGlobals "read_figures" = some (some (.ref f4))) (l4 : K.lookup f4 = some ⟨oc4, od4, .func (PySem.W.fnOf "read_figures" "read_figures" (defArgs s_read_figures) (defBody s_read_figures) (defScope s_read_figures) .none kV4 dc4 pm4 an4 cd4 ct4), sl4⟩) (c4 : PySem.W.codeIn K cd4 "read_figures" = true) (k4 : PySem.W.keepIn K (.ref f4) = true)
  {f5 : Addr} {od5 an5 : Option Addr} {sl5 : Array (Option Value)} {oc5 kV5 dc5 pm5 cd5 ct5 : Value}
  (a5 : PySem.W.nsIn K mainGlobals "read_signed" = some (some (.ref f5))) (l5 : K.lookup f5 = some ⟨oc5, od5, .func (PySem.W.fnOf "read_signed" "read_signed" (defArgs s_read_signed) (defBody s_read_signed) (defScope s_read_signed) .none kV5 dc5 pm5 an5 cd5 ct5), sl5⟩) (c5 : PySem.W.codeIn K cd5 "read_signed" = true) (k5 : PySem.W.keepIn K (.ref f5) = true)
  {f6 : Addr} {od6 an6 : Option Addr} {sl6 : Array (Option Value)} {oc6 kV6 dc6 pm6 cd6 ct6 : Value}
  (a6 : PySem.W.nsIn K mainGlobals "read_fraction" = some (some (.ref f6))) (l6 : K.lookup f6 = some ⟨oc6, od6, .func (PySem.W.fnOf "read_fraction" "read_fraction" (defArgs s_read_fraction) (defBody s_read_fraction) (defScope s_read_fraction) .none kV6 dc6 pm6 an6 cd6 ct6), sl6⟩) (c6 : PySem.W.codeIn K cd6 "read_fraction" = true) (k6 : PySem.W.keepIn K (.ref f6) = true)
  {f7 : Addr} {od7 an7 : Option Addr} {sl7 : Array (Option Value)} {oc7 kV7 dc7 pm7 cd7 ct7 : Value}
  (a7 : PySem.W.nsIn K mainGlobals "read_bound" = some (some (.ref f7))) (l7 : K.lookup f7 = some ⟨oc7, od7, .func (PySem.W.fnOf "read_bound" "read_bound" (defArgs s_read_bound) (defBody s_read_bound) (defScope s_read_bound) .none kV7 dc7 pm7 an7 cd7 ct7), sl7⟩) (c7 : PySem.W.codeIn K cd7 "read_bound" = true) (k7 : PySem.W.keepIn K (.ref f7) = true)
  {f8 : Addr} {od8 an8 : Option Addr} {sl8 : Array (Option Value)} {oc8 kV8 dc8 pm8 cd8 ct8 : Value}
  (a8 : PySem.W.nsIn K mainGlobals "read_test" = some (some (.ref f8))) (l8 : K.lookup f8 = some ⟨oc8, od8, .func (PySem.W.fnOf "read_test" "read_test" (defArgs s_read_test) (defBody s_read_test) (defScope s_read_test) .none kV8 dc8 pm8 an8 cd8 ct8), sl8⟩) (c8 : PySem.W.codeIn K cd8 "read_test" = true) (k8 : PySem.W.keepIn K (.ref f8) = true)
  {f9 : Addr} {od9 an9 : Option Addr} {sl9 : Array (Option Value)} {oc9 kV9 dc9 pm9 cd9 ct9 : Value}
  (a9 : PySem.W.nsIn K mainGlobals "read_tests" = some (some (.ref f9))) (l9 : K.lookup f9 = some ⟨oc9, od9, .func (PySem.W.fnOf "read_tests" "read_tests" (defArgs s_read_tests) (defBody s_read_tests) (defScope s_read_tests) .none kV9 dc9 pm9 an9 cd9 ct9), sl9⟩) (c9 : PySem.W.codeIn K cd9 "read_tests" = true) (k9 : PySem.W.keepIn K (.ref f9) = true)
  {f10 : Addr} {od10 an10 : Option Addr} {sl10 : Array (Option Value)} {oc10 kV10 dc10 pm10 cd10 ct10 : Value}
  (a10 : PySem.W.nsIn K mainGlobals "read_deeds" = some (some (.ref f10))) (l10 : K.lookup f10 = some ⟨oc10, od10, .func (PySem.W.fnOf "read_deeds" "read_deeds" (defArgs s_read_deeds) (defBody s_read_deeds) (defScope s_read_deeds) .none kV10 dc10 pm10 an10 cd10 ct10), sl10⟩) (c10 : PySem.W.codeIn K cd10 "read_deeds" = true) (k10 : PySem.W.keepIn K (.ref f10) = true)
  {f11 : Addr} {od11 an11 : Option Addr} {sl11 : Array (Option Value)} {oc11 kV11 dc11 pm11 cd11 ct11 : Value}
  (a11 : PySem.W.nsIn K mainGlobals "read_rule" = some (some (.ref f11))) (l11 : K.lookup f11 = some ⟨oc11, od11, .func (PySem.W.fnOf "read_rule" "read_rule" (defArgs s_read_rule) (defBody s_read_rule) (defScope s_read_rule) .none kV11 dc11 pm11 an11 cd11 ct11), sl11⟩) (c11 : PySem.W.codeIn K cd11 "read_rule" = true) (k11 : PySem.W.keepIn K (.ref f11) = true)
  {f12 : Addr} {od12 an12 : Option Addr} {sl12 : Array (Option Value)} {oc12 kV12 dc12 pm12 cd12 ct12 : Value}
  (a12 : PySem.W.nsIn K mainGlobals "read_keeper" = some (some (.ref f12))) (l12 : K.lookup f12 = some ⟨oc12, od12, .func (PySem.W.fnOf "read_keeper" "read_keeper" (defArgs s_read_keeper) (defBody s_read_keeper) (defScope s_read_keeper) .none kV12 dc12 pm12 an12 cd12 ct12), sl12⟩) (c12 : PySem.W.codeIn K cd12 "read_keeper" = true) (k12 : PySem.W.keepIn K (.ref f12) = true)
  {f13 : Addr} {od13 an13 : Option Addr} {sl13 : Array (Option Value)} {oc13 kV13 dc13 pm13 cd13 ct13 : Value}
  (a13 : PySem.W.nsIn K mainGlobals "_law_mixed" = some (some (.ref f13))) (l13 : K.lookup f13 = some ⟨oc13, od13, .func (PySem.W.fnOf "_law_mixed" "_law_mixed" (defArgs s_l_mixed) (defBody s_l_mixed) (defScope s_l_mixed) .none kV13 dc13 pm13 an13 cd13 ct13), sl13⟩) (c13 : PySem.W.codeIn K cd13 "_law_mixed" = true) (k13 : PySem.W.keepIn K (.ref f13) = true)
  {f14 : Addr} {od14 an14 : Option Addr} {sl14 : Array (Option Value)} {oc14 kV14 dc14 pm14 cd14 ct14 : Value}
  (a14 : PySem.W.nsIn K mainGlobals "_law_rule_line" = some (some (.ref f14))) (l14 : K.lookup f14 = some ⟨oc14, od14, .func (PySem.W.fnOf "_law_rule_line" "_law_rule_line" (defArgs s_l_rule_line) (defBody s_l_rule_line) (defScope s_l_rule_line) .none kV14 dc14 pm14 an14 cd14 ct14), sl14⟩) (c14 : PySem.W.codeIn K cd14 "_law_rule_line" = true) (k14 : PySem.W.keepIn K (.ref f14) = true)
  {f15 : Addr} {od15 an15 : Option Addr} {sl15 : Array (Option Value)} {oc15 kV15 dc15 pm15 cd15 ct15 : Value}
  (a15 : PySem.W.nsIn K mainGlobals "_law_wide_test" = some (some (.ref f15))) (l15 : K.lookup f15 = some ⟨oc15, od15, .func (PySem.W.fnOf "_law_wide_test" "_law_wide_test" (defArgs s_l_wide_test) (defBody s_l_wide_test) (defScope s_l_wide_test) .none kV15 dc15 pm15 an15 cd15 ct15), sl15⟩) (c15 : PySem.W.codeIn K cd15 "_law_wide_test" = true) (k15 : PySem.W.keepIn K (.ref f15) = true)
  {f16 : Addr} {od16 an16 : Option Addr} {sl16 : Array (Option Value)} {oc16 kV16 dc16 pm16 cd16 ct16 : Value}
  (a16 : PySem.W.nsIn K mainGlobals "_law_wide_rule" = some (some (.ref f16))) (l16 : K.lookup f16 = some ⟨oc16, od16, .func (PySem.W.fnOf "_law_wide_rule" "_law_wide_rule" (defArgs s_l_wide_rule) (defBody s_l_wide_rule) (defScope s_l_wide_rule) .none kV16 dc16 pm16 an16 cd16 ct16), sl16⟩) (c16 : PySem.W.codeIn K cd16 "_law_wide_rule" = true) (k16 : PySem.W.keepIn K (.ref f16) = true)
  {f17 : Addr} {od17 an17 : Option Addr} {sl17 : Array (Option Value)} {oc17 kV17 dc17 pm17 cd17 ct17 : Value}
  (a17 : PySem.W.nsIn K mainGlobals "_law_is_number" = some (some (.ref f17))) (l17 : K.lookup f17 = some ⟨oc17, od17, .func (PySem.W.fnOf "_law_is_number" "_law_is_number" (defArgs s_l_is_number) (defBody s_l_is_number) (defScope s_l_is_number) .none kV17 dc17 pm17 an17 cd17 ct17), sl17⟩) (c17 : PySem.W.codeIn K cd17 "_law_is_number" = true) (k17 : PySem.W.keepIn K (.ref f17) = true)
  {f18 : Addr} {od18 an18 : Option Addr} {sl18 : Array (Option Value)} {oc18 kV18 dc18 pm18 cd18 ct18 : Value}
  (a18 : PySem.W.nsIn K mainGlobals "_law_is_rule" = some (some (.ref f18))) (l18 : K.lookup f18 = some ⟨oc18, od18, .func (PySem.W.fnOf "_law_is_rule" "_law_is_rule" (defArgs s_l_is_rule) (defBody s_l_is_rule) (defScope s_l_is_rule) .none kV18 dc18 pm18 an18 cd18 ct18), sl18⟩) (c18 : PySem.W.codeIn K cd18 "_law_is_rule" = true) (k18 : PySem.W.keepIn K (.ref f18) = true)
  {f19 : Addr} {od19 an19 : Option Addr} {sl19 : Array (Option Value)} {oc19 kV19 dc19 pm19 cd19 ct19 : Value}
  (a19 : PySem.W.nsIn K mainGlobals "_law_bent" = some (some (.ref f19))) (l19 : K.lookup f19 = some ⟨oc19, od19, .func (PySem.W.fnOf "_law_bent" "_law_bent" (defArgs s_l_bent) (defBody s_l_bent) (defScope s_l_bent) .none kV19 dc19 pm19 an19 cd19 ct19), sl19⟩) (c19 : PySem.W.codeIn K cd19 "_law_bent" = true) (k19 : PySem.W.keepIn K (.ref f19) = true)
  {f20 : Addr} {od20 an20 : Option Addr} {sl20 : Array (Option Value)} {oc20 kV20 dc20 pm20 cd20 ct20 : Value}
  (a20 : PySem.W.nsIn K mainGlobals "_law_odd" = some (some (.ref f20))) (l20 : K.lookup f20 = some ⟨oc20, od20, .func (PySem.W.fnOf "_law_odd" "_law_odd" (defArgs s_l_odd) (defBody s_l_odd) (defScope s_l_odd) .none kV20 dc20 pm20 an20 cd20 ct20), sl20⟩) (c20 : PySem.W.codeIn K cd20 "_law_odd" = true) (k20 : PySem.W.keepIn K (.ref f20) = true)
  {f21 : Addr} {od21 an21 : Option Addr} {sl21 : Array (Option Value)} {oc21 kV21 dc21 pm21 cd21 ct21 : Value}
  (a21 : PySem.W.nsIn K mainGlobals "_law_lines" = some (some (.ref f21))) (l21 : K.lookup f21 = some ⟨oc21, od21, .func (PySem.W.fnOf "_law_lines" "_law_lines" (defArgs s_l_lines) (defBody s_l_lines) (defScope s_l_lines) .none kV21 dc21 pm21 an21 cd21 ct21), sl21⟩) (c21 : PySem.W.codeIn K cd21 "_law_lines" = true) (k21 : PySem.W.keepIn K (.ref f21) = true)
  {f22 : Addr} {od22 an22 : Option Addr} {sl22 : Array (Option Value)} {oc22 kV22 dc22 pm22 cd22 ct22 : Value}
  (a22 : PySem.W.nsIn K mainGlobals "law" = some (some (.ref f22))) (l22 : K.lookup f22 = some ⟨oc22, od22, .func (PySem.W.fnOf "law" "law" (defArgs s_law) (defBody s_law) (defScope s_law) .none kV22 dc22 pm22 an22 cd22 ct22), sl22⟩) (c22 : PySem.W.codeIn K cd22 "law" = true) (k22 : PySem.W.keepIn K (.ref f22) = true)
  (z_ValueError : PySem.W.nsIn K mainGlobals "ValueError" = some none)
  (z_abs : PySem.W.nsIn K mainGlobals "abs" = some none)
  (z_bool : PySem.W.nsIn K mainGlobals "bool" = some none)
  (z_enumerate : PySem.W.nsIn K mainGlobals "enumerate" = some none)
  (z_int : PySem.W.nsIn K mainGlobals "int" = some none)
  (z_isinstance : PySem.W.nsIn K mainGlobals "isinstance" = some none)
  (z_len : PySem.W.nsIn K mainGlobals "len" = some none)
  (z_range : PySem.W.nsIn K mainGlobals "range" = some none)
  (z_str : PySem.W.nsIn K mainGlobals "str" = some none)
  (z_tuple : PySem.W.nsIn K mainGlobals "tuple" = some none)
  {kq_AMOUNT_WORDS : Addr} (ka_AMOUNT_WORDS : PySem.W.nsIn K mainGlobals "AMOUNT_WORDS" = some (some (.ref kq_AMOUNT_WORDS)))
  {kd_AMOUNT_WORDS : Option Addr} {kn_AMOUNT_WORDS : Nat} {ks_AMOUNT_WORDS : Array (Option Value)} {kt_AMOUNT_WORDS_0 kt_AMOUNT_WORDS_1 kt_AMOUNT_WORDS_2 kt_AMOUNT_WORDS_3 : Tok} (kl_AMOUNT_WORDS : K.lookup kq_AMOUNT_WORDS = some ⟨.type "tuple", kd_AMOUNT_WORDS, .seq #[(.str "from" kt_AMOUNT_WORDS_0), (.str "till" kt_AMOUNT_WORDS_1), (.str "over" kt_AMOUNT_WORDS_2), (.str "under" kt_AMOUNT_WORDS_3)] kn_AMOUNT_WORDS, ks_AMOUNT_WORDS⟩)
  {kq_BARE_WORDS : Addr} (ka_BARE_WORDS : PySem.W.nsIn K mainGlobals "BARE_WORDS" = some (some (.ref kq_BARE_WORDS)))
  {kd_BARE_WORDS : Option Addr} {kn_BARE_WORDS : Nat} {ks_BARE_WORDS : Array (Option Value)} {kt_BARE_WORDS_0 kt_BARE_WORDS_1 : Tok} (kl_BARE_WORDS : K.lookup kq_BARE_WORDS = some ⟨.type "tuple", kd_BARE_WORDS, .seq #[(.str "dark" kt_BARE_WORDS_0), (.str "sunny" kt_BARE_WORDS_1)] kn_BARE_WORDS, ks_BARE_WORDS⟩)
  {kt_DEED_WORDS : Tok} (ka_DEED_WORDS : PySem.W.nsIn K mainGlobals "DEED_WORDS" = some (some (.int 6 kt_DEED_WORDS)))
  {kt_FIGURES : Tok} (ka_FIGURES : PySem.W.nsIn K mainGlobals "FIGURES" = some (some (.str "0123456789" kt_FIGURES)))
  {kq_FILL_WORDS : Addr} (ka_FILL_WORDS : PySem.W.nsIn K mainGlobals "FILL_WORDS" = some (some (.ref kq_FILL_WORDS)))
  {kd_FILL_WORDS : Option Addr} {kn_FILL_WORDS : Nat} {ks_FILL_WORDS : Array (Option Value)} {kt_FILL_WORDS_0 kt_FILL_WORDS_1 kt_FILL_WORDS_2 : Tok} (kl_FILL_WORDS : K.lookup kq_FILL_WORDS = some ⟨.type "tuple", kd_FILL_WORDS, .seq #[(.str "none" kt_FILL_WORDS_0), (.str "sun" kt_FILL_WORDS_1), (.str "line" kt_FILL_WORDS_2)] kn_FILL_WORDS, ks_FILL_WORDS⟩)
  {kt_MOST_FIGURES : Tok} (ka_MOST_FIGURES : PySem.W.nsIn K mainGlobals "MOST_FIGURES" = some (some (.int 60 kt_MOST_FIGURES)))
  {kt_MOST_NUMBER : Tok} (ka_MOST_NUMBER : PySem.W.nsIn K mainGlobals "MOST_NUMBER" = some (some (.int 1000000 kt_MOST_NUMBER)))
  {kt_MOST_RULES : Tok} (ka_MOST_RULES : PySem.W.nsIn K mainGlobals "MOST_RULES" = some (some (.int 20 kt_MOST_RULES)))
  {kt_MOST_TESTS : Tok} (ka_MOST_TESTS : PySem.W.nsIn K mainGlobals "MOST_TESTS" = some (some (.int 6 kt_MOST_TESTS)))
  {kq_PRICE_WORDS : Addr} (ka_PRICE_WORDS : PySem.W.nsIn K mainGlobals "PRICE_WORDS" = some (some (.ref kq_PRICE_WORDS)))
  {kd_PRICE_WORDS : Option Addr} {kn_PRICE_WORDS : Nat} {ks_PRICE_WORDS : Array (Option Value)} {kt_PRICE_WORDS_0 kt_PRICE_WORDS_1 : Tok} (kl_PRICE_WORDS : K.lookup kq_PRICE_WORDS = some ⟨.type "tuple", kd_PRICE_WORDS, .seq #[(.str "dear" kt_PRICE_WORDS_0), (.str "cheap" kt_PRICE_WORDS_1)] kn_PRICE_WORDS, ks_PRICE_WORDS⟩)
  {kq_TAKE_WORDS : Addr} (ka_TAKE_WORDS : PySem.W.nsIn K mainGlobals "TAKE_WORDS" = some (some (.ref kq_TAKE_WORDS)))
  {kd_TAKE_WORDS : Option Addr} {kn_TAKE_WORDS : Nat} {ks_TAKE_WORDS : Array (Option Value)} {kt_TAKE_WORDS_0 kt_TAKE_WORDS_1 kt_TAKE_WORDS_2 : Tok} (kl_TAKE_WORDS : K.lookup kq_TAKE_WORDS = some ⟨.type "tuple", kd_TAKE_WORDS, .seq #[(.str "none" kt_TAKE_WORDS_0), (.str "need" kt_TAKE_WORDS_1), (.str "give" kt_TAKE_WORDS_2)] kn_TAKE_WORDS, ks_TAKE_WORDS⟩)
  {kq_WORK_WORDS : Addr} (ka_WORK_WORDS : PySem.W.nsIn K mainGlobals "WORK_WORDS" = some (some (.ref kq_WORK_WORDS)))
  {kd_WORK_WORDS : Option Addr} {kn_WORK_WORDS : Nat} {ks_WORK_WORDS : Array (Option Value)} {kt_WORK_WORDS_0 kt_WORK_WORDS_1 : Tok} (kl_WORK_WORDS : K.lookup kq_WORK_WORDS = some ⟨.type "tuple", kd_WORK_WORDS, .seq #[(.str "now" kt_WORK_WORDS_0), (.str "wait" kt_WORK_WORDS_1)] kn_WORK_WORDS, ks_WORK_WORDS⟩)
  {C_NoText : Addr} (xa_NoText : PySem.W.nsIn K mainGlobals "NoText" = some (some (.ref C_NoText)))
  {C_StoreError : Addr} (xa_StoreError : PySem.W.nsIn K mainGlobals "StoreError" = some (some (.ref C_StoreError)))
  {C_NoLine : Addr} (xa_NoLine : PySem.W.nsIn K mainGlobals "NoLine" = some (some (.ref C_NoLine)))
  {C_NoKeeper : Addr} (xa_NoKeeper : PySem.W.nsIn K mainGlobals "NoKeeper" = some (some (.ref C_NoKeeper)))
  {C_NoFraction : Addr} (xa_NoFraction : PySem.W.nsIn K mainGlobals "NoFraction" = some (some (.ref C_NoFraction)))
  {C_NoPrices : Addr} (xa_NoPrices : PySem.W.nsIn K mainGlobals "NoPrices" = some (some (.ref C_NoPrices)))
  {nmE qnE : Str} {NE f_init : Addr} {bsE : List Value} {snE : List Str} {subE : List Value} {abE : Bool} {colE : Option Bool} {ddE : Option Addr} {e0 e1 e2 e3 e5 : Option Value}
  (xl : K.lookup C_NoText = some (excClassObj nmE qnE C_NoText NE bsE (.ref C_StoreError :: valueMro) true snE subE abE colE ddE e0 e1 e2 e3 e5 "ValueError.__new__")) (x1 : PySem.W.nsOkIn K NE = true) (x2 : PySem.W.nsIn K NE "__init__" = some (some (.ref f_init))) (xt : PySem.W.tailIn K valueMro (.ref C_StoreError :: valueMro) = true)
  {odE anE : Option Addr} {slE : Array (Option Value)} {kVE dcE pmE cdE ctE : Value} (xli : K.lookup f_init = some ⟨.type "function", odE, .func (PySem.W.fnOf "__init__" "NoText.__init__" (defArgs s_init) (defBody s_init) (defScope s_init) .none kVE dcE pmE anE cdE ctE), slE⟩) (xci : PySem.W.codeIn K cdE "NoText.__init__" = true) (xki : PySem.W.keepIn K (.ref f_init) = true)
  {nmB qnB : Str} {NB : Addr} {bsB : List Value} {hdB : Bool} {snB : List Str} {subB : List Value} {abB : Bool} {colB : Option Bool} {ddB : Option Addr} {b0 b1 b2 b3 b5 : Option Value} {nidB : String}
  (xlb : K.lookup C_StoreError = some (excClassObj nmB qnB C_StoreError NB bsB valueMro hdB snB subB abB colB ddB b0 b1 b2 b3 b5 nidB))
  (y1 : PySem.W.findIn K (.ref C_NoText) "__setattr__" = some (some (.builtin "object.__setattr__"))) (y2 : PySem.W.findIn K (.ref C_NoText) "place" = some none) (y3 : PySem.W.readsIn K C_StoreError (.type "type") = true) (y4 : PySem.W.specialIn K (.ref C_StoreError) "__getattribute__" = some (some (.builtin "type.__getattribute__"))) (y5 : PySem.W.findCls K (.ref C_StoreError) (.type "type") "__init__" = some (.val (.builtin "ValueError.__init__"))) (w1 : PySem.W.findIn K (.ref C_NoText) "__getattribute__" = some (some (.builtin "BaseException.__getattribute__"))) (w2 : PySem.W.findIn K (.ref C_NoText) "__getattr__" = some none) (w3 : PySem.W.hasDictIn K C_NoText = true) (w4 : PySem.W.mroIn K C_NoText (.type "BaseException") = some true) (w5 : PySem.W.findIn K (.ref C_NoText) "__class__" = some (some (.builtin "object.__class__"))) (w6 : PySem.W.specialIn K (.builtin "object.__class__") "__get__" = some (some (.builtin "getset_descriptor.__get__"))) (w7 : PySem.W.takesIn K (.builtin "object.__class__") = some true) (w8 : PySem.W.mroIn K C_NoText (.type "object") = some true) (v0 : PySem.W.kitOne K (.ref C_NoText) (.type "tuple") = some false) (v1 : PySem.W.kitOne K (.ref C_NoText) (.type "list") = some false) (v2 : PySem.W.kitOne K (.ref C_NoText) (.type "bool") = some false) (v3 : PySem.W.kitOne K (.ref C_NoText) (.type "int") = some false) (v4 : PySem.W.kitOne K (.ref C_NoText) (.type "str") = some false) (xk : PySem.W.keepIn K (.ref C_NoText) = true) (kit_ValueError : PySem.W.kitOne K (.ref C_NoText) (.type "ValueError") = some true) (kit0_ValueError : PySem.W.kitOne K (.type "NoneType") (.type "ValueError") = some false) (kit_NoText : PySem.W.kitOne K (.ref C_NoText) (.ref C_NoText) = some true) (kit0_NoText : PySem.W.kitOne K (.type "NoneType") (.ref C_NoText) = some false) (kit_NoLine : PySem.W.kitOne K (.ref C_NoText) (.ref C_NoLine) = some false) (kit0_NoLine : PySem.W.kitOne K (.type "NoneType") (.ref C_NoLine) = some false) (kit_NoKeeper : PySem.W.kitOne K (.ref C_NoText) (.ref C_NoKeeper) = some false) (kit0_NoKeeper : PySem.W.kitOne K (.type "NoneType") (.ref C_NoKeeper) = some false) (kit_NoFraction : PySem.W.kitOne K (.ref C_NoText) (.ref C_NoFraction) = some false) (kit0_NoFraction : PySem.W.kitOne K (.type "NoneType") (.ref C_NoFraction) = some false) (kit_NoPrices : PySem.W.kitOne K (.ref C_NoText) (.ref C_NoPrices) = some false) (kit0_NoPrices : PySem.W.kitOne K (.type "NoneType") (.ref C_NoPrices) = some false) :
  ∃ fd : FuncData, (∀ (s : Shared) (v : Value), BindsTo s fd ⟨[v], []⟩ [("_law_script", v)]) /\ ∀ base : Heap, K.In base -> base.Ns mainGlobals mg -> FnOk l.prog w K mg base CX0 9 fa fd ["_law_script"] ((fun vs H Q E => ∀ cE, spF K (F_law cE) vs H Q E)) := by
 have e := hfa.symm.trans (PySem.W.mg_of X G a22)
 cases e
 have F0 := fun_mk (st := s_common_divisor) l0 c0 k0
 have F1 := fun_mk (st := s_fraction) l1 c1 k1
 have F2 := fun_mk (st := s_figures_of) l2 c2 k2
 have F3 := fun_mk (st := s_written) l3 c3 k3
 have F4 := fun_mk (st := s_read_figures) l4 c4 k4
 have F5 := fun_mk (st := s_read_signed) l5 c5 k5
 have F6 := fun_mk (st := s_read_fraction) l6 c6 k6
 have F7 := fun_mk (st := s_read_bound) l7 c7 k7
 have F8 := fun_mk (st := s_read_test) l8 c8 k8
 have F9 := fun_mk (st := s_read_tests) l9 c9 k9
 have F10 := fun_mk (st := s_read_deeds) l10 c10 k10
 have F11 := fun_mk (st := s_read_rule) l11 c11 k11
 have F12 := fun_mk (st := s_read_keeper) l12 c12 k12
 have F13 := fun_mk (st := s_l_mixed) l13 c13 k13
 have F14 := fun_mk (st := s_l_rule_line) l14 c14 k14
 have F15 := fun_mk (st := s_l_wide_test) l15 c15 k15
 have F16 := fun_mk (st := s_l_wide_rule) l16 c16 k16
 have F17 := fun_mk (st := s_l_is_number) l17 c17 k17
 have F18 := fun_mk (st := s_l_is_rule) l18 c18 k18
 have F19 := fun_mk (st := s_l_bent) l19 c19 k19
 have F20 := fun_mk (st := s_l_odd) l20 c20 k20
 have F21 := fun_mk (st := s_l_lines) l21 c21 k21
 have F22 := fun_mk (st := s_law) l22 c22 k22
 let ad : Ads := ⟨f0, PySem.W.fnOf "common_divisor" "common_divisor" (defArgs s_common_divisor) (defBody s_common_divisor) (defScope s_common_divisor) .none kV0 dc0 pm0 an0 cd0 ct0, f1, PySem.W.fnOf "fraction" "fraction" (defArgs s_fraction) (defBody s_fraction) (defScope s_fraction) .none kV1 dc1 pm1 an1 cd1 ct1, f2, PySem.W.fnOf "figures_of" "figures_of" (defArgs s_figures_of) (defBody s_figures_of) (defScope s_figures_of) .none kV2 dc2 pm2 an2 cd2 ct2, f3, PySem.W.fnOf "written" "written" (defArgs s_written) (defBody s_written) (defScope s_written) .none kV3 dc3 pm3 an3 cd3 ct3, f4, PySem.W.fnOf "read_figures" "read_figures" (defArgs s_read_figures) (defBody s_read_figures) (defScope s_read_figures) .none kV4 dc4 pm4 an4 cd4 ct4, f5, PySem.W.fnOf "read_signed" "read_signed" (defArgs s_read_signed) (defBody s_read_signed) (defScope s_read_signed) .none kV5 dc5 pm5 an5 cd5 ct5, f6, PySem.W.fnOf "read_fraction" "read_fraction" (defArgs s_read_fraction) (defBody s_read_fraction) (defScope s_read_fraction) .none kV6 dc6 pm6 an6 cd6 ct6, f7, PySem.W.fnOf "read_bound" "read_bound" (defArgs s_read_bound) (defBody s_read_bound) (defScope s_read_bound) .none kV7 dc7 pm7 an7 cd7 ct7, f8, PySem.W.fnOf "read_test" "read_test" (defArgs s_read_test) (defBody s_read_test) (defScope s_read_test) .none kV8 dc8 pm8 an8 cd8 ct8, f9, PySem.W.fnOf "read_tests" "read_tests" (defArgs s_read_tests) (defBody s_read_tests) (defScope s_read_tests) .none kV9 dc9 pm9 an9 cd9 ct9, f10, PySem.W.fnOf "read_deeds" "read_deeds" (defArgs s_read_deeds) (defBody s_read_deeds) (defScope s_read_deeds) .none kV10 dc10 pm10 an10 cd10 ct10, f11, PySem.W.fnOf "read_rule" "read_rule" (defArgs s_read_rule) (defBody s_read_rule) (defScope s_read_rule) .none kV11 dc11 pm11 an11 cd11 ct11, f12, PySem.W.fnOf "read_keeper" "read_keeper" (defArgs s_read_keeper) (defBody s_read_keeper) (defScope s_read_keeper) .none kV12 dc12 pm12 an12 cd12 ct12, f13, PySem.W.fnOf "_law_mixed" "_law_mixed" (defArgs s_l_mixed) (defBody s_l_mixed) (defScope s_l_mixed) .none kV13 dc13 pm13 an13 cd13 ct13, f14, PySem.W.fnOf "_law_rule_line" "_law_rule_line" (defArgs s_l_rule_line) (defBody s_l_rule_line) (defScope s_l_rule_line) .none kV14 dc14 pm14 an14 cd14 ct14, f15, PySem.W.fnOf "_law_wide_test" "_law_wide_test" (defArgs s_l_wide_test) (defBody s_l_wide_test) (defScope s_l_wide_test) .none kV15 dc15 pm15 an15 cd15 ct15, f16, PySem.W.fnOf "_law_wide_rule" "_law_wide_rule" (defArgs s_l_wide_rule) (defBody s_l_wide_rule) (defScope s_l_wide_rule) .none kV16 dc16 pm16 an16 cd16 ct16, f17, PySem.W.fnOf "_law_is_number" "_law_is_number" (defArgs s_l_is_number) (defBody s_l_is_number) (defScope s_l_is_number) .none kV17 dc17 pm17 an17 cd17 ct17, f18, PySem.W.fnOf "_law_is_rule" "_law_is_rule" (defArgs s_l_is_rule) (defBody s_l_is_rule) (defScope s_l_is_rule) .none kV18 dc18 pm18 an18 cd18 ct18, f19, PySem.W.fnOf "_law_bent" "_law_bent" (defArgs s_l_bent) (defBody s_l_bent) (defScope s_l_bent) .none kV19 dc19 pm19 an19 cd19 ct19, f20, PySem.W.fnOf "_law_odd" "_law_odd" (defArgs s_l_odd) (defBody s_l_odd) (defScope s_l_odd) .none kV20 dc20 pm20 an20 cd20 ct20, f21, PySem.W.fnOf "_law_lines" "_law_lines" (defArgs s_l_lines) (defBody s_l_lines) (defScope s_l_lines) .none kV21 dc21 pm21 an21 cd21 ct21, fa, PySem.W.fnOf "law" "law" (defArgs s_law) (defBody s_law) (defScope s_law) .none kV22 dc22 pm22 an22 cd22 ct22, .ref kq_AMOUNT_WORDS, .ref kq_AMOUNT_WORDS, .ref kq_BARE_WORDS, .ref kq_BARE_WORDS, .int (6) kt_DEED_WORDS, .int (6), .str "0123456789" kt_FIGURES, .str "0123456789", .ref kq_FILL_WORDS, .ref kq_FILL_WORDS, .int (60) kt_MOST_FIGURES, .int (60), .int (1000000) kt_MOST_NUMBER, .int (1000000), .int (20) kt_MOST_RULES, .int (20), .int (6) kt_MOST_TESTS, .int (6), .ref kq_PRICE_WORDS, .ref kq_PRICE_WORDS, .ref kq_TAKE_WORDS, .ref kq_TAKE_WORDS, .ref kq_WORK_WORDS, .ref kq_WORK_WORDS, C_NoText, C_StoreError, C_NoLine, C_NoKeeper, C_NoFraction, C_NoPrices, f_init, PySem.W.fnOf "__init__" "NoText.__init__" (defArgs s_init) (defBody s_init) (defScope s_init) .none kVE dcE pmE anE cdE ctE⟩
 have FI := fun_mk (st := s_init) xli xci xki
 have T : Txt K mg ad := ⟨F0, PySem.W.mg_of X G a0, F0.binds (ps := ["one", "other"]) fun _ _ _ _ _ _ us hl => match us, hl with | [_, _], _ => rfl, F1, PySem.W.mg_of X G a1, F1.binds (ps := ["top", "bottom"]) fun _ _ _ _ _ _ us hl => match us, hl with | [_, _], _ => rfl, F2, PySem.W.mg_of X G a2, F2.binds (ps := ["number"]) fun _ _ _ _ _ _ us hl => match us, hl with | [_], _ => rfl, F3, PySem.W.mg_of X G a3, F3.binds (ps := ["one"]) fun _ _ _ _ _ _ us hl => match us, hl with | [_], _ => rfl, F4, PySem.W.mg_of X G a4, F4.binds (ps := ["text"]) fun _ _ _ _ _ _ us hl => match us, hl with | [_], _ => rfl, F5, PySem.W.mg_of X G a5, F5.binds (ps := ["text"]) fun _ _ _ _ _ _ us hl => match us, hl with | [_], _ => rfl, F6, PySem.W.mg_of X G a6, F6.binds (ps := ["text"]) fun _ _ _ _ _ _ us hl => match us, hl with | [_], _ => rfl, F7, PySem.W.mg_of X G a7, F7.binds (ps := ["word", "least"]) fun _ _ _ _ _ _ us hl => match us, hl with | [_, _], _ => rfl, F8, PySem.W.mg_of X G a8, F8.binds (ps := ["words"]) fun _ _ _ _ _ _ us hl => match us, hl with | [_], _ => rfl, F9, PySem.W.mg_of X G a9, F9.binds (ps := ["words"]) fun _ _ _ _ _ _ us hl => match us, hl with | [_], _ => rfl, F10, PySem.W.mg_of X G a10, F10.binds (ps := ["words"]) fun _ _ _ _ _ _ us hl => match us, hl with | [_], _ => rfl, F11, PySem.W.mg_of X G a11, F11.binds (ps := ["line"]) fun _ _ _ _ _ _ us hl => match us, hl with | [_], _ => rfl, F12, PySem.W.mg_of X G a12, F12.binds (ps := ["lines"]) fun _ _ _ _ _ _ us hl => match us, hl with | [_], _ => rfl, F13, PySem.W.mg_of X G a13, F13.binds (ps := ["_law_script", "_law_k"]) fun _ _ _ _ _ _ us hl => match us, hl with | [_, _], _ => rfl, F14, PySem.W.mg_of X G a14, F14.binds (ps := ["_law_rule"]) fun _ _ _ _ _ _ us hl => match us, hl with | [_], _ => rfl, F15, PySem.W.mg_of X G a15, F15.binds (ps := ["_law_script", "_law_k"]) fun _ _ _ _ _ _ us hl => match us, hl with | [_, _], _ => rfl, F16, PySem.W.mg_of X G a16, F16.binds (ps := ["_law_script", "_law_k"]) fun _ _ _ _ _ _ us hl => match us, hl with | [_, _], _ => rfl, F17, PySem.W.mg_of X G a17, F17.binds (ps := ["_law_word", "_law_below"]) fun _ _ _ _ _ _ us hl => match us, hl with | [_, _], _ => rfl, F18, PySem.W.mg_of X G a18, F18.binds (ps := ["_law_line"]) fun _ _ _ _ _ _ us hl => match us, hl with | [_], _ => rfl, F19, PySem.W.mg_of X G a19, F19.binds (ps := ["_law_line", "_law_by", "_law_more"]) fun _ _ _ _ _ _ us hl => match us, hl with | [_, _, _], _ => rfl, F20, PySem.W.mg_of X G a20, F20.binds (ps := ["_law_by"]) fun _ _ _ _ _ _ us hl => match us, hl with | [_], _ => rfl, F21, PySem.W.mg_of X G a21, F21.binds (ps := ["_law_script"]) fun _ _ _ _ _ _ us hl => match us, hl with | [_], _ => rfl, F22, PySem.W.mg_of X G a22, F22.binds (ps := ["_law_script"]) fun _ _ _ _ _ _ us hl => match us, hl with | [_], _ => rfl, PySem.W.mg_none_of X G z_ValueError, PySem.W.mg_none_of X G z_abs, PySem.W.mg_none_of X G z_bool, PySem.W.mg_none_of X G z_enumerate, PySem.W.mg_none_of X G z_int, PySem.W.mg_none_of X G z_isinstance, PySem.W.mg_none_of X G z_len, PySem.W.mg_none_of X G z_range, PySem.W.mg_none_of X G z_str, PySem.W.mg_none_of X G z_tuple, PySem.W.mg_of X G xa_NoText, PySem.W.mg_of X G xa_StoreError, PySem.W.mg_of X G xa_NoLine, PySem.W.mg_of X G xa_NoKeeper, PySem.W.mg_of X G xa_NoFraction, PySem.W.mg_of X G xa_NoPrices, ⟨⟨nmE, qnE, NE, bsE, snE, subE, abE, colE, ddE, e0, e1, e2, e3, e5, xl, x1, x2⟩, xt, ⟨_, xli, rfl⟩, y1, y2, y3, y4, y5⟩, ⟨w1, w2, w3, w4, w5, w6, w7, w8, v0, v1, v2, v3, v4⟩, xk, FI, FI.binds (ps := ["self", "place"]) fun _ _ _ _ _ _ us hl => match us, hl with | [_, _], _ => rfl, ⟨nmB, qnB, NB, bsB, _, hdB, snB, subB, abB, colB, ddB, b0, b1, b2, b3, b5, nidB, xlb, by simp [valueMro]⟩, kit_ValueError, kit0_ValueError, kit_NoText, kit0_NoText, kit_NoLine, kit0_NoLine, kit_NoKeeper, kit0_NoKeeper, kit_NoFraction, kit0_NoFraction, kit_NoPrices, kit0_NoPrices, const_tup (vs := [.str "from", .str "till", .str "over", .str "under"]) (PySem.W.mg_of X G ka_AMOUNT_WORDS) kl_AMOUNT_WORDS (by simp) (.cons ⟨_, rfl⟩ (.cons ⟨_, rfl⟩ (.cons ⟨_, rfl⟩ (.cons ⟨_, rfl⟩ .nil)))) fun H => (.cons (.str _) (.cons (.str _) (.cons (.str _) (.cons (.str _) .nil)))), const_tup (vs := [.str "dark", .str "sunny"]) (PySem.W.mg_of X G ka_BARE_WORDS) kl_BARE_WORDS (by simp) (.cons ⟨_, rfl⟩ (.cons ⟨_, rfl⟩ .nil)) fun H => (.cons (.str _) (.cons (.str _) .nil)), const_flat (PySem.W.mg_of X G ka_DEED_WORDS) ⟨_, rfl⟩ fun _ => .int _, const_flat (PySem.W.mg_of X G ka_FIGURES) ⟨_, rfl⟩ fun _ => .str _, const_tup (vs := [.str "none", .str "sun", .str "line"]) (PySem.W.mg_of X G ka_FILL_WORDS) kl_FILL_WORDS (by simp) (.cons ⟨_, rfl⟩ (.cons ⟨_, rfl⟩ (.cons ⟨_, rfl⟩ .nil))) fun H => (.cons (.str _) (.cons (.str _) (.cons (.str _) .nil))), const_flat (PySem.W.mg_of X G ka_MOST_FIGURES) ⟨_, rfl⟩ fun _ => .int _, const_flat (PySem.W.mg_of X G ka_MOST_NUMBER) ⟨_, rfl⟩ fun _ => .int _, const_flat (PySem.W.mg_of X G ka_MOST_RULES) ⟨_, rfl⟩ fun _ => .int _, const_flat (PySem.W.mg_of X G ka_MOST_TESTS) ⟨_, rfl⟩ fun _ => .int _, const_tup (vs := [.str "dear", .str "cheap"]) (PySem.W.mg_of X G ka_PRICE_WORDS) kl_PRICE_WORDS (by simp) (.cons ⟨_, rfl⟩ (.cons ⟨_, rfl⟩ .nil)) fun H => (.cons (.str _) (.cons (.str _) .nil)), const_tup (vs := [.str "none", .str "need", .str "give"]) (PySem.W.mg_of X G ka_TAKE_WORDS) kl_TAKE_WORDS (by simp) (.cons ⟨_, rfl⟩ (.cons ⟨_, rfl⟩ (.cons ⟨_, rfl⟩ .nil))) fun H => (.cons (.str _) (.cons (.str _) (.cons (.str _) .nil))), const_tup (vs := [.str "now", .str "wait"]) (PySem.W.mg_of X G ka_WORK_WORDS) kl_WORK_WORDS (by simp) (.cons ⟨_, rfl⟩ (.cons ⟨_, rfl⟩ .nil)) fun H => (.cons (.str _) (.cons (.str _) .nil))⟩
 exact ⟨PySem.W.fnOf "law" "law" (defArgs s_law) (defBody s_law) (defScope s_law) .none kV22 dc22 pm22 an22 cd22 ct22, fun s v => .of_eq rfl, fun base _ _ => (ok_law T).imp fun vs H Q E h => h _⟩
theorem walk {l : PySem.W.OpenLaw} {q : Program} {loose : List Str} {XP : (Str -> Option Value) -> Heap -> Prop} {YP : World -> Heap -> Prop} {d : DefRec} {K : Params -> PySem.W.Frag} (hL : ∀ (cE : Addr) (ns : List Int), ns.length <= 63 -> F_law cE [.list (ns.map .int)] = some (.dat (.bool true))) (hn : l.most = some 63) (hdf : d.params.defaults = [])
  (hY : ∀ (w : World) (h : Heap), YP w h -> (K w.params).In h)
  (F : ∀ (w : World) (mg : Str -> Option Value) (fa : Addr) (h : Heap), (K w.params).In h -> h.Ns mainGlobals mg -> mg d.name = some (.ref fa) ->
   ∃ fd : FuncData, (∀ (s : Shared) (u : Value), BindsTo s fd ⟨[u], []⟩ [("_law_script", u)]) /\ ∀ base : Heap, (K w.params).In base -> base.Ns mainGlobals mg -> FnOk l.prog w (K w.params) mg base CX0 9 fa fd ["_law_script"] ((fun vs H Q E => ∀ cE, spF (K w.params) (F_law cE) vs H Q E))) :
  PySem.W.WalkO q loose XP YP l.row.toRowW d [] (fun f vs => PySem.call f vs) :=
 L2.walk_of (n := 63) (k := 9) (x := "_law_script") (CX := fun _ => CX0) (sp := fun w => (fun vs H Q E => ∀ cE, spF (K w.params) (F_law cE) vs H Q E)) hn (by decide) hdf ⟨rfl, by decide, by decide⟩ hY F (fun _ _ a ns hl _ hS => fun cE => ⟨[], [.list (ns.map .int)], _, fun a h => absurd h (by simp), .cons (.lst (sqL_hid hS) (dts_ints ns)) .nil, hL cE ns hl, fun v H' _ r => dt_true r⟩) fun _ _ _ _ _ z => z
end Law
noncomputable def PySem.W.Fast.tw10582842501171454200 : Unit := ()
noncomputable def PySem.W.Fast.tw17739585437933892071 : Unit := ()
noncomputable def PySem.W.Fast.tw2001556227246968804 : Unit := ()
noncomputable def PySem.W.Fast.tw1930507239251685597 : Unit := ()
noncomputable def PySem.W.Fast.tw3830334183816300132 : Unit := ()
noncomputable def PySem.W.Fast.tw10030914538470811315 : Unit := ()
noncomputable def PySem.W.Fast.tw14568314494832618497 : Unit := ()
noncomputable def PySem.W.Fast.tw12761859161383443322 : Unit := ()
open PySem PySem.W PyProof.Rows
set_option maxRecDepth 100000 in
set_option maxHeartbeats 0 in
theorem PySem.Challenge.cw_sunstore_k71_lines_of_no_rule_holds : PySem.Challenge.rw_sunstore_k71_lines_of_no_rule.Holds := by
 w_on; o_law; k_head; (case hw => w_witness2)
 k_fill
 refine Law.walk (l := PySem.Challenge.rw_sunstore_k71_lines_of_no_rule) Law.law_true rfl rfl (fun w h Y => PySem.W.kIn_of Y) ?F
 case F =>
  intro w mg fa h KX G hmg
  refine' Law.all_mk KX G hmg ?a0 ?l0 ?c0 ?k0 ?a1 ?l1 ?c1 ?k1 ?a2 ?l2 ?c2 ?k2 ?a3 ?l3 ?c3 ?k3 ?a4 ?l4 ?c4 ?k4 ?a5 ?l5 ?c5 ?k5 ?a6 ?l6 ?c6 ?k6 ?a7 ?l7 ?c7 ?k7 ?a8 ?l8 ?c8 ?k8 ?a9 ?l9 ?c9 ?k9 ?a10 ?l10 ?c10 ?k10 ?a11 ?l11 ?c11 ?k11 ?a12 ?l12 ?c12 ?k12 ?a13 ?l13 ?c13 ?k13 ?a14 ?l14 ?c14 ?k14 ?a15 ?l15 ?c15 ?k15 ?a16 ?l16 ?c16 ?k16 ?a17 ?l17 ?c17 ?k17 ?a18 ?l18 ?c18 ?k18 ?a19 ?l19 ?c19 ?k19 ?a20 ?l20 ?c20 ?k20 ?a21 ?l21 ?c21 ?k21 ?a22 ?l22 ?c22 ?k22 ?z_ValueError ?z_abs ?z_bool ?z_enumerate ?z_int ?z_isinstance ?z_len ?z_range ?z_str ?z_tuple ?ka_AMOUNT_WORDS ?kl_AMOUNT_WORDS ?ka_BARE_WORDS ?kl_BARE_WORDS ?ka_DEED_WORDS ?ka_FIGURES ?ka_FILL_WORDS ?kl_FILL_WORDS ?ka_MOST_FIGURES ?ka_MOST_NUMBER ?ka_MOST_RULES ?ka_MOST_TESTS ?ka_PRICE_WORDS ?kl_PRICE_WORDS ?ka_TAKE_WORDS ?kl_TAKE_WORDS ?ka_WORK_WORDS ?kl_WORK_WORDS ?xa_NoText ?xa_StoreError ?xa_NoLine ?xa_NoKeeper ?xa_NoFraction ?xa_NoPrices ?xl ?x1 ?x2 ?xt ?xli ?xci ?xki ?xlb ?y1 ?y2 ?y3 ?y4 ?y5 ?w1 ?w2 ?w3 ?w4 ?w5 ?w6 ?w7 ?w8 ?v0 ?v1 ?v2 ?v3 ?v4 ?xk ?kit_ValueError ?kit0_ValueError ?kit_NoText ?kit0_NoText ?kit_NoLine ?kit0_NoLine ?kit_NoKeeper ?kit0_NoKeeper ?kit_NoFraction ?kit0_NoFraction ?kit_NoPrices ?kit0_NoPrices
  (case a0 => k_is)
  (case l0 => k_is)
  (case c0 => k_is)
  (case k0 => k_is)
  (case a1 => k_is)
  (case l1 => k_is)
  (case c1 => k_is)
  (case k1 => k_is)
  (case a2 => k_is)
  (case l2 => k_is)
  (case c2 => k_is)
  (case k2 => k_is)
  (case a3 => k_is)
  (case l3 => k_is)
  (case c3 => k_is)
  (case k3 => k_is)
  (case a4 => k_is)
  (case l4 => k_is)
  (case c4 => k_is)
  (case k4 => k_is)
  (case a5 => k_is)
  (case l5 => k_is)
  (case c5 => k_is)
  (case k5 => k_is)
  (case a6 => k_is)
  (case l6 => k_is)
  (case c6 => k_is)
  (case k6 => k_is)
  (case a7 => k_is)
  (case l7 => k_is)
  (case c7 => k_is)
  (case k7 => k_is)
  (case a8 => k_is)
  (case l8 => k_is)
  (case c8 => k_is)
  (case k8 => k_is)
  (case a9 => k_is)
  (case l9 => k_is)
  (case c9 => k_is)
  (case k9 => k_is)
  (case a10 => k_is)
  (case l10 => k_is)
  (case c10 => k_is)
  (case k10 => k_is)
  (case a11 => k_is)
  (case l11 => k_is)
  (case c11 => k_is)
  (case k11 => k_is)
  (case a12 => k_is)
  (case l12 => k_is)
  (case c12 => k_is)
  (case k12 => k_is)
  (case a13 => k_is)
  (case l13 => k_is)
  (case c13 => k_is)
  (case k13 => k_is)
  (case a14 => k_is)
  (case l14 => k_is)
  (case c14 => k_is)
  (case k14 => k_is)
  (case a15 => k_is)
  (case l15 => k_is)
  (case c15 => k_is)
  (case k15 => k_is)
  (case a16 => k_is)
  (case l16 => k_is)
  (case c16 => k_is)
  (case k16 => k_is)
  (case a17 => k_is)
  (case l17 => k_is)
  (case c17 => k_is)
  (case k17 => k_is)
  (case a18 => k_is)
  (case l18 => k_is)
  (case c18 => k_is)
  (case k18 => k_is)
  (case a19 => k_is)
  (case l19 => k_is)
  (case c19 => k_is)
  (case k19 => k_is)
  (case a20 => k_is)
  (case l20 => k_is)
  (case c20 => k_is)
  (case k20 => k_is)
  (case a21 => k_is)
  (case l21 => k_is)
  (case c21 => k_is)
  (case k21 => k_is)
  (case a22 => k_is)
  (case l22 => k_is)
  (case c22 => k_is)
  (case k22 => k_is)
  (case z_ValueError => k_is)
  (case z_abs => k_is)
  (case z_bool => k_is)
  (case z_enumerate => k_is)
  (case z_int => k_is)
  (case z_isinstance => k_is)
  (case z_len => k_is)
  (case z_range => k_is)
  (case z_str => k_is)
  (case z_tuple => k_is)
  (case ka_AMOUNT_WORDS => k_is)
  (case kl_AMOUNT_WORDS => k_is)
  (case ka_BARE_WORDS => k_is)
  (case kl_BARE_WORDS => k_is)
  (case ka_DEED_WORDS => k_is)
  (case ka_FIGURES => k_is)
  (case ka_FILL_WORDS => k_is)
  (case kl_FILL_WORDS => k_is)
  (case ka_MOST_FIGURES => k_is)
  (case ka_MOST_NUMBER => k_is)
  (case ka_MOST_RULES => k_is)
  (case ka_MOST_TESTS => k_is)
  (case ka_PRICE_WORDS => k_is)
  (case kl_PRICE_WORDS => k_is)
  (case ka_TAKE_WORDS => k_is)
  (case kl_TAKE_WORDS => k_is)
  (case ka_WORK_WORDS => k_is)
  (case kl_WORK_WORDS => k_is)
  (case xa_NoText => k_is)
  (case xa_StoreError => k_is)
  (case xa_NoLine => k_is)
  (case xa_NoKeeper => k_is)
  (case xa_NoFraction => k_is)
  (case xa_NoPrices => k_is)
  (case xl => k_is)
  (case x1 => kernel_rfl)
  (case x2 => k_is)
  (case xt => kernel_rfl)
  (case xli => k_is)
  (case xci => k_is)
  (case xki => k_is)
  (case xlb => k_is)
  (case y1 => k_is)
  (case y2 => k_is)
  (case y3 => k_is)
  (case y4 => k_is)
  (case y5 => k_is)
  (case w1 => k_is)
  (case w2 => k_is)
  (case w3 => k_is)
  (case w4 => k_is)
  (case w5 => k_is)
  (case w6 => k_is)
  (case w7 => k_is)
  (case w8 => k_is)
  (case v0 => kit_is)
  (case v1 => kit_is)
  (case v2 => kit_is)
  (case v3 => kit_is)
  (case v4 => kit_is)
  (case xk => k_is)
  (case kit_ValueError => kit_is)
  (case kit0_ValueError => kit_is)
  (case kit_NoText => kit_is)
  (case kit0_NoText => kit_is)
  (case kit_NoLine => kit_is)
  (case kit0_NoLine => kit_is)
  (case kit_NoKeeper => kit_is)
  (case kit0_NoKeeper => kit_is)
  (case kit_NoFraction => kit_is)
  (case kit0_NoFraction => kit_is)
  (case kit_NoPrices => kit_is)
  (case kit0_NoPrices => kit_is)
