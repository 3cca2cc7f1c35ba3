import PyProof.Rows.All
import Wide.All
import OpenK.AllK
import Wide.FinOn
import Lean
import PyProof.EqAt
import PyProof.EqKinds
import PyProof.TupleCall
import PySem.Challenge.RW_sunstore_k06_lines_that_never_stand
set_option Elab.async false
set_option linter.all false
set_option maxRecDepth 100000
open List (mem_filter mem_range mem_cons_self mem_cons_of_mem mem_cons mem_append mem_append_right append_nil length_take length_append length_map length_replicate size_toArray length_drop all_cons any_cons length_singleton map_nil map_cons forIn_cons all_eq_true mem_map mem_singleton length_cons take_succ_cons drop_succ_cons set_cons_zero set_cons_succ mem_or_eq_of_mem_set length_zipWith drop_length cons_append nil_append length_nil map_append take_of_length_le drop_of_length_le not_mem_nil append_assoc map_map take_append mem_of_mem_take flatten_cons map_take mem_of_mem_drop map_drop)
namespace L2
open PySem PySem.Spec PyProof.Rows
noncomputable abbrev Key:=Sum Int Str
noncomputable def c3h:Key->Value->Bool
 | .inl k,v=>Value.isInt k v
 | .inr x,v=>Value.isStrOf x v
noncomputable def c7Q (w:World):Key->Int
 | .inl k=>hashInt k
 | .inr x=>hashStr w x
theorem Q8:∀ {k:Key} {v:Value},c3h k v=true->(∃ i t,k=Sum.inl i/\v=Value.int i t)\/(∃ x t,k=Sum.inr x/\v=Value.str x t)
 | .inl i,v,h=>by
  obtain ⟨t,e⟩:=Value.isInt_shape (k:=i) (v:=v) h
  exact .inl ⟨i,t,rfl,e⟩
 | .inr x,v,h=>by
  obtain ⟨t,e⟩:=Value.isStrOf_shape (x:=x) (v:=v) h
  exact .inr ⟨x,t,rfl,e⟩
theorem c6u (a b:Int):decide ((Sum.inl a:Key)=Sum.inl b)=(a==b):=by
 by_cases e:a=b
 . subst e;simp
 . have h:¬ (Sum.inl a:Key)=Sum.inl b:=fun q=>e (Sum.inl.inj q)
   rw [decide_eq_false h]
   exact (beq_eq_false_iff_ne.mpr e).symm
theorem c6r (a b:Str):decide ((Sum.inr a:Key)=Sum.inr b)=decide (a=b):=by
 by_cases e:a=b
 . subst e;simp
 . have h:¬ (Sum.inr a:Key)=Sum.inr b:=fun q=>e (Sum.inr.inj q)
   rw [decide_eq_false h,decide_eq_false e]
theorem c6t (a:Int) (b:Str):decide ((Sum.inl a:Key)=Sum.inr b)=false:=decide_eq_false (fun q=>nomatch q)
theorem c6s (a:Str) (b:Int):decide ((Sum.inr a:Key)=Sum.inl b)=false:=decide_eq_false (fun q=>nomatch q)
noncomputable def b6E (prog:Program) (w:World):PySem.KeyKind prog w Key where
 is:=c3h
 hash:=c7Q w
 inj:=fun v a b ha hb=>by
  rcases Q8 ha with ⟨i,t,rfl,rfl⟩ | ⟨x,t,rfl,rfl⟩
  . rcases Q8 hb with ⟨j,u,rfl,e⟩ | ⟨y,u,rfl,e⟩
    . injection e with e1 _;rw [e1]
    . exact nomatch e
  . rcases Q8 hb with ⟨j,u,rfl,e⟩ | ⟨y,u,rfl,e⟩
    . exact nomatch e
    . injection e with e1 _;rw [e1]
 byValue:=fun k v h=>by
  rcases Q8 h with ⟨i,t,rfl,rfl⟩ | ⟨x,t,rfl,rfl⟩ <;> rfl
 pyHash:=fun hv h=>by
  rcases Q8 hv with ⟨i,t,rfl,rfl⟩ | ⟨x,t,rfl,rfl⟩
  . exact wpAny_pyHash_int h
  . exact wpAny_pyHash_str h
 eqBool:=fun hu hv h=>by
  rcases Q8 hu with ⟨i,t,rfl,rfl⟩ | ⟨x,t,rfl,rfl⟩
  . rcases Q8 hv with ⟨j,u,rfl,rfl⟩ | ⟨y,u,rfl,rfl⟩
    . rw [c6u] at h;exact wpAny_eqBool_int h
    . rw [c6t] at h;exact SeqAt.EqAt.int_str i t y u _ _ _ _ h
  . rcases Q8 hv with ⟨j,u,rfl,rfl⟩ | ⟨y,u,rfl,rfl⟩
    . rw [c6s] at h;exact SeqAt.EqAt.str_int x t j u _ _ _ _ h
    . rw [c6r] at h;exact wpAny_eqBool_str h
 «strs»:=fun k x t v h=>by
  rcases Q8 h with ⟨i,u,rfl,e⟩ | ⟨y,u,rfl,e⟩
  . exact nomatch e
  . injection e with e1 _
    subst e1
    cases v <;> rfl
inductive V where
 | non | bl (b:Bool) | int (i:Int) | str (x:Str) | byt (b:Array UInt8) | flt (b:UInt64) | ref (a:Addr) | ty (n:String)
 deriving DecidableEq
noncomputable def RelV:V->Value->Prop
 | .non,u=>u=Value.none
 | .bl b,u=>u=Value.bool b
 | .int i,u=>∃ t,u=Value.int i t
 | .str x,u=>∃ t,u=Value.str x t
 | .byt b,u=>∃ t,u=Value.bytes b t
 | .flt b,u=>∃ t,u=Value.float b t
 | .ref a,u=>u=Value.ref a
 | .ty n,u=>u=Value.type n
noncomputable abbrev Vals:List V->List Value->Prop:=Paired RelV
theorem Vals.length {xs:List V} {us:List Value} (r:Vals xs us):xs.length=us.length:=Paired.length r
theorem Vals.get:∀ {xs:List V} {us:List Value} {i:Nat} {x:V},Vals xs us->xs[i]? = some x->∃ u,us[i]? = some u/\RelV x u
 | _,_,_,_,.nil,e=>by simp at e
 | _,_,0,_,.cons r _,e=>by simp at e;subst e;exact ⟨_,rfl,r⟩
 | _,_,i + 1,x,.cons _ t,e=>by
  obtain ⟨u,h1,h2⟩:=Vals.get (i:=i) (x:=x) t (by simpa using e)
  exact ⟨u,by simpa using h1,h2⟩
theorem Vals.set {x:V} {u:Value} (r:RelV x u):∀ {xs:List V} {us:List Value} (i:Nat),Vals xs us->Vals (xs.set i x) (us.set i u)
 | _,_,_,.nil=>.nil
 | _,_,0,.cons _ t=>.cons r t
 | _,_,i + 1,.cons q t=>.cons q (Vals.set r i t)
theorem Vals.append:∀ {xs ys:List V} {us ws:List Value},Vals xs us->Vals ys ws->Vals (xs++ys) (us++ws)
 | _,_,_,_,.nil,s=>s
 | _,_,_,_,.cons r t,s=>.cons r (Vals.append t s)
theorem Vals.take:∀ {xs:List V} {us:List Value} (n:Nat),Vals xs us->Vals (xs.take n) (us.take n)
 | _,_,0,_=>.nil
 | _,_,_ + 1,.nil=>.nil
 | _,_,n + 1,.cons r t=>.cons r (Vals.take n t)
theorem Vals.drop:∀ {xs:List V} {us:List Value} (n:Nat),Vals xs us->Vals (xs.drop n) (us.drop n)
 | _,_,0,r=>r
 | _,_,_ + 1,.nil=>.nil
 | _,_,n + 1,.cons _ t=>Vals.drop n t
noncomputable def b2G:Option V->Option Value->Prop
 | some v,some u=>RelV v u
 | none,none=>True
 | _,_=>False
noncomputable def KV {κ:Type}:List (κ × V)->List (κ × Value)->Prop:=Paired fun (p:κ × V) (q:κ × Value)=>p.1=q.1/\RelV p.2 q.2
noncomputable def kV:Key->V
 | .inl i=>.int i
 | .inr x=>.str x
inductive HO where
 | lst (xs:List V)
 | tup (xs:List V)
 | dK (kvs:List (Key × V)) | dT (kvs:List (List Key × V))
 | set (S:Int->Bool) (n:Nat)
 | ins (C dx:Addr) (fs:List (Str × V))
 | own (x:Addr)
 | xd (fs:List (Str × V))
 | met (f x:Addr)
 | rng (lo hi:Int)
 | frz (o:Obj) (u:HO)
 | tbl (ps:Array Value)
 | ext (φ:Heap->Prop)
noncomputable abbrev Hp:=Addr->Option HO
noncomputable def upd (H:Hp) (a:Addr) (o:HO):Hp:=fun b=>if b=a then some o else H b
theorem E7 {H:Hp} {a:Addr} {o:HO}:upd H a o a=some o:=by unfold upd;rw [if_pos rfl]
theorem s9 {H:Hp} {a b:Addr} {o:HO} (h:b ≠ a):upd H a o b=H b:=by unfold upd;rw [if_neg h]
theorem c3w {H:Hp} {a:Addr} {o u:HO}:upd (upd H a o) a u=upd H a u:=by
 funext b;unfold upd;split <;> rfl
theorem M3 {H:Hp} {a b:Addr} {o:HO} (h:H a=some o) (h':H b=none):a ≠ b:=by
 intro e;subst e;rw [h] at h';cases h'
section
variable (P:Program) (w:World)
noncomputable def R0 (H:Hp) (h:Heap) (a:Addr):HO->Prop
 | .lst xs=>xs.length<=sizeLine/\∃ (its:List Value) (n:Nat),Vals xs its/\h.get? a=some { cls:=.type "list",data:=.seq its.toArray n }
 | .tup xs=>xs.length<=sizeLine/\∃ its:List Value,Vals xs its/\IsTup h a its.toArray
 | .dK kvs=>kvs.length<=sizeLine/\(a==sysModules)=false/\∃ vs,KV kvs vs/\h.DictOf (b6E P w) a vs
 | .dT kvs=>kvs.length<=sizeLine/\(a==sysModules)=false/\∃ xs:List (List Key × Addr × Value),
   Paired (fun (p:List Key × V) (q:List Key × Addr × Value)=>p.1=q.1/\H q.2.1=some (.tup (p.1.map kV))/\RelV p.2 q.2.2) kvs xs /\
   ∃ o es ep,h.get? a=some o/\o.ExactDict/\o.data=.dict es ep/\es.toList=xs.map (entryOfKey (tupleKind (b6E P w)))/\(xs.map (·.1)).Nodup
 | .set S n=>h.SetOf (intKind P w) a S n
 | .ins C dx fs=>H dx=some (.own a)/\fs.length<=1000/\dx ≠ a/\h.get? a=some (PySem.W.instObj C dx) /\
   ∃ mA,h.Ns1 dx mA/\(∀ f,b2G (fs.lookup f) (mA f))/\PySem.Within mA (fs.map (·.1))
 | .own _=>∃ o,h.get? a=some o
 | .xd fs=>∃ mA,h.Ns1 a mA/\∀ f,b2G (fs.lookup f) (mA f)
 | .rng lo hi=>∃ t u v,h.get? a=some { cls:=.type "range",data:=.fields #[.int lo t,.int hi u,.int 1 v] }
 | .frz o u=>h.get? a=some o/\R0 H h a u
 | .tbl ps=>h.get? a=some { cls:=.none,data:=.fields ps }
 | .met f x=>h.get? a=some (PySem.W.methodObj (.ref f) (.ref x))
 | .ext φ=>φ h/\(∃ o,h.get? a=some o)/\∀ h1 h2:Heap,φ h1->(∀ o,h1.get? a=some o->h2.get? a=some o)->φ h2
noncomputable def HOk (H:Hp) (h:Heap):Prop:=∀ a o,H a=some o->R0 P w H h a o
end
section
variable {P:Program} {w:World} {H H':Hp} {h h':Heap} {a:Addr} {o:HO}
theorem R0.lt (x:R0 P w H h a o):a < h.objs.size:=by
 cases o with
 | lst xs=>obtain ⟨_,_,_,_,e⟩:=x;exact Heap.lt_size e
 | tup xs=>obtain ⟨_,_,_,p⟩:=x;exact p.lt
 | dK kvs=>obtain ⟨_,_,_,_,o,_,_,e,_⟩:=x;exact Heap.lt_size e
 | dT kvs=>obtain ⟨_,_,_,_,o,_,_,e,_⟩:=x;exact Heap.lt_size e
 | set S n=>obtain ⟨o,_,_,_,e,_⟩:=x;exact Heap.lt_size e
 | ins C dx fs=>obtain ⟨_,_,_,e,_⟩:=x;exact Heap.lt_size e
 | own y=>obtain ⟨_,e⟩:=x;exact Heap.lt_size e
 | xd fs=>obtain ⟨_,⟨_,_,_,e,_⟩,_⟩:=x;exact Heap.lt_size e
 | rng lo hi=>obtain ⟨_,_,_,e⟩:=x;exact Heap.lt_size e
 | frz ob u=>obtain ⟨e,_⟩:=x;exact Heap.lt_size e
 | tbl ps=>exact Heap.lt_size (show h.get? a=some _ from x)
 | met f y=>exact Heap.lt_size (show h.get? a=some _ from x)
 | ext φ=>obtain ⟨_,⟨_,e⟩,_⟩:=x;exact Heap.lt_size e
theorem Paired.c6j {α β:Type} {F G:α->β->Prop}:∀ {l₁:List α} {l₂:List β},Paired F l₁ l₂->(∀ a b,F a b->G a b)->Paired G l₁ l₂
 | _,_,.nil,_=>.nil
 | _,_,.cons r t,f=>.cons (f _ _ r) (Paired.c6j t f)
theorem R0.a5r (x:R0 P w H h a o) (k:∀ b u,(b=a\/H b=some (.own a))->h.get? b=some u->h'.get? b=some u)
  (ho:∀ b,H b=some (.own a)->H' b=some (.own a)) (ht:∀ b xs,H b=some (.tup xs)->H' b=some (.tup xs)):R0 P w H' h' a o:=by
 induction o with
 | lst xs=>obtain ⟨z,its,n,r,e⟩:=x;exact ⟨z,its,n,r,k _ _ (.inl rfl) e⟩
 | tup xs=>obtain ⟨z,its,r,ob,e,c⟩:=x;exact ⟨z,its,r,ob,k _ _ (.inl rfl) e,c⟩
 | dK kvs=>obtain ⟨z,y,vs,r,ob,es,ep,e,c⟩:=x;exact ⟨z,y,vs,r,ob,es,ep,k _ _ (.inl rfl) e,c⟩
 | dT kvs =>
  obtain ⟨z,y,xs,r,ob,es,ep,e,c⟩:=x
  exact ⟨z,y,xs,Paired.c6j r fun p q z=>⟨z.1,ht _ _ z.2.1,z.2.2⟩,ob,es,ep,k _ _ (.inl rfl) e,c⟩
 | set S n=>obtain ⟨ob,es,ep,t,e,c⟩:=x;exact ⟨ob,es,ep,t,k _ _ (.inl rfl) e,c⟩
 | ins C dx fs =>
  obtain ⟨d,z,ne,e,mA,⟨od,es,ep,e2,c⟩,r⟩:=x
  exact ⟨ho _ d,z,ne,k _ _ (.inl rfl) e,mA,⟨od,es,ep,k _ _ (.inr d) e2,c⟩,r⟩
 | own y=>obtain ⟨ob,e⟩:=x;exact ⟨ob,k _ _ (.inl rfl) e⟩
 | xd fs=>obtain ⟨mA,⟨od,es,ep,e,c⟩,r⟩:=x;exact ⟨mA,⟨od,es,ep,k _ _ (.inl rfl) e,c⟩,r⟩
 | rng lo hi=>obtain ⟨t,u,v,e⟩:=x;exact ⟨t,u,v,k _ _ (.inl rfl) e⟩
 | frz ob u ih=>obtain ⟨e,q⟩:=x;exact ⟨k _ _ (.inl rfl) e,ih q⟩
 | tbl ps =>
  have e:h.get? a=some { cls:=.none,data:=.fields ps }:=x
  show h'.get? a=some { cls:=.none,data:=.fields ps }
  exact k a _ (.inl rfl) e
 | met f y =>
  have e:h.get? a=some (PySem.W.methodObj (.ref f) (.ref y)):=x
  show h'.get? a=some (PySem.W.methodObj (.ref f) (.ref y))
  exact k a _ (.inl rfl) e
 | ext φ=>obtain ⟨p,⟨o,e⟩,st⟩:=x;exact ⟨st _ _ p fun o q=>k _ _ (.inl rfl) q,⟨o,k _ _ (.inl rfl) e⟩,st⟩
theorem HOk.lt (x:HOk P w H h) (e:H a=some o):a < h.objs.size:=(x a o e).lt
theorem HOk.fresh (x:HOk P w H h) (e:h.objs.size<=a):H a=none:=by
 cases q:H a with
 | none=>rfl
 | some u=>exact absurd (Nat.lt_of_lt_of_le (x.lt q) e) (Nat.lt_irrefl _)
theorem HOk.kept (x:HOk P w H h) (k:∀ b u,h.get? b=some u->h'.get? b=some u):HOk P w H h':=fun a o e =>
 (x a o e).a5r (fun b u _ q=>k b u q) (fun _ q=>q) fun _ _ q=>q
theorem HOk.laid (x:HOk P w H h) (k:∀ b u,h.get? b=some u->h'.get? b=some u) (hp:h.objs.size<=a) (new:R0 P w (upd H a o) h' a o):HOk P w (upd H a o) h':=fun b u e=>by
 have hn:=x.fresh hp
 by_cases hb:b=a
 . subst hb;rw [E7] at e;cases e;exact new
 . rw [s9 hb] at e
   exact (x b u e).a5r (fun c v _ q=>k c v q) (fun c q=>by rw [s9 (M3 q hn)];exact q) fun c xs q=>by rw [s9 (M3 q hn)];exact q
end
noncomputable def Rd (H:Hp) (a:Addr) (u:HO):Prop:=H a=some u\/∃ o,H a=some (.frz o u)
theorem Rd.ok {P:Program} {w:World} {H:Hp} {h:Heap} {a:Addr} {u:HO} (r:Rd H a u) (x:HOk P w H h):R0 P w H h a u:=by
 rcases r with r | ⟨o,r⟩
 . exact x a u r
 . obtain ⟨_,q⟩:=x a _ r
   exact q
noncomputable def Mut:Option HO->Prop
 | some (.lst _)=>True
 | some (.dK _)=>True
 | some (.dT _)=>True
 | some (.set _ _)=>True
 | some (.ins _ _ _)=>True
 | some (.ext _)=>True
 | _=>False
section
variable {P:Program} {w:World} {H:Hp} {h h':Heap} {x e:Addr} {o':HO}
theorem HOk.write (ok:HOk P w H h) (mu:Mut (H x)) (he:e=x\/H e=some (.own x)) (k:∀ b u,b ≠ e->h.get? b=some u->h'.get? b=some u) (heo:∃ u,h'.get? e=some u)
  (new:R0 P w (upd H x o') h' x o'):HOk P w (upd H x o') h':=fun b u q=>by
 have nown:∀ c y,H c=some (.own y)->c ≠ x:=fun c y r z=>by subst z;rw [r] at mu;exact mu
 have ntup:∀ c xs,H c=some (.tup xs)->c ≠ x:=fun c xs r z=>by subst z;rw [r] at mu;exact mu
 by_cases hb:b=x
 . subst hb;rw [E7] at q;cases q;exact new
 . rw [s9 hb] at q
   by_cases hbe:b=e
   . have q':H b=some (.own x):=by
       rcases he with z | z
       . exact absurd (hbe.trans z) hb
       . rw [hbe];exact z
     rw [q] at q';cases q'
     obtain ⟨v,hv⟩:=heo
     exact ⟨v,by rw [hbe];exact hv⟩
   . refine (ok b u q).a5r (fun c v hc r=>k c v ?_ r) (fun c r=>by rw [s9 (nown c b r)];exact r) fun c xs r=>by rw [s9 (ntup c xs r)];exact r
     rcases hc with rfl | hc
     . exact hbe
     . rintro rfl
       rcases he with z | z
       . exact nown c b hc z
       . rw [hc] at z;cases z;exact hb rfl
end
structure Un (fs ex:List Addr) (H H':Hp) (h h':Heap):Prop where
 keep:∀ b o,h.get? b=some o->H b=none->b ∉ fs->b ∉ ex->h'.get? b=some o
 slot:∀ b o,h.get? b=some o->H b=none->b ∈ fs->b ∉ ex->∃ sl,h'.get? b=some { o with slots:=sl }
 free:∀ b o,h.get? b=some o->H b=none->b ∉ ex->H' b=none
 there:∀ b o,h.get? b=some o->b ∉ ex->∃ o',h'.get? b=some o'
 a6s:∀ b xs,H b=some (.tup xs)->H' b=some (.tup xs)
 a5x:∀ b o u,H b=some (.frz o u)->H' b=some (.frz o u)
 a6t:∀ b ps,H b=some (.tbl ps)->∃ more,H' b=some (.tbl (ps++more))
section
variable {fs fs' ex ex':List Addr} {H H1 H2:Hp} {h h1 h2 h':Heap} {a x e:Addr} {o:HO}
theorem Un.any (u:Un fs ex H H1 h h1) {b:Addr} {ob:Obj} (q:h.get? b=some ob) (n:H b=none) (hx:b ∉ ex):∃ sl,h1.get? b=some { ob with slots:=sl }:=by
 by_cases hb:b ∈ fs
 . exact u.slot b ob q n hb hx
 . exact ⟨ob.slots,u.keep b ob q n hb hx⟩
theorem Un.kept (k:∀ b u,h.get? b=some u->h'.get? b=some u):Un fs ex H H h h' :=
 ⟨fun b ob q _ _ _=>k b ob q,fun b ob q _ _ _=>⟨ob.slots,k b ob q⟩,fun _ _ _ n _=>n,fun b ob q _=>⟨ob,k b ob q⟩,fun _ _ q=>q,fun _ _ _ q=>q,fun _ ps q=>⟨#[],by rw [q];simp⟩⟩
theorem Un.refl:Un fs ex H H h h:=Un.kept fun _ _ q=>q
theorem Un.laid (k:∀ b u,h.get? b=some u->h'.get? b=some u) (hp:h.objs.size<=a) (hn:H a=none):Un fs ex H (upd H a o) h h' where
 keep:=fun b u q _ _ _=>k b u q
 slot:=fun b u q _ _ _=>⟨u.slots,k b u q⟩
 free:=fun b u q n _=>by rw [s9 (Nat.ne_of_lt (Nat.lt_of_lt_of_le (Heap.lt_size q) hp))];exact n
 there:=fun b u q _=>⟨u,k b u q⟩
 a6s:=fun b xs q=>by rw [s9 (M3 q hn)];exact q
 a5x:=fun b u xs q=>by rw [s9 (M3 q hn)];exact q
 a6t:=fun b ps q=>⟨#[],by rw [s9 (M3 q hn),q];simp⟩
theorem Un.write (mu:Mut (H x)) (he:e=x\/H e=some (.own x)) (k:∀ b u,b ≠ e->h.get? b=some u->h'.get? b=some u) (heo:∃ u,h'.get? e=some u):Un fs ex H (upd H x o) h h':=by
 have hx:∀ b,H b=none->b ≠ x:=fun b n z=>by subst z;rw [n] at mu;exact mu
 have hb:∀ b,H b=none->b ≠ e:=fun b n z=>by
  subst z
  rcases he with r | r
  . exact hx b n r
  . rw [n] at r;cases r
 have hm:∀ b u,H b=some u->¬ Mut (some u)->b ≠ x:=fun b u q nm z=>by subst z;rw [q] at mu;exact nm mu
 refine ⟨fun b u q n _ _=>k b u (hb b n) q,fun b u q n _ _=>⟨u.slots,k b u (hb b n) q⟩,fun b u q n _=>by rw [s9 (hx b n)];exact n,fun b u q _=>?_,
  fun b xs q=>by rw [s9 (hm b _ q fun z=>z)];exact q,fun b u xs q=>by rw [s9 (hm b _ q fun z=>z)];exact q,fun b ps q=>⟨#[],by rw [s9 (hm b _ q fun z=>z),q];simp⟩⟩
 by_cases hbe:b=e
 . subst hbe;exact heo
 . exact ⟨u,k b u hbe q⟩
end
noncomputable def trk (h:Heap) (H:Hp):List Addr:=(List.range h.objs.size).filter fun a=>(H a).isSome
noncomputable def a6W (h:Heap) (H:Hp):Heap:=PySem.W.hideAll h (trk h H)
theorem c0s (h:Heap) (H:Hp):(a6W h H).objs.size=h.objs.size:=PySem.W.hideAll_size _ _
theorem c2o {h:Heap} {H:Hp} {b:Addr} {o:Obj} (e:h.get? b=some o) (n:H b=none):(a6W h H).get? b=some o :=
 PySem.W.hideAll_get _ e fun hm=>by
  have q:(H b).isSome=true:=(mem_filter.mp hm).2
  rw [n] at q;simp at q
theorem c4k {h:Heap} {H:Hp} {b:Addr} {o:Obj} (e:(a6W h H).get? b=some o):h.get? b=some o/\H b=none:=by
 have e':h.get? b=some o:=PySem.W.of_hideAll (trk h H) e
 refine ⟨e',?_⟩
 cases q:H b with
 | none=>rfl
 | some x =>
  have hm:b ∈ trk h H:=mem_filter.mpr ⟨mem_range.mpr (Heap.lt_size e'),by simp [q]⟩
  have z:(a6W h H).get? b=none:=PySem.W.hideAll_none (trk h H) hm
  rw [z] at e;cases e
noncomputable def c4Z (g h:Heap) (L:Addr):List (Addr × Obj):=(List.range h.objs.size).filterMap fun a=>if a=L\/(g.get? a).isSome=true then none else (h.get? a).map fun o=>(a,o)
noncomputable def rest (g h:Heap) (L d:Addr):List (Addr × Obj):=(c4Z g h L).filter fun p=>decide (p.1 ≠ d)
structure Mod (K:PySem.W.Frag) (mg:Str->Option Value) (base:Heap):Prop where
 kin:K.In base
 glob:base.Ns mainGlobals mg
 blt:∃ mb,base.Ns builtinsNs mb/\∀ x:Str,x ≠ "__name__"->mb x=bootBuiltins x
 nolimit:base.NoLimit
structure Cx where
 prog:Program
 w:World
 K:PySem.W.Frag
 mg:Str->Option Value
 base:Heap
 A:Around
 N:List Str
 L5:Shared
 i4:Hp
 env:Env
 outer:List Env
 stack:List Env
 ex:List Addr
 fn:Str->Bool
 calm:Bool
 pn:List (Addr × Obj)
 xe:Value->Shared->Prop
noncomputable def frs (l:List Env):List Addr:=l.filterMap (·.frame)
noncomputable abbrev Cx.fs (X:Cx):List Addr:=frs X.outer
noncomputable def Vis (sc:Scope) (x:Str):Prop:=sc.names.lookup x=some .local\/sc.names.lookup x=some .cell\/sc.names.lookup x=some .free
noncomputable def Loc (sc:Scope) (x:Str):Prop:=sc.names.lookup x=some .local\/sc.names.lookup x=some .cell
noncomputable def Look (env:Env) (h:Heap) (m:Str->Option Value) (x:Str) (u:Value):Prop :=
 (env.kindOf x=some .local/\m x=some u)\/((env.kindOf x=some .cell\/env.kindOf x=some .free)/\∃ c,env.cells.lookup x=some c/\h.IsCell c (some u))
structure Cx.Ok (X:Cx):Prop where
 mod:Mod X.K X.mg X.base
 kind:X.env.scope.kind=.function
 glob:X.env.globals=mainGlobals
 blt:X.env.builtins=builtinsNs
 above:X.L5.heap.objs.size<=X.env.locals
 inj:∀ x y c,X.env.cells.lookup x=some c->X.env.cells.lookup y=some c->x=y
 has:∀ x,(X.env.kindOf x=some .cell\/X.env.kindOf x=some .free)->∃ c,X.env.cells.lookup x=some c
 cab:∀ x c,X.fn x=true->X.env.cells.lookup x=some c->X.L5.heap.objs.size<=c
 hd:X.calm=true->X.A.handled=none
 frames:X.A.frames=some X.stack
 stk:X.stack=X.outer\/(X.stack=X.env::X.outer/\X.env.frame=some X.env.locals)
 exf:∀ b ∈ X.ex,b ≠ X.env.locals/\∀ x c,X.env.cells.lookup x=some c->c ≠ b
 bs:∀ b o,X.base.get? b=some o->X.L5.heap.get? b=some o/\X.i4 b=none
 bsz:X.base.objs.size<=X.L5.heap.objs.size
 a8H:∀ b o,X.base.get? b=some o->b ∉ X.ex
 b0P:∀ b ∈ X.ex,b ∉ X.fs
 a2k:X.L5.heap.FunFrames X.base X.outer
 frf:∀ b ∈ X.fs,X.i4 b=none
structure Inv (X:Cx) (pins:List (Addr × Obj)) (σ:List (Option V)) (H:Hp) (s:Shared):Prop where
 ok:X.Ok
 os:s.os=X.L5.os
 bare:AllBare s.gens
 base:Un X.fs X.ex X.i4 H X.L5.heap s.heap
 loc:∃ m,s.heap.Ns X.env.locals m/\∀ (i:Nat) (x:Str) (v:V),X.N[i]? = some x->σ[i]? = some (some v)->Vis X.env.scope x->∃ u,RelV v u/\Look X.env s.heap m x u
 cell:∀ x c,X.env.cells.lookup x=some c->∃ v,s.heap.IsCell c v
 free:H X.env.locals=none
 a0N:∀ x c,X.env.cells.lookup x=some c->H c=none
 pin:∀ p ∈ X.pn++pins,s.heap.get? p.1=some p.2/\H p.1=none/\p.1 ≠ X.env.locals/\p.1 ∉ X.fs/\∀ v,p.2.data ≠ .cell v
 hok:HOk X.prog X.w H s.heap
 len:σ.length=X.N.length
section
variable {X:Cx} {pins:List (Addr × Obj)} {σ:List (Option V)} {H H':Hp} {s:Shared} {h':Heap}
theorem Cx.Ok.c7M (ok:X.Ok) {b:Addr} {o:Obj} (e:X.base.get? b=some o):b ∉ X.fs:=fun hb=>by
 have:=(ok.a2k.mem hb).1
 rw [e] at this;cases this
theorem Inv.bs (I:Inv X pins σ H s):∀ b o,X.base.get? b=some o->s.heap.get? b=some o/\H b=none:=fun b o e =>
 ⟨I.base.keep b o (I.ok.bs b o e).1 (I.ok.bs b o e).2 (I.ok.c7M e) (I.ok.a8H b o e),I.base.free b o (I.ok.bs b o e).1 (I.ok.bs b o e).2 (I.ok.a8H b o e)⟩
theorem Inv.bk (I:Inv X pins σ H s):∀ b o,X.base.get? b=some o->s.heap.get? b=some o:=fun b o e=>(I.bs b o e).1
theorem Inv.mod (I:Inv X pins σ H s):Mod X.K X.mg X.base:=I.ok.mod
theorem Inv.kIn (I:Inv X pins σ H s):X.K.In s.heap:=I.ok.mod.kin.keeps I.bk
theorem Inv.fr (I:Inv X pins σ H s):∃ m,Fr X.base X.env.locals s.heap m :=
 let ⟨m,hn,_⟩:=I.loc
 ⟨m,hn,I.bk,Nat.le_trans I.ok.bsz I.ok.above⟩
theorem Inv.lt (I:Inv X pins σ H s):X.env.locals < s.heap.objs.size:=let ⟨_,hn,_⟩:=I.loc;hn.lt
theorem Inv.sz (I:Inv X pins σ H s):X.L5.heap.objs.size<=s.heap.objs.size:=Nat.le_trans I.ok.above (Nat.le_of_lt I.lt)
theorem Inv.c1X (I:Inv X pins σ H s) {a:Addr} (h:s.heap.objs.size<=a):a ∉ X.fs:=fun hb=>by
 obtain ⟨_,o,ho,_⟩:=I.ok.a2k.mem hb
 exact absurd (Nat.lt_of_lt_of_le (Heap.lt_size ho) (Nat.le_trans I.sz h)) (Nat.lt_irrefl _)
theorem Inv.cne (I:Inv X pins σ H s):∀ x c,X.env.cells.lookup x=some c->c ≠ X.env.locals:=fun x c e z=>by
 obtain ⟨v,o,ho,hd⟩:=I.cell x c e
 obtain ⟨m,⟨o',es,ep,ho',hd',_⟩,_⟩:=I.loc
 rw [z,ho'] at ho;cases ho;rw [hd'] at hd;cases hd
theorem Inv.a2k (I:Inv X pins σ H s):s.heap.FunFrames X.base X.outer:=by
 have all:∀ (l:List Env),(∀ b ∈ frs l,b ∈ X.fs)->X.L5.heap.FunFrames X.base l->s.heap.FunFrames X.base l:=by
  intro l
  induction l with
  | nil=>intro _ _;trivial
  | cons env r ih =>
   intro hs hl
   obtain ⟨hk,⟨L,o,hf,hn,ho,hd⟩,hr⟩:=hl
   have hL:L ∈ X.fs:=hs L (by unfold frs;rw [List.filterMap_cons,hf];exact mem_cons_self)
   obtain ⟨sl,e⟩:=I.base.slot L o ho (I.ok.frf L hL) hL fun z=>I.ok.b0P L z hL
   exact ⟨hk,⟨L,_,hf,hn,e,hd⟩,ih (fun b hb=>hs b (by unfold frs;rw [List.filterMap_cons,hf];exact mem_cons_of_mem _ hb)) hr⟩
 exact all X.outer (fun _ hb=>hb) I.ok.a2k
theorem Inv.stack (I:Inv X pins σ H s):s.heap.FunFrames X.base X.stack:=by
 rcases I.ok.stk with e | ⟨e,hf⟩
 . rw [e];exact I.a2k
 . rw [e]
   obtain ⟨m,hn,_⟩:=I.loc
   refine .cons (by rw [I.ok.kind];decide) hf hn ?_ I.a2k
   exact Heap.get?_none_of_le (Nat.le_trans I.ok.bsz I.ok.above)
theorem Inv.a8m (I:Inv X pins σ H s):∀ b ∈ frs X.stack,b ∈ X.env.locals::X.fs:=fun b hb=>by
 rcases I.ok.stk with e | ⟨e,hf⟩
 . rw [e] at hb;exact mem_cons_of_mem _ hb
 . rw [e] at hb
   unfold frs at hb
   rw [List.filterMap_cons,hf] at hb
   exact hb
theorem Inv.b2c (I:Inv X pins σ H s):∀ b ∈ frs X.stack,H b=none:=fun b hb=>by
 rcases mem_cons.mp (I.a8m b hb) with e | hb
 . rw [e];exact I.free
 . obtain ⟨_,o,ho,_⟩:=I.ok.a2k.mem hb
   exact I.base.free b o ho (I.ok.frf b hb) fun z=>I.ok.b0P b z hb
theorem Inv.step {g':Array GenState} {t':Nat} {d':Drawn} {ch:List Addr} (I:Inv X pins σ H s)
  (hch:∀ b ∈ ch,(b ∈ X.ex\/X.L5.heap.objs.size<=b)/\b ≠ X.env.locals/\(∀ x c,X.env.cells.lookup x=some c->c ≠ b)/\∀ p ∈ X.pn++pins,p.1 ≠ b)
  (keep:∀ b o,b ≠ X.env.locals->b ∉ X.fs->b ∉ ch->s.heap.get? b=some o->H b=none->h'.get? b=some o)
  (slot:∀ b o,b ≠ X.env.locals->b ∈ X.fs->b ∉ ch->s.heap.get? b=some o->H b=none->∃ sl,h'.get? b=some { o with slots:=sl }) (free:∀ b o,b ∉ ch->s.heap.get? b=some o->H b=none->H' b=none)
  (there:∀ b o,b ∉ ch->s.heap.get? b=some o->∃ o',h'.get? b=some o')
  (a6s:∀ b xs,H b=some (.tup xs)->H' b=some (.tup xs)) (a5x:∀ b o u,H b=some (.frz o u)->H' b=some (.frz o u)) (a6t:∀ b ps,H b=some (.tbl ps)->∃ more,H' b=some (.tbl (ps++more)))
  (ns:∀ m,s.heap.Ns X.env.locals m->h'.Ns X.env.locals m) (hok:HOk X.prog X.w H' h') (hg:AllBare g') :
  Inv X pins σ H' { s with heap:=h',gens:=g',drawn:=d',toks:=t' }:=by
 have neL:∀ b o,X.L5.heap.get? b=some o->b ≠ X.env.locals:=fun b o e=>Nat.ne_of_lt (Nat.lt_of_lt_of_le (Heap.lt_size e) I.ok.above)
 have neC:∀ b o,X.L5.heap.get? b=some o->b ∉ X.ex->b ∉ ch:=fun b o e hx hb=>by
  rcases (hch b hb).1 with z | z
  . exact hx z
  . exact absurd (Nat.lt_of_lt_of_le (Heap.lt_size e) z) (Nat.lt_irrefl _)
 have cellK:∀ x c,X.env.cells.lookup x=some c->∀ v,s.heap.IsCell c v->h'.IsCell c v:=fun x c e v ⟨o,ho,hd⟩=>by
  have nch:c ∉ ch:=fun z=>(hch c z).2.2.1 x c e rfl
  by_cases hc:c ∈ X.fs
  . obtain ⟨sl,q⟩:=slot c o (I.cne x c e) hc nch ho (I.a0N x c e)
    exact ⟨_,q,hd⟩
  . exact ⟨o,keep c o (I.cne x c e) hc nch ho (I.a0N x c e),hd⟩
 refine ⟨I.ok,I.os,hg,⟨fun b o e n hb hx=>?_,fun b o e n hb hx=>?_,fun b o e n hx=>?_,fun b o e hx=>?_,fun b xs e=>a6s b xs (I.base.a6s b xs e),fun b o xs e=>a5x b o xs (I.base.a5x b o xs e),fun b ps e=>?_⟩,?_,fun x c e=>?_,?_,fun x c e=>?_,fun p hp=>?_,hok,I.len⟩
 . exact keep b o (neL b o e) hb (neC b o e hx) (I.base.keep b o e n hb hx) (I.base.free b o e n hx)
 . obtain ⟨sl,e1⟩:=I.base.slot b o e n hb hx
   obtain ⟨sl',e2⟩:=slot b _ (neL b o e) hb (neC b o e hx) e1 (I.base.free b o e n hx)
   exact ⟨sl',e2⟩
 . obtain ⟨o',e1⟩:=I.base.there b o e hx
   exact free b o' (neC b o e hx) e1 (I.base.free b o e n hx)
 . obtain ⟨o',e1⟩:=I.base.there b o e hx
   exact there b o' (neC b o e hx) e1
 . obtain ⟨m1,e1⟩:=I.base.a6t b ps e
   obtain ⟨m2,e2⟩:=a6t b _ e1
   exact ⟨m1++m2,by rw [e2,Array.append_assoc]⟩
 . obtain ⟨m,hn,hl⟩:=I.loc
   refine ⟨m,ns m hn,fun i x v e1 e2 e3=>?_⟩
   obtain ⟨u,r,l⟩:=hl i x v e1 e2 e3
   refine ⟨u,r,?_⟩
   rcases l with l | ⟨k,c,e,z⟩
   . exact .inl l
   . exact .inr ⟨k,c,e,cellK x c e _ z⟩
 . obtain ⟨v,z⟩:=I.cell x c e
   exact ⟨v,cellK x c e v z⟩
 . obtain ⟨m,⟨o,_,_,ho,_⟩,_⟩:=I.loc
   exact free _ o (fun z=>(hch _ z).2.1 rfl) ho I.free
 . obtain ⟨v,o,ho,hd⟩:=I.cell x c e
   exact free c o (fun z=>(hch c z).2.2.1 x c e rfl) ho (I.a0N x c e)
 . obtain ⟨e,n,ne,nf,d⟩:=I.pin p hp
   have nch:p.1 ∉ ch:=fun z=>(hch p.1 z).2.2.2 p hp rfl
   exact ⟨keep p.1 p.2 ne nf nch e n,free p.1 p.2 nch e n,ne,nf,d⟩
theorem Inv.un {t':Nat} (I:Inv X pins σ H s) (u:Un X.fs [] H H' s.heap h') (hok:HOk X.prog X.w H' h'):Inv X pins σ H' { s with heap:=h',toks:=t' }:=by
 obtain ⟨m,⟨o,es,ep,ho,r⟩,_⟩:=id I.loc
 obtain ⟨sl,hL⟩:=u.any ho I.free (by simp)
 exact I.step (g':=s.gens) (d':=s.drawn) (ch:=[]) (fun _ z=>nomatch z) (fun b o _ hb _ e n=>u.keep b o e n hb (by simp)) (fun b o _ hb _ e n=>u.slot b o e n hb (by simp)) (fun b o _ e n=>u.free b o e n (by simp)) (fun b o _ e=>u.there b o e (by simp)) u.a6s u.a5x u.a6t (fun m' hm=>by
  obtain ⟨o',es',ep',ho',r'⟩:=hm
  rw [ho] at ho';cases ho'
  exact ⟨_,es',ep',hL,r'⟩) hok I.bare
theorem Inv.call {g':Array GenState} {t':Nat} {d':Drawn} {ch:List Addr} (I:Inv X pins σ H s) (u:Un (frs X.stack) ch H H' s.heap h') (hok:HOk X.prog X.w H' h') (hg:AllBare g')
  (hch:∀ b ∈ ch,(b ∈ X.ex\/X.L5.heap.objs.size<=b)/\b ≠ X.env.locals/\(∀ x c,X.env.cells.lookup x=some c->c ≠ b)/\∀ p ∈ X.pn++pins,p.1 ≠ b) :
  Inv X pins σ H' { s with heap:=h',gens:=g',drawn:=d',toks:=t' }:=by
 obtain ⟨m,⟨o,es,ep,ho,r⟩,_⟩:=id I.loc
 obtain ⟨sl,hL⟩:=u.any ho I.free fun z=>(hch _ z).2.1 rfl
 exact I.step (ch:=ch) hch (fun b o hL hb hc e n=>u.keep b o e n (fun z=>(mem_cons.mp (I.a8m b z)).elim hL hb) hc) (fun b o _ _ hc e n=>u.any e n hc) (fun b o hc e n=>u.free b o e n hc) (fun b o hc e=>u.there b o e hc) u.a6s u.a5x u.a6t (fun m' hm=>by
  obtain ⟨o',es',ep',ho',r'⟩:=hm
  rw [ho] at ho';cases ho'
  exact ⟨_,es',ep',hL,r'⟩) hok hg
theorem Inv.turned {t':Nat} {it:Addr} (I:Inv X pins σ H s) (k:∀ b o,b ≠ it->s.heap.get? b=some o->h'.get? b=some o) (hn:H it=none) (hL:it ≠ X.env.locals)
  (h1:it ∈ X.ex\/X.L5.heap.objs.size<=it) (h2:∀ x c,X.env.cells.lookup x=some c->c ≠ it) (h3:∀ p ∈ X.pn++pins,p.1 ≠ it):Inv X pins σ H { s with heap:=h',toks:=t' }:=by
 have nit:∀ b u,H b=some u->b ≠ it:=fun b u e z=>by rw [z,hn] at e;cases e
 refine I.step (g':=s.gens) (d':=s.drawn) (ch:=[it]) (fun b hb=>?_) (fun b o _ _ hc e _=>k b o (fun z=>hc (by simp [z])) e) (fun b o _ _ hc e _=>⟨o.slots,k b o (fun z=>hc (by simp [z])) e⟩) (fun _ _ _ _ n=>n)
  (fun b o hc e=>⟨o,k b o (fun z=>hc (by simp [z])) e⟩) (fun _ _ e=>e) (fun _ _ _ e=>e) (fun b ps e=>⟨#[],by rw [e];simp⟩) (fun m hm=>?_) (fun b u e=>?_) I.bare
 . have e:b=it:=by simpa using hb
   subst e
   exact ⟨h1,hL,h2,h3⟩
 . obtain ⟨o,es,ep,ho,r⟩:=hm
   exact ⟨o,es,ep,k _ o (Ne.symm hL) ho,r⟩
 . refine (I.hok b u e).a5r (fun c v hc q=>k c v ?_ q) (fun _ q=>q) fun _ _ q=>q
   rcases hc with z | z
   . rw [z];exact nit b u e
   . exact nit c _ z
theorem Inv.tok (I:Inv X pins σ H s) (t:Nat):Inv X pins σ H { s with toks:=t }:=I.un (h':=s.heap) (t':=t) Un.refl I.hok
theorem Inv.kept {t':Nat} (I:Inv X pins σ H s) (k:∀ b u,s.heap.get? b=some u->h'.get? b=some u):Inv X pins σ H { s with heap:=h',toks:=t' }:=I.un (Un.kept k) (I.hok.kept k)
theorem Inv.laid {a:Addr} {o:HO} {t':Nat} (I:Inv X pins σ H s) (k:∀ b u,s.heap.get? b=some u->h'.get? b=some u) (hp:s.heap.objs.size<=a) (new:R0 X.prog X.w (upd H a o) h' a o) :
  Inv X pins σ (upd H a o) { s with heap:=h',toks:=t' }:=I.un (Un.laid k hp (I.hok.fresh hp)) (I.hok.laid k hp new)
theorem Inv.write {x e:Addr} {o:HO} {t':Nat} (I:Inv X pins σ H s) (mu:Mut (H x)) (he:e=x\/H e=some (.own x)) (k:∀ b u,b ≠ e->s.heap.get? b=some u->h'.get? b=some u) (heo:∃ u,h'.get? e=some u)
  (new:R0 X.prog X.w (upd H x o) h' x o):Inv X pins σ (upd H x o) { s with heap:=h',toks:=t' }:=I.un (Un.write mu he k heo) (I.hok.write mu he k heo new)
theorem Inv.weak {σ':List (Option V)} (I:Inv X pins σ H s) (hl:σ'.length=σ.length) (w:∀ (i:Nat) v,σ'[i]? = some (some v)->σ[i]? = some (some v)):Inv X pins σ' H s :=
 ⟨I.ok,I.os,I.bare,I.base,let ⟨m,hn,hl'⟩:=I.loc;⟨m,hn,fun i x v e1 e2 e3=>hl' i x v e1 (w i v e2) e3⟩,I.cell,I.free,I.a0N,I.pin,I.hok,hl.trans I.len⟩
theorem Inv.a2F {pins':List (Addr × Obj)} (I:Inv X pins σ H s) (h:∀ p ∈ pins',s.heap.get? p.1=some p.2/\H p.1=none/\p.1 ≠ X.env.locals/\p.1 ∉ X.fs/\∀ v,p.2.data ≠ .cell v):Inv X pins' σ H s :=
 ⟨I.ok,I.os,I.bare,I.base,I.loc,I.cell,I.free,I.a0N,fun p hp=>(mem_append.mp hp).elim (fun z=>I.pin p (List.mem_append_left _ z)) (h p),I.hok,I.len⟩
theorem b0x {N:List Str} (hN:N.Nodup) {i j:Nat} {x:Str} (a:N[i]? = some x) (b:N[j]? = some x):i=j:=by
 obtain ⟨h1,e1⟩:=List.getElem?_eq_some_iff.mp a
 obtain ⟨h2,e2⟩:=List.getElem?_eq_some_iff.mp b
 exact (List.getElem_inj hN).mp (e1.trans e2.symm)
theorem b8T {M:Model} {A:Around} {E:Value->Shared->Prop} {i:Nat} {x:Str} {v:V} {u:Value} {Q:Unit->Shared->Prop} (I:Inv X pins σ H s) (hN:X.N.Nodup) (hi:X.N[i]? = some x) (hx:Loc X.env.scope x) (r:RelV v u)
  (h:∀ s',Inv X pins (σ.set i (some v)) H s'->(∃ a,Heap.SameBut a s.heap s'.heap/\(a=X.env.locals\/X.env.cells.lookup x=some a))->Q () s') (hf:X.fn x=true\/X.env.scope.names.lookup x=some .local:=by first | exact .inl rfl | exact .inr rfl | assumption):wpAny M A (storeName X.env x u) Q E s:=by
 obtain ⟨m,hn,hl⟩:=id I.loc
 have hcls:(X.env.scope.kind==.class||(X.env.scope.kind==.module&&X.env.locals != X.env.globals))=false:=by rw [I.ok.kind];rfl
 have hiσ:i < σ.length:=by rw [I.len];exact (List.getElem?_eq_some_iff.mp hi).1
 have cne:=I.cne
 have tracked:∀ {a:Addr} {h':Heap},(∃ o,s.heap.get? a=some o/\H a=none)->Heap.SameBut a s.heap h'->HOk X.prog X.w H h':=fun {a h'} ha hs b ob e=>by
  obtain ⟨_,_,hfree⟩:=ha
  refine (I.hok b ob e).a5r (fun c w' hc q=>(hs.2 c ?_).trans q) (fun _ q=>q) fun _ _ q=>q
  rintro rfl
  rcases hc with rfl | hc
  . rw [hfree] at e;cases e
  . rw [hfree] at hc;cases hc
 rcases hx with hk | hk
 . refine wpAny_storeName_local hk hn (fun h' hn' hs=>?_) hcls
   obtain ⟨oL,_,_,hoL,_⟩:=id hn
   refine h _ ⟨I.ok,I.os,I.bare,⟨fun b o e n hb hx=>?_,fun b o e n hb hx=>?_,I.base.free,fun b o e hx=>?_,I.base.a6s,I.base.a5x,I.base.a6t⟩,⟨_,hn',fun j y v' e1 e2 e3=>?_⟩,fun y c e=>?_,I.free,I.a0N,fun p hp=>?_,tracked ⟨oL,hoL,I.free⟩ hs,by simpa using I.len⟩ ⟨_,hs,.inl rfl⟩
   . exact (hs.2 b (Nat.ne_of_lt (Nat.lt_of_lt_of_le (Heap.lt_size e) I.ok.above))).trans (I.base.keep b o e n hb hx)
   . obtain ⟨sl,e1⟩:=I.base.slot b o e n hb hx
     exact ⟨sl,(hs.2 b (Nat.ne_of_lt (Nat.lt_of_lt_of_le (Heap.lt_size e) I.ok.above))).trans e1⟩
   . obtain ⟨o',e1⟩:=I.base.there b o e hx
     exact ⟨o',(hs.2 b (Nat.ne_of_lt (Nat.lt_of_lt_of_le (Heap.lt_size e) I.ok.above))).trans e1⟩
   . by_cases hj:j=i
     . subst hj
       rw [hi] at e1;cases e1
       rw [List.getElem?_set_self hiσ] at e2
       cases e2
       exact ⟨u,r,.inl ⟨hk,by simp⟩⟩
     . rw [List.getElem?_set_ne (Ne.symm hj)] at e2
       obtain ⟨u',r',q⟩:=hl j y v' e1 e2 e3
       refine ⟨u',r',?_⟩
       rcases q with ⟨k,e⟩ | ⟨k,c,e,z⟩
       . refine .inl ⟨k,?_⟩
         have:y ≠ x:=fun e=>hj (b0x hN e1 (e ▸ hi))
         simp [this,e]
       . exact .inr ⟨k,c,e,z.sameBut hs (cne y c e)⟩
   . obtain ⟨w',z⟩:=I.cell y c e
     exact ⟨w',z.sameBut hs (cne y c e)⟩
   . obtain ⟨e,n,ne,nf,d⟩:=I.pin p hp
     exact ⟨(hs.2 p.1 ne).trans e,n,ne,nf,d⟩
 . have hfn:X.fn x=true:=by
     rcases hf with z | z
     . exact z
     . rw [z] at hk;cases hk
   obtain ⟨c,hc⟩:=I.ok.has x (.inl hk)
   obtain ⟨w',z⟩:=I.cell x c hc
   refine wpAny_storeName_cell I.ok.kind hk hc z (fun h' hc' hs=>?_)
   obtain ⟨oc,hoc,hocd⟩:=id z
   refine h { s with heap:=h' } ⟨I.ok,I.os,I.bare,⟨fun b o e n hb hx=>?_,fun b o e n hb hx=>?_,I.base.free,fun b o e hx=>?_,I.base.a6s,I.base.a5x,I.base.a6t⟩,⟨m,hn.sameBut hs (Ne.symm (cne x c hc)),fun j y v' e1 e2 e3=>?_⟩,fun y c' e=>?_,I.free,I.a0N,fun p hp=>?_,tracked ⟨oc,hoc,I.a0N x c hc⟩ hs,by simpa using I.len⟩ ⟨c,hs,.inr hc⟩
   . exact (hs.2 b (Nat.ne_of_lt (Nat.lt_of_lt_of_le (Heap.lt_size e) (I.ok.cab x c hfn hc)))).trans (I.base.keep b o e n hb hx)
   . obtain ⟨sl,e1⟩:=I.base.slot b o e n hb hx
     exact ⟨sl,(hs.2 b (Nat.ne_of_lt (Nat.lt_of_lt_of_le (Heap.lt_size e) (I.ok.cab x c hfn hc)))).trans e1⟩
   . obtain ⟨o',e1⟩:=I.base.there b o e hx
     exact ⟨o',(hs.2 b (Nat.ne_of_lt (Nat.lt_of_lt_of_le (Heap.lt_size e) (I.ok.cab x c hfn hc)))).trans e1⟩
   . by_cases hj:j=i
     . subst hj
       rw [hi] at e1;cases e1
       rw [List.getElem?_set_self hiσ] at e2
       cases e2
       exact ⟨u,r,.inr ⟨.inl hk,c,hc,hc'⟩⟩
     . rw [List.getElem?_set_ne (Ne.symm hj)] at e2
       obtain ⟨u',r',q⟩:=hl j y v' e1 e2 e3
       refine ⟨u',r',?_⟩
       rcases q with q | ⟨k,c',e,z'⟩
       . exact .inl q
       . refine .inr ⟨k,c',e,z'.sameBut hs ?_⟩
         rintro rfl
         exact hj (b0x hN e1 (I.ok.inj _ _ _ e hc ▸ hi))
   . by_cases hcc:c'=c
     . subst hcc;exact ⟨_,hc'⟩
     . obtain ⟨w2,z2⟩:=I.cell y c' e
       exact ⟨w2,z2.sameBut hs hcc⟩
   . obtain ⟨e,n,ne,nf,d⟩:=I.pin p hp
     refine ⟨(hs.2 p.1 ?_).trans e,n,ne,nf,d⟩
     intro q
     rw [q,hoc] at e
     have q':oc=p.2:=Option.some.inj e
     exact d w' (by rw [<-q'];exact hocd)
theorem a4k {M:Model} {A:Around} {E:Value->Shared->Prop} {i:Nat} {x:Str} {v:V} {u:Value} {Q:Unit->Shared->Prop} (I:Inv X pins σ H s) (hN:X.N.Nodup) (hi:X.N[i]? = some x) (hx:Loc X.env.scope x) (r:RelV v u)
  (h:∀ s',Inv X pins (σ.set i (some v)) H s'->Q () s') (hf:X.fn x=true\/X.env.scope.names.lookup x=some .local:=by first | exact .inl rfl | exact .inr rfl | assumption):wpAny M A (storeName X.env x u) Q E s :=
 b8T I hN hi hx r (fun s' I' _=>h s' I') hf
theorem Inv.c3q {s':Shared} {ch:List Addr} (I:Inv X pins σ H s) (ho:s'.os=s.os) (u:Un (frs X.stack) ch H H' s.heap s'.heap) (hok:HOk X.prog X.w H' s'.heap) (hg:AllBare s'.gens)
  (hch:∀ b ∈ ch,(b ∈ X.ex\/X.L5.heap.objs.size<=b)/\b ≠ X.env.locals/\(∀ x c,X.env.cells.lookup x=some c->c ≠ b)/\∀ p ∈ X.pn++pins,p.1 ≠ b):Inv X pins σ H' s':=by
 obtain ⟨h',g',d',t',o'⟩:=s'
 have e:o'=s.os:=ho
 subst e
 exact I.call (g':=g') (t':=t') (d':=d') u hok hg hch
end
noncomputable abbrev XK:=Value->Option Addr->Hp->Prop
noncomputable abbrev St:=List (Option V)
noncomputable abbrev VK:=V->Hp->Prop
noncomputable abbrev TE:=St->Hp->VK->Prop
noncomputable abbrev TT:=St->Hp->(Bool->Hp->Prop)->Prop
noncomputable abbrev TA:=St->Hp->(List V->Hp->Prop)->Prop
structure Ends where
 nx:St->Hp->Prop
 rt:VK
 bk:St->Hp->Prop:=fun _ _=>False
 ct:St->Hp->Prop:=fun _ _=>False
noncomputable abbrev TS:=Ends->St->Hp->Prop
noncomputable def EP (X:Cx) (pins:List (Addr × Obj)) (σ:St) (Q:VK) (u:Value) (s':Shared):Prop:=∃ v H',Inv X pins σ H' s'/\RelV v u/\Q v H'
noncomputable def TP (X:Cx) (pins:List (Addr × Obj)) (σ:St) (Q:Bool->Hp->Prop) (b:Bool) (s':Shared):Prop:=∃ H',Inv X pins σ H' s'/\Q b H'
noncomputable def AP (X:Cx) (pins:List (Addr × Obj)) (σ:St) (Q:List V->Hp->Prop) (us:List Value) (s':Shared):Prop:=∃ vs H',Inv X pins σ H' s'/\Vals vs us/\Q vs H'
noncomputable def SP (X:Cx) (pins:List (Addr × Obj)) (D:Ends) (f:Flow) (s':Shared):Prop :=
 match f with
 | .next=>∃ σ' H',Inv X pins σ' H' s'/\D.nx σ' H'
 | .brk=>∃ σ' H',Inv X pins σ' H' s'/\D.bk σ' H'
 | .cont=>∃ σ' H',Inv X pins σ' H' s'/\D.ct σ' H'
 | .ret u=>∃ v σ' H',Inv X pins σ' H' s'/\RelV v u/\D.rt v H'
noncomputable def PE (X:Cx) (e:Expr) (t:TE):Prop :=
 ∀ (pins:List (Addr × Obj)) (s:Shared) (σ:St) (H:Hp) (Q:VK),Inv X pins σ H s->t σ H Q->wpAny (model X.prog X.w) X.A (eval e X.env) (EP X pins σ Q) X.xe s
noncomputable def PT (X:Cx) (e:Expr) (t:TT):Prop :=
 ∀ (pins:List (Addr × Obj)) (s:Shared) (σ:St) (H:Hp) (Q:Bool->Hp->Prop),Inv X pins σ H s->t σ H Q->wpAny (model X.prog X.w) X.A (isTrue e X.env (eval e X.env)) (TP X pins σ Q) X.xe s
noncomputable def PW (X:Cx) (e:Expr) (t:TT):Prop :=
 ∀ (whole:Sem Value) (pins:List (Addr × Obj)) (s:Shared) (σ:St) (H:Hp) (Q:Bool->Hp->Prop),Inv X pins σ H s->t σ H Q->wpAny (model X.prog X.w) X.A (isTrue e X.env whole) (TP X pins σ Q) X.xe s
theorem PW.pt {X:Cx} {e:Expr} {t:TT} (h:PW X e t):PT X e t:=h _
noncomputable def PA (X:Cx) (es:List Expr) (t:TA):Prop :=
 ∀ (pos:Pos) (pins:List (Addr × Obj)) (s:Shared) (σ:St) (H:Hp) (Q:List V->Hp->Prop),Inv X pins σ H s->t σ H Q->wpAny (model X.prog X.w) X.A (spliced (backTo pos (starEach es X.env))) (AP X pins σ Q) X.xe s
noncomputable def PS (X:Cx) (st:Stmt) (t:TS):Prop :=
 ∀ (pins:List (Addr × Obj)) (s:Shared) (σ:St) (H:Hp) (D:Ends),Inv X pins σ H s->t D σ H->wpAny (model X.prog X.w) X.A (exec st X.env) (SP X pins D) X.xe s
noncomputable def PSs (X:Cx) (st:List Stmt) (t:TS):Prop :=
 ∀ (pins:List (Addr × Obj)) (s:Shared) (σ:St) (H:Hp) (D:Ends),Inv X pins σ H s->t D σ H->wpAny (model X.prog X.w) X.A (execs st X.env) (SP X pins D) X.xe s
theorem thn {α:Type} {t:Sem α} {Q Q':α->Shared->Prop} {M:Model} {A:Around} {E:Value->Shared->Prop} {s:Shared} (h:wpAny M A t Q E s) (hQ:∀ a s,Q a s->Q' a s):wpAny M A t Q' E s:=wpAny_mono h hQ fun _ _ x=>x
section
variable {X:Cx}
noncomputable def Z5 (i:Nat):TE:=fun σ H Q=>∃ v,σ[i]? = some (some v)/\Q v H
noncomputable def tC (v:V):TE:=fun _ H Q=>Q v H
theorem c5K {i:Nat} {x:Str} {pos:Pos} (hN:X.N[i]? = some x) (hv:Vis X.env.scope x) (hd:(x==("__debug__" : Str))=false:=by decide) (hcd:(x==("__classdict__" : Str))=false:=by decide):PE X (.Name x pos) (Z5 i):=by
 intro pins s σ H Q I h
 obtain ⟨v,e,h⟩:=h
 obtain ⟨m,hn,hl⟩:=I.loc
 obtain ⟨u,r,l⟩:=hl i x v hN e hv
 have fin:EP X pins σ Q u s:=⟨v,H,I,r,h⟩
 rcases l with ⟨hk,hm⟩ | ⟨hk,c,hc,hcell⟩
 . exact wpAny_Name (wpAny_loadName_local I.ok.kind hk hn hm fin) hd
 . rcases hk with hk | hk
   . exact wpAny_Name (wpAny_loadName_cell I.ok.kind hk hc hcell fin) hd
   . exact wpAny_Name (wpAny_loadName_free I.ok.kind hk hc hcell fin hcd) hd
theorem c5Q {i j pos}:PE X (.Constant (.int i) j pos) (tC (.int i)):=fun _ _ _ H _ I h=>wpAny_Constant_int ⟨.int i,H,I.tok _,⟨_,rfl⟩,h⟩
theorem c7i {b j pos}:PE X (.Constant (.bool b) j pos) (tC (.bl b)):=fun _ _ _ H _ I h=>Constant_bool ⟨.bl b,H,I,rfl,h⟩
theorem c5O {j pos}:PE X (.Constant .none j pos) (tC .non):=fun _ _ _ H _ I h=>Constant_none ⟨.non,H,I,rfl,h⟩
theorem c5M {x j pos}:PE X (.Constant (.str x) j pos) (tC (.str x)):=fun _ _ _ H _ I h=>Calls.Constant_str ⟨.str x,H,I.tok _,⟨_,rfl⟩,h⟩
noncomputable def Gl (X:Cx) (x:Str):Prop:=X.env.kindOf x=some .globalImplicit
theorem a6h {E:Value->Shared->Prop} {pins:List (Addr × Obj)} {s:Shared} {σ:St} {H:Hp} {x:Str} {u:Value} {pos:Pos} {Q:Value->Shared->Prop} (I:Inv X pins σ H s) (hg:Gl X x) (hm:X.mg x=some u) (h:Q u s)
  (hd:(x==("__debug__" : Str))=false:=by decide):wpAny (model X.prog X.w) X.A (eval (.Name x pos) X.env) Q E s :=
 Calls.Name_function_global I.ok.kind hg (Calls.loadGlobal_global (by rw [I.ok.glob];exact I.mod.glob.keeps I.bk) hm h) hd
theorem a6i {E:Value->Shared->Prop} {pins:List (Addr × Obj)} {s:Shared} {σ:St} {H:Hp} {x:Str} {u:Value} {pos:Pos} {Q:Value->Shared->Prop} (I:Inv X pins σ H s) (hg:Gl X x) (hm:X.mg x=none) (hv:bootBuiltins x=some u) (h:Q u s)
  (hn:x ≠ "__name__":=by decide) (hd:(x==("__debug__" : Str))=false:=by decide):wpAny (model X.prog X.w) X.A (eval (.Name x pos) X.env) Q E s:=by
 obtain ⟨mb,h1,h2⟩:=I.mod.blt
 exact Calls.Name_function_global I.ok.kind hg (Calls.loadGlobal_builtin (by rw [I.ok.glob];exact I.mod.glob.keeps I.bk) hm (by rw [I.ok.blt];exact h1.keeps I.bk) ((h2 x hn).trans hv) h) hd
theorem a2G {x:Str} {v:V} {u:Value} {pos:Pos} (hg:Gl X x) (hm:X.mg x=some u) (r:RelV v u) (hd:(x==("__debug__" : Str))=false:=by decide):PE X (.Name x pos) (tC v) :=
 fun _ _ _ H _ I h=>a6h I hg hm ⟨v,H,I,r,h⟩ hd
theorem R8 {x:Str} {v:V} {u:Value} {pos:Pos} (hg:Gl X x) (hm:X.mg x=none) (hv:bootBuiltins x=some u) (r:RelV v u) (hn:x ≠ "__name__":=by decide) (hd:(x==("__debug__" : Str))=false:=by decide):PE X (.Name x pos) (tC v) :=
 fun _ _ _ H _ I h=>a6i I hg hm hv ⟨v,H,I,r,h⟩ hn hd
variable {a b:Expr} {ta tb:TE} {pos:Pos}
noncomputable def tB (t:TE):TT:=fun σ H Q=>t σ H fun x H1=>∃ c,x=.bl c/\Q c H1
theorem c5E {e:Expr} {t:TE} (h:PE X e t) (he:∀ whole,isTrue e X.env whole=(do let v <- whole;standAt e.pos;holding [v] (truthy v)):=by intro _;rfl):PT X e (tB t):=by
 intro pins s σ H Q I hw
 refine isTrue_plain (thn (h pins s σ H _ I hw) fun v s1 ⟨x,H1,I1,r1,q1⟩=>?_) (he _)
 obtain ⟨d,rfl,q⟩:=q1
 cases r1
 exact wpAny_truthy_bool ⟨H1,I1,q⟩
variable {tA tB':TT} {rest:List Expr}
noncomputable def c7G (t u:TT):TT:=fun σ H Q=>t σ H fun c H1=>if c=true then u σ H1 Q else Q false H1
noncomputable def tOr (t u:TT):TT:=fun σ H Q=>t σ H fun c H1=>if c=true then Q true H1 else u σ H1 Q
noncomputable def b7e (t:TT):TT:=fun σ H Q=>t σ H fun c H1=>Q (!c) H1
theorem pw_or1 (ha:PT X a tA):PW X (.BoolOp .Or [a] pos) tA:=by
 intro wh pins s σ H Q I h
 refine isTrue_or (thn (ha pins s σ H Q I h) fun c s1 e=>?_)
 cases c with
 | false=>exact isTrue_or_nil e
 | true=>exact e
theorem pw_or (ha:PT X a tA) (hb:PW X (.BoolOp .Or (b::rest) pos) tB'):PW X (.BoolOp .Or (a::b::rest) pos) (tOr tA tB'):=by
 intro wh pins s σ H Q I h
 refine isTrue_or (thn (ha pins s σ H _ I h) fun c s1 ⟨H1,I1,q1⟩=>?_)
 cases c with
 | true=>exact ⟨H1,I1,q1⟩
 | false=>exact hb wh pins s1 σ H1 Q I1 q1
theorem c5F (ha:PT X a tA):PT X (.UnaryOp .Not a pos) (b7e tA):=by
 intro pins s σ H Q I h
 exact isTrue_not (ha pins s σ H (fun c H1=>Q (!c) H1) I h)
noncomputable def b7h (ta tb:TE):TE:=fun σ H Q=>ta σ H fun x H1=>∃ c,x=.bl c/\if c=true then tb σ H1 Q else Q (.bl false) H1
noncomputable def c7E (ta tb:TE):TE:=fun σ H Q=>ta σ H fun x H1=>∃ c,x=.bl c/\if c=true then Q (.bl true) H1 else tb σ H1 Q
noncomputable def c6X (ta:TE):TE:=fun σ H Q=>ta σ H fun x H1=>∃ c,x=.bl c/\Q (.bl (!c)) H1
theorem c5N {op} {t:TE} (h:PE X a t):PE X (.BoolOp op [a] pos) t:=fun pins s σ H Q I hw=>BoolOp_one (h pins s σ H Q I hw)
theorem c5S (ha:PE X a ta) (hb:PE X (.BoolOp .And (b::rest) pos) tb):PE X (.BoolOp .And (a::b::rest) pos) (b7h ta tb):=by
 intro pins s σ H Q I h
 refine BoolOp_and (thn (ha pins s σ H _ I h) fun v s1 ⟨x,H1,I1,r1,q1⟩=>?_)
 obtain ⟨c,rfl,q1⟩:=q1
 cases r1
 refine wpAny_truthy_bool ?_
 cases c with
 | true=>exact hb pins s1 σ H1 Q I1 q1
 | false=>exact ⟨.bl false,H1,I1,rfl,q1⟩
noncomputable def tIf (t:TT) (ta tb:TE):TE:=fun σ H Q=>t σ H fun c H1=>if c=true then ta σ H1 Q else tb σ H1 Q
theorem c1P {c:Expr} (hc:PT X c tA) (ha:PE X a ta) (hb:PE X b tb):PE X (.IfExp c a b pos) (tIf tA ta tb):=by
 intro pins s σ H Q I h
 refine wpAny_IfExp (thn (hc pins s σ H _ I h) fun d s1 ⟨H1,I1,q1⟩=>?_)
 cases d with
 | true=>exact ha pins s1 σ H1 Q I1 q1
 | false=>exact hb pins s1 σ H1 Q I1 q1
end
noncomputable def SqL (K:PySem.W.Frag) (H:Hp) (a:Addr) (xs:List V):Prop :=
 Rd H a (.lst xs) \/
  ∃ (o:Obj) (its:Array Value) (n:Nat),K.lookup a=some o/\o.cls=.type "list"/\o.dict=none/\o.data=.seq its n/\its.size<=sizeLine/\Vals xs its.toList
noncomputable def SqT (K:PySem.W.Frag) (H:Hp) (a:Addr) (xs:List V):Prop :=
 Rd H a (.tup xs) \/
  ∃ (o:Obj) (its:Array Value) (n:Nat),K.lookup a=some o/\o.cls=.type "tuple"/\o.data=.seq its n/\its.size<=sizeLine/\Vals xs its.toList
noncomputable def c7S:Value->Option V
 | .none=>some .non
 | .bool b=>some (.bl b)
 | .int i _=>some (.int i)
 | .str x _=>some (.str x)
 | .bytes b _=>some (.byt b)
 | .float b _=>some (.flt b)
 | .ref a=>some (.ref a)
 | .type n=>some (.ty n)
 | _=>none
theorem RelV.abs {x:V} {u:Value} (r:RelV x u):c7S u=some x:=by
 cases x with
 | non=>cases r;rfl
 | bl _=>cases r;rfl
 | int _=>obtain ⟨t,rfl⟩:=r;rfl
 | str _=>obtain ⟨t,rfl⟩:=r;rfl
 | byt _=>obtain ⟨t,rfl⟩:=r;rfl
 | flt _=>obtain ⟨t,rfl⟩:=r;rfl
 | ref _=>cases r;rfl
 | ty _=>cases r;rfl
theorem RelV.inj {x y:V} {u:Value} (r:RelV x u) (q:RelV y u):x=y:=Option.some.inj (r.abs.symm.trans q.abs)
theorem Vals.inj:∀ {xs ys:List V} {us:List Value},Vals xs us->Vals ys us->xs=ys
 | _,_,_,.nil,.nil=>rfl
 | _,_,_,.cons r t,.cons r' t'=>by rw [r.inj r',Vals.inj t t']
section
variable {X:Cx} {pins:List (Addr × Obj)} {σ:St} {H:Hp} {s:Shared} {a:Addr} {xs ys:List V}
theorem SqL.of {K:PySem.W.Frag} (h:H a=some (.lst xs)):SqL K H a xs:=.inl (.inl h)
theorem SqT.of {K:PySem.W.Frag} (h:H a=some (.tup xs)):SqT K H a xs:=.inl (.inl h)
theorem Inv.list (I:Inv X pins σ H s) (h:SqL X.K H a xs):∃ its:List Value,Vals xs its/\PlainL s.heap a its.toArray/\xs.length<=sizeLine:=by
 rcases h with h | ⟨o,its,n,hk,hc,hd,hs,hz,r⟩
 . obtain ⟨z,its,n,r,e⟩:=h.ok I.hok
   exact ⟨its,r,⟨_,n,e,rfl,rfl,rfl⟩,z⟩
 . refine ⟨its.toList,r,⟨o,n,I.kIn a o hk,hc,hd,by simpa using hs⟩,?_⟩
   have e:=r.length
   simp only [Array.length_toList] at e
   omega
theorem Inv.tuple (I:Inv X pins σ H s) (h:SqT X.K H a xs):∃ its:List Value,Vals xs its/\IsTup s.heap a its.toArray/\xs.length<=sizeLine:=by
 rcases h with h | ⟨o,its,n,hk,hc,hs,hz,r⟩
 . obtain ⟨z,its,r,p⟩:=h.ok I.hok
   exact ⟨its,r,p,z⟩
 . refine ⟨its.toList,r,⟨o,I.kIn a o hk,hc,n,by simpa using hs⟩,?_⟩
   have e:=r.length
   simp only [Array.length_toList] at e
   omega
theorem Inv.b4U (I:Inv X pins σ H s) (h:SqL X.K H a xs) (h':SqL X.K H a ys):xs=ys:=by
 obtain ⟨its,r,⟨o,n,e,_,_,d⟩,_⟩:=I.list h
 obtain ⟨its',r',⟨o',n',e',_,_,d'⟩,_⟩:=I.list h'
 rw [e] at e';cases e'
 rw [d] at d'
 injection d' with d1 _
 have:its=its':=by simpa using congrArg Array.toList d1
 subst this
 exact r.inj r'
theorem Inv.b2T (I:Inv X pins σ H s) (h:SqT X.K H a xs) (h':SqT X.K H a ys):xs=ys:=by
 obtain ⟨its,r,⟨o,e,_,n,d⟩,_⟩:=I.tuple h
 obtain ⟨its',r',⟨o',e',_,n',d'⟩,_⟩:=I.tuple h'
 rw [e] at e';cases e'
 rw [d] at d'
 injection d' with d1 _
 have:its=its':=by simpa using congrArg Array.toList d1
 subst this
 exact r.inj r'
end
noncomputable abbrev Cx.a5p (X:Cx) (E:Value->Shared->Prop):Cx:={ X with xe:=E }
noncomputable abbrev Cx.nox (X:Cx):Cx:=X.a5p fun _ _=>False
theorem Cx.Ok.a5p {X:Cx} (ok:X.Ok) (E:Value->Shared->Prop):(X.a5p E).Ok :=
 ⟨ok.mod,ok.kind,ok.glob,ok.blt,ok.above,ok.inj,ok.has,ok.cab,ok.hd,ok.frames,ok.stk,ok.exf,ok.bs,ok.bsz,ok.a8H,ok.b0P,ok.a2k,ok.frf⟩
theorem Cx.Ok.a3l {X:Cx} {E:Value->Shared->Prop} (ok:(X.a5p E).Ok):X.Ok :=
 ⟨ok.mod,ok.kind,ok.glob,ok.blt,ok.above,ok.inj,ok.has,ok.cab,ok.hd,ok.frames,ok.stk,ok.exf,ok.bs,ok.bsz,ok.a8H,ok.b0P,ok.a2k,ok.frf⟩
section
variable {X:Cx} {pins:List (Addr × Obj)} {σ:St} {H:Hp} {s:Shared} {E:Value->Shared->Prop}
theorem Inv.a5p (I:Inv X pins σ H s) (E:Value->Shared->Prop):Inv (X.a5p E) pins σ H s:=⟨I.ok.a5p E,I.os,I.bare,I.base,I.loc,I.cell,I.free,I.a0N,I.pin,I.hok,I.len⟩
theorem Inv.a3l (I:Inv (X.a5p E) pins σ H s):Inv X pins σ H s:=⟨I.ok.a3l,I.os,I.bare,I.base,I.loc,I.cell,I.free,I.a0N,I.pin,I.hok,I.len⟩
theorem SP.a3l {D:Ends} {f:Flow} {s':Shared} (h:SP (X.a5p E) pins D f s'):SP X pins D f s':=by
 cases f with
 | next=>obtain ⟨σ',H',I,q⟩:=h;exact ⟨σ',H',I.a3l,q⟩
 | brk=>obtain ⟨σ',H',I,q⟩:=h;exact ⟨σ',H',I.a3l,q⟩
 | cont=>obtain ⟨σ',H',I,q⟩:=h;exact ⟨σ',H',I.a3l,q⟩
 | ret u=>obtain ⟨v,σ',H',I,r,q⟩:=h;exact ⟨v,σ',H',I.a3l,r,q⟩
theorem PSs.nox {st:List Stmt} {t:TS} (h:PSs X.nox st t):PSs X st t:=fun pins s σ H D I hw =>
 wpAny_mono (h pins s σ H D (I.a5p _) hw) (fun _ _ q=>q.a3l) fun _ _ z=>False.elim z
end
section
variable {X:Cx} {st:Stmt} {rest:List Stmt} {t u:TS} {e:Expr} {te:TE} {pos:Pos}
noncomputable def b7f:TS:=fun D σ H=>D.nx σ H
noncomputable def c1j (t u:TS):TS:=fun D σ H=>t { D with nx:=u D } σ H
theorem c3U:PSs X [] b7f:=fun _ _ σ H _ I h=>wpAny_execs_nil ⟨σ,H,I,h⟩
theorem b4E (h1:PS X st t) (h2:PSs X rest u):PSs X (st::rest) (c1j t u):=by
 intro pins s σ H D I h
 refine wpAny_execs_cons (thn (h1 pins s σ H { D with nx:=u D } I h) fun f s1 q=>?_)
 cases f with
 | next =>
  obtain ⟨σ',H',I',q⟩:=q
  exact h2 pins s1 σ' H' D I' q
 | ret v=>exact q
 | brk=>exact q
 | cont=>exact q
theorem b6A (h1:PS X st t):PSs X [st] t:=by
 intro pins s σ H D I h
 refine wpAny_execs_cons (thn (h1 pins s σ H D I h) fun f s1 q=>?_)
 cases f with
 | next=>exact wpAny_execs_nil q
 | ret v=>exact q
 | brk=>exact q
 | cont=>exact q
theorem Inv.quiet {pins:List (Addr × Obj)} {σ:St} {H:Hp} {s:Shared} (I:Inv X pins σ H s):interactive X.env=false:=by simp [interactive,I.ok.kind]
noncomputable def b3Y (te:TE):TS:=fun D σ H=>te σ H fun _ H1=>D.nx σ H1
theorem a9A (he:PE X e te) (hs:swapsWith e none pos.line X.env=pure false:=by rfl):PS X (.Expr e pos) (b3Y te):=by
 intro pins s σ H D I h
 exact wpAny_Expr_any (thn (he pins s σ H _ I h) fun v s1 ⟨x,H1,I1,r1,q1⟩=>⟨σ,H1,I1,q1⟩) I.quiet hs
noncomputable def b7c (te:TE):TS:=fun D σ H=>te σ H D.rt
theorem b9l (he:PE X e te):PS X (.Return (some e) pos) (b7c te):=by
 intro pins s σ H D I h
 exact wpAny_Return_some (thn (he pins s σ H _ I h) fun v s1 ⟨x,H1,I1,r1,q1⟩=>⟨x,σ,H1,I1,r1,q1⟩)
noncomputable def c1m (c:TT) (t u:TS):TS:=fun D σ H=>c σ H fun b H1=>if b=true then t D σ H1 else u D σ H1
theorem c7f {c:Expr} {a b:List Stmt} {tc:TT} (hc:PT X c tc) (ha:PSs X a t) (hb:PSs X b u):PS X (.If c a b pos) (c1m tc t u):=by
 intro pins s σ H D I h
 refine wpAny_If (thn (hc pins s σ H _ I h) fun d s1 ⟨H1,I1,q1⟩=>?_)
 cases d with
 | true=>exact ha pins s1 σ H1 D I1 q1
 | false=>exact hb pins s1 σ H1 D I1 q1
noncomputable def b8R:TS:=fun _ _ _=>False
theorem c1I:PS X st b8R:=fun _ _ _ _ _ _ h=>h.elim
end
noncomputable abbrev TG:=V->St->Hp->(St->Hp->Prop)->Prop
noncomputable abbrev TGs:=List V->St->Hp->(St->Hp->Prop)->Prop
noncomputable def PG (X:Cx) (target:Expr) (t:TG):Prop :=
 ∀ (pins:List (Addr × Obj)) (s:Shared) (σ:St) (H:Hp) (v:V) (u:Value) (Q:St->Hp->Prop),Inv X pins σ H s->RelV v u->t v σ H Q ->
  wpAny (model X.prog X.w) X.A (assign target X.env u) (fun _ s'=>∃ σ' H',Inv X pins σ' H' s'/\Q σ' H') X.xe s
noncomputable def PGs (X:Cx) (ts:List Expr) (t:TGs):Prop :=
 ∀ (pins:List (Addr × Obj)) (s:Shared) (σ:St) (H:Hp) (vs:List V) (us:List Value) (Q:St->Hp->Prop),Inv X pins σ H s->Vals vs us->t vs σ H Q ->
  wpAny (model X.prog X.w) X.A (assignInOrder ((assignEach ts X.env).map (·.2)) us) (fun _ s'=>∃ σ' H',Inv X pins σ' H' s'/\Q σ' H') X.xe s
noncomputable abbrev c2K:=V->V->V->Hp->(Hp->Prop)->Prop
noncomputable def c6M (X:Cx) (t:c2K):Prop :=
 ∀ (pins:List (Addr × Obj)) (s:Shared) (σ:St) (H:Hp) (o i v:V) (ov iv u:Value) (Q:Hp->Prop),Inv X pins σ H s->RelV o ov->RelV i iv->RelV v u->t o i v H Q ->
  wpAny (model X.prog X.w) X.A (setItem ov iv u) (fun _ s'=>∃ H',Inv X pins σ H' s'/\Q H') X.xe s
section
variable {X:Cx} {pos:Pos}
noncomputable def a0u (i:Nat):TG:=fun v σ H Q=>Q (σ.set i (some v)) H
theorem C0 {i:Nat} {x:Str} (hN:X.N.Nodup) (hi:X.N[i]? = some x) (hx:Loc X.env.scope x) (hf:X.fn x=true\/X.env.scope.names.lookup x=some .local:=by first | exact .inl rfl | exact .inr rfl | assumption):PG X (.Name x pos) (a0u i):=by
 intro pins s σ H v u Q I r h
 exact wpAny_assign_Name (a4k I hN hi hx r (fun s' I'=>⟨_,H,I',h⟩) hf)
noncomputable def b5f:TGs:=fun vs σ H Q=>vs=[]/\Q σ H
noncomputable def a9L (t:TG) (u:TGs):TGs:=fun vs σ H Q=>∃ v r,vs=v::r/\t v σ H fun σ' H'=>u r σ' H' Q
theorem a9B:PGs X [] b5f:=by
 intro pins s σ H vs us Q I r h
 obtain ⟨e,h⟩:=h
 subst e
 cases r
 exact assignInOrder_nil ⟨σ,H,I,h⟩
theorem Z0 {e:Expr} {es:List Expr} {t:TG} {u:TGs} (h1:PG X e t) (h2:PGs X es u)
  (hs:(assignEach (e::es) X.env).map (·.2)=assign e X.env::(assignEach es X.env).map (·.2):=by rfl):PGs X (e::es) (a9L t u):=by
 intro pins s σ H vs us Q I r h
 obtain ⟨v,vr,e1,h⟩:=h
 subst e1
 cases r with
 | cons r rr =>
  rw [hs]
  refine assignInOrder_cons (thn (h1 pins s σ H _ _ _ I r h) fun _ s1 ⟨σ1,H1,I1,q1⟩=>?_)
  exact h2 pins s1 σ1 H1 _ _ Q I1 rr q1
noncomputable def b5e (K:PySem.W.Frag) (n:Nat) (t:TGs):TG:=fun v σ H Q=>∃ a xs,v=.ref a/\SqT K H a xs/\xs.length=n/\t xs σ H Q
theorem b1v {es:List Expr} {k:Nat} {t:TGs} {n:Nat} (hc:X.calm=true) (h:PGs X es t)
  (hn:(assignEach es X.env).length=n:=by rfl) (hst:(assignEach es X.env).findIdx? (·.1)=none:=by rfl):PG X (.Tuple es k pos) (b5e X.K n t):=by
 intro pins s σ H v u Q I r hw
 obtain ⟨a,xs,e1,hq,hl,hw⟩:=hw
 subst e1
 cases r
 obtain ⟨its,rv,ht,hz⟩:=I.tuple hq
 refine assign_Tuple_tuple (I.ok.hd hc) ht (by simp [hn,<-hl,rv.length]) hst fun h' hx=>?_
 have I1:Inv X pins σ H { s with heap:=h' }:=I.kept (t':=s.toks) fun b o e=>hx b o (Nat.ne_of_lt (Heap.lt_size e)) e
 exact h pins _ σ H xs _ Q I1 (by simpa using rv) hw
noncomputable def c6B (to ti:TE) (t:c2K):TG:=fun v σ H Q=>to σ H fun o H1=>ti σ H1 fun i H2=>t o i v H2 fun H3=>Q σ H3
theorem c5J {o i:Expr} {to ti:TE} {t:c2K} (ho:PE X o to) (hi:PE X i ti) (hs:c6M X t)
  (ha:∀ v,assign (.Subscript o i pos) X.env v=(do
   let ov <- holding [v] (eval o X.env)
   let iv <- holding [v,ov] (eval i X.env)
   standAt pos
   holding [v,ov,iv] (setItem ov iv v)
   release [v,ov,iv] []):=by intro _;rfl):PG X (.Subscript o i pos) (c6B to ti t):=by
 intro pins s σ H v u Q I r h
 rw [ha]
 refine wpAny_bind (wpAny_holding (thn (ho pins s σ H _ I h) fun ov s1 ⟨x,H1,I1,r1,q1⟩=>?_))
 refine wpAny_bind (wpAny_holding (thn (hi pins s1 σ H1 _ I1 q1) fun iv s2 ⟨y,H2,I2,r2,q2⟩=>?_))
 refine wpAny_bind (wpAny_standAt (wpAny_bind (wpAny_holding (thn (hs pins s2 σ H2 x y v ov iv u _ I2 r1 r2 r q2) fun _ s3 ⟨H3,I3,q3⟩=>?_))))
 exact wpAny_release ⟨σ,H3,I3,q3⟩
noncomputable def a5q (te:TE) (g:TG):TS:=fun D σ H=>te σ H fun x H1=>g x σ H1 D.nx
theorem b9n {tg e:Expr} {te:TE} {g:TG} (he:PE X e te) (hg:PG X tg g) (hs:swapsWithSole [tg] e pos.line X.env=pure false:=by rfl) (hw:swappedStores [tg] e X.env=pure none:=by rfl)
  (h1:(assignEach [tg] X.env).map (·.2)=[assign tg X.env]:=by rfl):PS X (.Assign [tg] e pos) (a5q te g):=by
 intro pins s σ H D I h
 refine wpAny_Assign_stores (thn (he pins s σ H _ I h) fun v s1 ⟨x,H1,I1,r1,q1⟩=>?_) hs hw
 rw [h1]
 exact thn (hg pins s1 σ H1 x v _ I1 r1 q1) fun _ s2 q=>q
theorem b9k {i:Nat} {x:Str} {e:Expr} {te:TE} {pos':Pos} (hN:X.N.Nodup) (hi:X.N[i]? = some x) (hx:Loc X.env.scope x) (he:PE X e te) (hs:swapsWith e (some (.Name x pos')) pos.line X.env=pure false:=by rfl) (hf:X.fn x=true\/X.env.scope.names.lookup x=some .local:=by first | exact .inl rfl | exact .inr rfl | assumption) :
  PS X (.Assign [.Name x pos'] e pos) (a5q te (a0u i)):=by
 intro pins s σ H D I h
 refine wpAny_Assign_Name (thn (he pins s σ H _ I h) fun v s1 ⟨y,H1,I1,r1,q1⟩=>?_) hs
 exact a4k I1 hN hi hx r1 (fun s2 I2=>⟨_,H1,I2,q1⟩) hf
noncomputable def c1k (i j:Nat) (ta:TA):TS:=fun D σ H=>ta σ H fun vs H1=>∃ v w,vs=[v,w]/\D.nx ((σ.set i (some v)).set j (some w)) H1
theorem c5G {i j:Nat} {x y:Str} {a b:Expr} {ta:TA} {px py pt:Pos} {kt k2 pt2} (hc:X.calm=true) (hN:X.N.Nodup) (hi:X.N[i]? = some x) (hj:X.N[j]? = some y) (hij:i ≠ j)
  (hx:X.env.scope.names.lookup x=some .local) (hy:X.env.scope.names.lookup y=some .local) (ha:PA X [a,b] ta)
  (hw:swappedStores [.Tuple [.Name x px,.Name y py] kt pt] (.Tuple [a,b] k2 pt2) X.env=pure (some [x,y]))
  (hs:swapsWithSole [.Tuple [.Name x px,.Name y py] kt pt] (.Tuple [a,b] k2 pt2) pos.line X.env=pure false:=by rfl) :
  PS X (.Assign [.Tuple [.Name x px,.Name y py] kt pt] (.Tuple [a,b] k2 pt2) pos) (c1k i j ta):=by
 intro pins s σ H D I h
 rw [exec_Assign_arm]
 refine wpAny_bind (wpAny_standAt ?_)
 rw [hs]
 refine wpAny_bind (wpAny_pure ?_)
 rw [if_neg (by decide)]
 refine wpAny_bind (Tuple_ (thn (ha _ pins s σ H _ I h) fun us s1 ⟨vs,H1,I1,r1,q1⟩=>?_))
 obtain ⟨v,w,e1,q1⟩:=q1
 subst e1
 obtain ⟨u1,u2,rfl,rv,rw'⟩:∃ u1 u2,us=[u1,u2]/\RelV v u1/\RelV w u2:=by
  cases r1 with
  | cons p q =>
   cases q with
   | cons p' q' =>
    cases q'
    exact ⟨_,_,rfl,p,p'⟩
 refine wpAny_newObj_type ?_ (by show 2<=sizeLine;decide)
 have I2:Inv X pins σ H1 { s1 with heap:=s1.heap.push { cls:=.type "tuple",data:=.seq [u1,u2].toArray } }:=I1.kept (t':=s1.toks) fun b o e=>Heap.get?_push_of_some _ e
 rw [hw]
 refine wpAny_bind (wpAny_pure ?_)
 show wpAny (model X.prog X.w) X.A (do rule "assign.swapped-stores";let items <- unpackItems (.ref s1.heap.objs.size) 2 none;assignInOrder [fun v=>bindName X.env y v,fun v=>bindName X.env x v] items.reverse;pure Flow.next) _ _ _
 refine wpAny_bind (wpAny_rule (wpAny_bind (unpackItems_tuple (items:=#[u1,u2]) (I.ok.hd hc) (IsTup.new s1.heap _) fun h' hx'=>?_)))
 have I3:=I2.kept (h':=h') (t':=s1.toks) fun b o e=>hx' b o (Nat.ne_of_lt (Heap.lt_size e)) e
 show wpAny _ _ (assignInOrder [fun v=>bindName X.env y v,fun v=>bindName X.env x v] [u2,u1] >>= fun _=>pure Flow.next) _ _ _
 refine wpAny_bind (assignInOrder_cons (wpAny_bindName (a4k I3 hN hj (.inl hy) rw' (fun s2 I4=>?_) (.inr hy))))
 refine assignInOrder_cons (wpAny_bindName (a4k I4 hN hi (.inl hx) rv (fun s3 I5=>assignInOrder_nil (wpAny_pure ?_)) (.inr hx)))
 rw [List.set_comm _ _ (Ne.symm hij)] at I5
 exact ⟨_,H1,I5,q1⟩
end
section
variable {X:Cx} {pos:Pos}
noncomputable def b8Q (c:TT) (tb:TS):TS:=fun D σ H=>∃ W:Nat->St->Hp->Prop,(∃ m,W m σ H)/\∀ m σ H,W m σ H ->
 c σ H fun b H1=>if b=true then ∃ N:St->Hp->Prop,(∀ σ' H',N σ' H'->∃ m',m' < m/\W m' σ' H')/\tb { D with nx:=N,ct:=N,bk:=D.nx } σ H1 else D.nx σ H1
theorem c1H {c:Expr} {body:List Stmt} {tc:TT} {tb:TS} (hp:PassesOwn (model X.prog X.w) X.A X.env X.xe) (hc:PT X c tc) (hb:PSs X body tb):PS X (.While c body [] pos) (b8Q tc tb):=by
 intro pins s σ H D I h
 obtain ⟨W,⟨m0,w0⟩,turn⟩:=h
 refine wpAny_While (codeAny_whileLoop (fun n s'=>∃ σ' H',Inv X pins σ' H' s'/\W n σ' H') ?_ m0 ⟨σ,H,I,w0⟩)
 rintro n s1 ⟨σ1,H1,I1,w1⟩
 refine wpAny_passesOwn hp (thn (hc pins s1 σ1 H1 _ I1 (turn n σ1 H1 w1)) fun b s2 ⟨H2,I2,q2⟩=>?_)
 cases b with
 | true =>
  obtain ⟨N,hN,q2⟩:=q2
  rw [if_pos rfl]
  refine wpAny_passesOwn hp (thn (hb pins s2 σ1 H2 _ I2 q2) fun f s3 q3=>?_)
  cases f with
  | next =>
   obtain ⟨σ3,H3,I3,n3⟩:=q3
   obtain ⟨m',hm,w3⟩:=hN σ3 H3 n3
   exact ⟨m',hm,σ3,H3,I3,w3⟩
  | cont =>
   obtain ⟨σ3,H3,I3,n3⟩:=q3
   obtain ⟨m',hm,w3⟩:=hN σ3 H3 n3
   exact ⟨m',hm,σ3,H3,I3,w3⟩
  | brk=>exact q3
  | ret v=>exact q3
 | false =>
  rw [if_neg Bool.false_ne_true]
  exact wpAny_execs_nil ⟨σ1,H2,I2,q2⟩
end
structure It where
 go:Nat->Hp->Prop
 yld:Nat->Hp->V->Hp->Prop
 stop:Nat->Hp->Prop
noncomputable def a3P (X:Cx) (pins:List (Addr × Obj)) (H:Hp) (b:Addr):Prop :=
 H b=none/\b ≠ X.env.locals/\b ∉ X.fs/\(b ∈ X.ex\/X.L5.heap.objs.size<=b)/\(∀ x c,X.env.cells.lookup x=some c->c ≠ b)/\∀ p ∈ X.pn++pins,p.1 ≠ b
theorem Inv.b0I {X:Cx} {pins:List (Addr × Obj)} {σ:St} {H H':Hp} {s:Shared} {b:Addr} (I:Inv X pins σ H s) (hb:s.heap.objs.size<=b) (hn:H' b=none):a3P X pins H' b:=by
 refine ⟨hn,Nat.ne_of_gt (Nat.lt_of_lt_of_le I.lt hb),I.c1X hb,.inr (Nat.le_trans I.sz hb),fun x c e z=>?_,fun p hp z=>?_⟩
 . obtain ⟨v,q⟩:=I.cell x c e
   exact absurd (Nat.lt_of_lt_of_le q.lt (by rw [z];exact hb)) (Nat.lt_irrefl _)
 . exact absurd (Nat.lt_of_lt_of_le (Heap.lt_size (I.pin p hp).1) (by rw [z];exact hb)) (Nat.lt_irrefl _)
structure Turn (P:Program) (w:World) (K:PySem.W.Frag) (tg:Expr) (J:It) (fp:List Addr) (it:Addr) (tn:Nat->Heap->Prop):Prop where
 mem:it ∈ fp
 obj:∀ i h,tn i h->∀ b ∈ fp,∃ o,h.get? b=some o/\∀ v,o.data ≠ .cell v
 keep:∀ i h h',tn i h->(∀ b ∈ fp,∀ o,h.get? b=some o->h'.get? b=some o)->tn i h'
 item:∀ (X:Cx),X.prog=P->X.w=w->X.K=K->X.calm=true->∀ (i:Nat) (pins:List (Addr × Obj)) (s:Shared) (σ:St) (H:Hp) (E:Value->Shared->Prop),Inv X pins σ H s->(∀ b ∈ fp,a3P X pins H b)->tn i s.heap->J.go i H ->
  wpAny (model P w) X.A (pyNext (.ref it)) (fun r s1=>∃ u,r=some u /\
   wpAny (model P w) X.A (letOwnedTupleGo tg (.ref it) u) (fun _ s2=>∃ x H',Inv X pins σ H' s2/\RelV x u/\J.yld i H x H'/\tn (i + 1) s2.heap/\∀ b ∈ fp,H' b=none) E s1) E s
 done:∀ (X:Cx),X.prog=P->X.w=w->X.K=K->X.calm=true->∀ (i:Nat) (pins:List (Addr × Obj)) (s:Shared) (σ:St) (H:Hp) (E:Value->Shared->Prop),Inv X pins σ H s->(∀ b ∈ fp,a3P X pins H b)->tn i s.heap->J.stop i H ->
  wpAny (model P w) X.A (pyNext (.ref it)) (fun r s1=>r=none/\Inv X pins σ H s1) E s
 self:∀ (A:Around) (i:Nat) (s:Shared) (Q:Value->Shared->Prop) (E:Value->Shared->Prop),tn i s.heap->Q (.ref it) s->wpAny (model P w) A (pyIter (.ref it)) Q E s
noncomputable abbrev TI:=St->Hp->(It->Hp->Prop)->Prop
noncomputable def PIE (X:Cx) (pins:List (Addr × Obj)) (σ:St) (tg:Expr) (R:It->Hp->Prop) (itv:Value) (s2:Shared):Prop :=
 ∃ (it:Addr) (fp:List Addr) (tn:Nat->Heap->Prop) (J:It) (H':Hp),itv=.ref it/\Inv X pins σ H' s2/\Turn X.prog X.w X.K tg J fp it tn/\tn 0 s2.heap/\(∀ b ∈ fp,a3P X pins H' b)/\R J H'
noncomputable def PI (X:Cx) (tg iter:Expr) (wi:TI):Prop :=
 ∀ (pins:List (Addr × Obj)) (s:Shared) (σ:St) (H:Hp) (R:It->Hp->Prop),Inv X pins σ H s->wi σ H R ->
  wpAny (model X.prog X.w) X.A (eval iter X.env) (fun v s1=>wpAny (model X.prog X.w) X.A (pyIter v) (PIE X pins σ tg R) X.xe s1) X.xe s
theorem b4d {M:Model} {A:Around} {E:Value->Shared->Prop} {s:Shared} {tg:Expr} {it:Addr} {u:Value} {o:Obj} {n:String} {vs:Array Value} {Q:Unit->Shared->Prop} (ho:s.heap.get? it=some o) (hc:o.cls=.type n) (hd:o.data=.fields vs)
  (hn:["enumerate","zip","dict_itemiterator","dict_reverseitemiterator","odict_iterator","itertools.zip_longest","itertools.pairwise"].contains n=false) (hQ:Q () s):wpAny M A (letOwnedTupleGo tg (.ref it) u) Q E s:=by
 unfold letOwnedTupleGo
 cases tg <;> first
  | exact wpAny_pure hQ
  | (cases u <;> first
    | exact wpAny_pure hQ
    | (refine wpAny_bind (wpAny_load ho ?_)
       rw [hc,hd]
       show wpAny M A (if (["enumerate","zip","dict_itemiterator","dict_reverseitemiterator","odict_iterator","itertools.zip_longest","itertools.pairwise"].contains n&&vs[0]?==some (rawInt _))=true then _ else _) Q E s
       rw [if_neg (by intro h;rw [hn,Bool.false_and] at h;cases h)]
       exact wpAny_pure hQ))
noncomputable def Itl (K:PySem.W.Frag) (a:Addr):It :=
 ⟨fun i H=>∃ xs x,SqL K H a xs/\xs[i]? = some x,fun i H x H'=>H'=H/\∀ xs,SqL K H a xs->xs[i]? = some x,fun i H=>∃ xs,SqL K H a xs/\xs.length<=i⟩
noncomputable def Itt (K:PySem.W.Frag) (a:Addr):It :=
 ⟨fun i H=>∃ xs x,SqT K H a xs/\xs[i]? = some x,fun i H x H'=>H'=H/\∀ xs,SqT K H a xs->xs[i]? = some x,fun i H=>∃ xs,SqT K H a xs/\xs.length<=i⟩
noncomputable def Itr (lo:Int) (n:Nat):It:=⟨fun i _=>i < n,fun i H x H'=>H'=H/\x=.int (lo + i),fun i _=>n<=i⟩
theorem b8P {P:Program} {w:World} {K:PySem.W.Frag} {tg:Expr} (a it:Addr):Turn P w K tg (Itl K a) [it] it (fun i h=>h.IsListIter it a i) where
 mem:=by simp
 obj:=fun i h st b hb=>by
  have e:b=it:=by simpa using hb
  subst e
  obtain ⟨o,e,c,d⟩:=st
  exact ⟨o,e,fun v z=>by rw [d] at z;cases z⟩
 keep:=fun i h h' st k=>st.at fun o e=>k it (by simp) o e
 item:=by
  intro X hP hw hK hc i pins s σ H E I hf st hg
  subst hP hw hK
  obtain ⟨xs,x,hq,hx⟩:=hg
  obtain ⟨its,rv,p,hz⟩:=I.list hq
  obtain ⟨u,hu,ru⟩:=rv.get hx
  obtain ⟨f0,f1,f2,f3,f4,f5⟩:=hf it (by simp)
  refine wpAny_pyNext_list_item st p.isList (x:=u) (by simpa using hu) fun h' st' sb=>?_
  have I1:Inv X pins σ H { s with heap:=h' }:=I.turned (t':=s.toks) (fun b o hb e=>(sb.2 b hb).trans e) f0 f1 f3 f4 f5
  obtain ⟨o,e,c,d⟩:=id st'
  exact ⟨u,rfl,b4d (s:={ s with heap:=h' }) e c d (by decide) ⟨x,H,I1,ru,⟨rfl,fun ys hy=>by rw [I.b4U hy hq];exact hx⟩,st',fun b hb=>(hf b hb).1⟩⟩
 done:=by
  intro X hP hw hK hc i pins s σ H E I hf st hg
  subst hP hw hK
  obtain ⟨xs,hq,hx⟩:=hg
  obtain ⟨its,rv,p,hz⟩:=I.list hq
  obtain ⟨f0,f1,f2,f3,f4,f5⟩:=hf it (by simp)
  have hl:=rv.length
  exact wpAny_pyNext_list_end (I.ok.hd hc) st p.isList (by simp;omega) fun h' eb=>⟨rfl,I.turned (t':=s.toks) (fun b o hb e=>eb b o hb e) f0 f1 f3 f4 f5⟩
 self:=fun _ _ _ _ _ st h=>wpAny_pyIter_listiter st h
theorem b6X {P:Program} {w:World} {K:PySem.W.Frag} {tg:Expr} (a it:Addr):Turn P w K tg (Itt K a) [it] it (fun i h=>h.IsTupleIter it a i) where
 mem:=by simp
 obj:=fun i h st b hb=>by
  have e:b=it:=by simpa using hb
  subst e
  obtain ⟨o,e,c,d⟩:=st
  exact ⟨o,e,fun v z=>by rw [d] at z;cases z⟩
 keep:=fun i h h' st k=>st.at fun o e=>k it (by simp) o e
 item:=by
  intro X hP hw hK hc i pins s σ H E I hf st hg
  subst hP hw hK
  obtain ⟨xs,x,hq,hx⟩:=hg
  obtain ⟨its,rv,p,hz⟩:=I.tuple hq
  obtain ⟨u,hu,ru⟩:=rv.get hx
  obtain ⟨f0,f1,f2,f3,f4,f5⟩:=hf it (by simp)
  refine wpAny_pyNext_tuple_item st (show s.heap.IsTuple a its.toArray from p) (x:=u) (by simpa using hu) fun h' st' sb=>?_
  have I1:Inv X pins σ H { s with heap:=h' }:=I.turned (t':=s.toks) (fun b o hb e=>(sb.2 b hb).trans e) f0 f1 f3 f4 f5
  obtain ⟨o,e,c,d⟩:=id st'
  exact ⟨u,rfl,b4d (s:={ s with heap:=h' }) e c d (by decide) ⟨x,H,I1,ru,⟨rfl,fun ys hy=>by rw [I.b2T hy hq];exact hx⟩,st',fun b hb=>(hf b hb).1⟩⟩
 done:=by
  intro X hP hw hK hc i pins s σ H E I hf st hg
  subst hP hw hK
  obtain ⟨xs,hq,hx⟩:=hg
  obtain ⟨its,rv,p,hz⟩:=I.tuple hq
  obtain ⟨f0,f1,f2,f3,f4,f5⟩:=hf it (by simp)
  have hl:=rv.length
  exact wpAny_pyNext_tuple_end (I.ok.hd hc) st (show s.heap.IsTuple a its.toArray from p) (by simp;omega) fun h' eb=>⟨rfl,I.turned (t':=s.toks) (fun b o hb e=>eb b o hb e) f0 f1 f3 f4 f5⟩
 self:=fun _ _ _ _ _ st h=>wpAny_pyIter_tupleiter st h
theorem b6Y {P:Program} {w:World} {K:PySem.W.Frag} {tg:Expr} (it:Addr) (lo:Int) (n:Nat):Turn P w K tg (Itr lo n) [it] it (fun i h=>IsRangeIter h it (lo + (i:Nat) * 1) ((n:Int) - (i:Nat)) 1) where
 mem:=by simp
 obj:=fun i h st b hb=>by
  have e:b=it:=by simpa using hb
  subst e
  exact ⟨_,st,fun v z=>by
   have z':Data.fields _=Data.cell v:=z
   cases z'⟩
 keep:=fun i h h' st k=>k it (by simp) _ st
 item:=by
  intro X hP hw hK hc i pins s σ H E I hf st hg
  subst hP hw hK
  obtain ⟨f0,f1,f2,f3,f4,f5⟩:=hf it (by simp)
  have W:=Walks.range (prog:=X.prog) (w:=X.w) (I.ok.hd hc) it lo 1 n
  refine W.item i s _ _ hg st fun v h' tk hv st' kk=>?_
  obtain ⟨t,rfl⟩:=hv
  have I1:Inv X pins σ H { s with heap:=h',toks:=tk }:=I.turned (fun b o hb e=>kk b o (by simpa using hb) e) f0 f1 f3 f4 f5
  refine ⟨_,rfl,b4d (s:={ s with heap:=h',toks:=tk }) (n:="range_iterator") st' rfl rfl (by decide) ⟨.int (lo + i),H,I1,⟨t,?_⟩,⟨rfl,rfl⟩,st',fun b hb=>(hf b hb).1⟩⟩
  rw [Int.mul_one]
 done:=by
  intro X hP hw hK hc i pins s σ H E I hf st hg
  subst hP hw hK
  obtain ⟨f0,f1,f2,f3,f4,f5⟩:=hf it (by simp)
  exact wpAny_pyNext_range_end (I.ok.hd hc) st (by have:n<=i:=hg;omega) fun h' eb=>⟨rfl,I.turned (t':=s.toks) (fun b o hb e=>eb b o hb e) f0 f1 f3 f4 f5⟩
 self:=fun _ _ _ _ _ st h=>wpAny_pyIter_rangeiter st h
section
variable {X:Cx} {tg:Expr}
theorem b4x {pins:List (Addr × Obj)} {σ:St} {H:Hp} {s:Shared} {R:It->Hp->Prop} {E:Value->Shared->Prop} {lo hi:Int} {t u v:Tok} {tk:Nat} (I:Inv X pins σ H s) (h1 : -(2 ^ 62)<=lo) (h2:lo < 2 ^ 62) (h3 : -(2 ^ 62)<=hi) (h4:hi < 2 ^ 62)
  (q:R (Itr lo (hi - lo).toNat) H):wpAny (model X.prog X.w) X.A (pyIter (.ref s.heap.objs.size)) (PIE X pins σ tg R) E { s with heap:=s.heap.push { cls:=.type "range",data:=.fields #[.int lo t,.int hi u,.int 1 v] },toks:=tk }:=by
 refine wpAny_pyIter_range (IsRange.new ..) (small_one h1 h2 h3 h4) ?_
 have I1:Inv X pins σ H { s with heap:=s.heap.push { cls:=.type "range",data:=.fields #[.int lo t,.int hi u,.int 1 v] },toks:=tk }:=I.kept fun b o e=>Heap.get?_push_of_some _ e
 refine ⟨(s.heap.push { cls:=.type "range",data:=.fields #[.int lo t,.int hi u,.int 1 v] }).objs.size,[(s.heap.push { cls:=.type "range",data:=.fields #[.int lo t,.int hi u,.int 1 v] }).objs.size],_,_,H,rfl,
  I1.kept (t':=tk) fun b o e=>Heap.get?_push_of_some _ e,b6Y _ lo (hi - lo).toNat,?_,fun b hb=>?_,q⟩
 . have e1:lo + ((0:Nat):Int) * 1=lo:=by simp
   have e2:(((hi - lo).toNat:Nat):Int) - ((0:Nat):Int)=Builtin.Range.rangeSize lo hi 1:=by rw [rangeSize_one];split <;> omega
   show IsRangeIter _ _ (lo + ((0:Nat):Int) * 1) ((((hi - lo).toNat:Nat):Int) - ((0:Nat):Int)) 1
   rw [e1,e2]
   exact Heap.get?_push_size _ rfl
 . have e:b=(s.heap.push { cls:=.type "range",data:=.fields #[.int lo t,.int hi u,.int 1 v] }).objs.size:=by simpa using hb
   subst e
   exact I1.b0I (Nat.le_refl _) (I1.hok.fresh (Nat.le_refl _))
noncomputable def c3l (ta:TA):TI:=fun σ H R=>ta σ H fun vs H1=>∃ j:Int,vs=[.int j]/\-(2 ^ 62)<=j/\j < 2 ^ 62/\R (Itr 0 j.toNat) H1
noncomputable def c3k (ta:TA):TI:=fun σ H R=>ta σ H fun vs H1=>∃ i j:Int,vs=[.int i,.int j]/\(-(2 ^ 62)<=i/\i < 2 ^ 62/\-(2 ^ 62)<=j/\j < 2 ^ 62)/\R (Itr i (j - i).toNat) H1
theorem b9r {a:Expr} {ta:TA} {p pos:Pos} (hg:Gl X "range") (hm:X.mg "range" = none) (ha:PA X [a] ta) (hs:starEach [a] X.env=[(false,eval a X.env)]:=by rfl):PI X tg (.Call (.Name "range" p) [a] [] pos) (c3l ta):=by
 intro pins s σ H R I h
 refine Call_ (a6i I hg hm boot_range (PyProof.Rows.callWith_type1 (thn (ha pos pins s σ H _ I h) fun us s1 ⟨vs,H1,I1,r1,q1⟩=>?_) hs rfl))
 obtain ⟨j,e,q1,q2,q⟩:=q1
 subst e
 cases r1 with
 | cons r rr =>
  cases rr
  obtain ⟨t,rfl⟩:=r
  exact call_range_1 (b4x I1 (by omega) (by omega) q1 q2 (by simpa using q))
theorem b9q {a b:Expr} {ta:TA} {p pos:Pos} (hg:Gl X "range") (hm:X.mg "range" = none) (ha:PA X [a,b] ta) (hs:starEach [a,b] X.env=[(false,eval a X.env),(false,eval b X.env)]:=by rfl) (hs2:starEach [b] X.env=[(false,eval b X.env)]:=by rfl) :
  PI X tg (.Call (.Name "range" p) [a,b] [] pos) (c3k ta):=by
 intro pins s σ H R I h
 refine Call_ (a6i I hg hm boot_range (PyProof.Rows.callWith_type1 (thn (ha pos pins s σ H _ I h) fun us s1 ⟨vs,H1,I1,r1,q1⟩=>?_) (by rw [hs,hs2]) (by rw [hs2];rfl)))
 obtain ⟨i,j,e,⟨q1,q2,q3,q4⟩,q⟩:=q1
 subst e
 cases r1 with
 | cons r rr =>
  cases rr with
  | cons r' rr =>
   cases rr
   obtain ⟨t,rfl⟩:=r
   obtain ⟨t',rfl⟩:=r'
   exact call_range_2 (b4x I1 q1 q2 q3 q4 q)
noncomputable def c5n (wi:TI) (g:TG) (tb:TS):TS:=fun D σ H=>wi σ H fun J H1=>∃ W:Nat->Nat->St->Hp->Prop,(∃ m,W 0 m σ H1)/\∀ i m σ H,W i m σ H ->
 (J.stop i H/\D.nx σ H)\/(J.go i H/\∃ N:St->Hp->Prop,(∀ σ' H',N σ' H'->∃ m',m' < m/\W (i + 1) m' σ' H')/\∀ x H',J.yld i H x H'->g x σ H' fun σ2 H2=>tb { D with nx:=N,ct:=N,bk:=D.nx } σ2 H2)
noncomputable def a8F (fp:List Addr) (h:Heap):List (Addr × Obj):=fp.filterMap fun b=>(h.get? b).map fun o=>(b,o)
theorem a3W {fp:List Addr} {h:Heap} {b:Addr} {o:Obj} (hb:b ∈ fp) (e:h.get? b=some o):(b,o) ∈ a8F fp h:=List.mem_filterMap.mpr ⟨b,hb,by rw [e];rfl⟩
theorem b9H {fp:List Addr} {h:Heap} {p:Addr × Obj} (hp:p ∈ a8F fp h):p.1 ∈ fp/\h.get? p.1=some p.2:=by
 obtain ⟨b,hb,e⟩:=List.mem_filterMap.mp hp
 cases q:h.get? b with
 | none=>rw [q] at e;cases e
 | some o =>
  rw [q] at e
  have e':(b,o)=p:=Option.some.inj e
  subst e'
  exact ⟨hb,q⟩
theorem Inv.pinned {pins:List (Addr × Obj)} {σ:St} {H:Hp} {s:Shared} {fp:List Addr} (I:Inv X pins σ H s) (hf:∀ b ∈ fp,a3P X pins H b) (ho:∀ b ∈ fp,∃ o,s.heap.get? b=some o/\∀ v,o.data ≠ .cell v):Inv X (pins++a8F fp s.heap) σ H s :=
 I.a2F fun p hp=>(mem_append.mp hp).elim (fun z=>I.pin p (mem_append_right _ z)) fun z=>by
  obtain ⟨hb,e⟩:=b9H z
  obtain ⟨f0,f1,f2,_⟩:=hf p.1 hb
  obtain ⟨o,e',d⟩:=ho p.1 hb
  rw [e] at e';cases e'
  exact ⟨e,f0,f1,f2,d⟩
theorem Inv.b0i {pins pl:List (Addr × Obj)} {σ:St} {H:Hp} {s:Shared} (I:Inv X (pins++pl) σ H s):Inv X pins σ H s:=I.a2F fun p hp=>I.pin p (mem_append_right _ (List.mem_append_left _ hp))
theorem c5H {iter:Expr} {body:List Stmt} {wi:TI} {g:TG} {tb:TS} {pos:Pos} (hp:PassesOwn (model X.prog X.w) X.A X.env X.xe) (hc:X.calm=true) (hi:PI X tg iter wi) (hg:PG X tg g) (hb:PSs X body tb)
  (hs:∀ x,foldedSetIterable iter X.env x=pure x:=by intro _;rfl):PS X (.For tg iter body [] pos) (c5n wi g tb):=by
 intro pins s σ H D I h
 refine wpAny_For (thn (hi pins s σ H _ I h) fun v s1 h1=>thn h1 fun itv s2 h2=>?_) hs
 obtain ⟨it,fp,tn,J,H2,e,I2,T,st2,f2,W,⟨m0,w0⟩,turn⟩:=h2
 subst e
 have stat:∀ {H':Hp},(∀ b ∈ fp,H' b=none)->∀ b ∈ fp,a3P X pins H' b:=fun hn b hb=>⟨hn b hb,(f2 b hb).2⟩
 refine codeAny_forLoop_any (fun n s'=>∃ i σ' H',Inv X pins σ' H' s'/\tn i s'.heap/\(∀ b ∈ fp,H' b=none)/\W i n σ' H') ?_ m0 ⟨0,σ,H2,I2,st2,fun b hb=>(f2 b hb).1,w0⟩
 rintro n s3 ⟨i,σ3,H3,I3,st3,fr3,w3⟩
 rcases turn i n σ3 H3 w3 with ⟨stop,qn⟩ | ⟨go,N,hN,step⟩
 . refine wpAny_passesOwn hp (thn (T.done X rfl rfl rfl hc i pins s3 σ3 H3 X.xe I3 (stat fr3) st3 stop) fun r s4 ⟨hr,I4⟩=>?_)
   subst hr
   exact wpAny_execs_nil ⟨σ3,H3,I4,qn⟩
 . refine wpAny_passesOwn hp (thn (T.item X rfl rfl rfl hc i pins s3 σ3 H3 X.xe I3 (stat fr3) st3 go) fun r s4 ⟨u,hr,h4⟩=>?_)
   subst hr
   refine wpAny_passesOwn hp (thn h4 fun _ s5 ⟨x,H5,I5,r5,y5,st5,fr5⟩=>?_)
   have I5':=I5.pinned (stat fr5) (T.obj _ _ st5)
   refine wpAny_passesOwn hp (thn (hg _ s5 σ3 H5 x u _ I5' r5 (step x H5 y5)) fun _ s6 ⟨σ6,H6,I6,q6⟩=>?_)
   refine wpAny_passesOwn hp (thn (hb _ s6 σ6 H6 _ I6 q6) fun f s7 q7=>?_)
   have again:∀ {σ7:St} {H7:Hp},Inv X (pins++a8F fp s5.heap) σ7 H7 s7->N σ7 H7->∃ m,m < n/\∃ i σ' H',Inv X pins σ' H' s7/\tn i s7.heap/\(∀ b ∈ fp,H' b=none)/\W i m σ' H':=fun {σ7 H7} I7 n7=>by
    obtain ⟨m',hm,w7⟩:=hN σ7 H7 n7
    refine ⟨m',hm,i + 1,σ7,H7,I7.b0i,T.keep _ _ _ st5 fun b hb o e=>(I7.pin (b,o) (mem_append_right _ (mem_append_right _ (a3W hb e)))).1,fun b hb=>?_,w7⟩
    obtain ⟨o,e,d⟩:=T.obj _ _ st5 b hb
    exact (I7.pin (b,o) (mem_append_right _ (mem_append_right _ (a3W hb e)))).2.1
   cases f with
   | next=>obtain ⟨σ7,H7,I7,n7⟩:=q7;exact again I7 n7
   | cont=>obtain ⟨σ7,H7,I7,n7⟩:=q7;exact again I7 n7
   | brk=>obtain ⟨σ7,H7,I7,q7⟩:=q7;exact ⟨σ7,H7,I7.b0i,q7⟩
   | ret v=>obtain ⟨x7,σ7,H7,I7,r7,q7⟩:=q7;exact ⟨x7,σ7,H7,I7.b0i,r7,q7⟩
end
noncomputable abbrev R2:=V->V->Hp->VK->Prop
noncomputable def OpR (X:Cx) (f:Value->Value->Sem Value) (r:R2):Prop :=
 ∀ (pins:List (Addr × Obj)) (s:Shared) (σ:St) (H:Hp) (x y:V) (v u:Value) (Q:VK),Inv X pins σ H s->RelV x v->RelV y u->r x y H Q ->
  wpAny (model X.prog X.w) X.A (f v u) (EP X pins σ Q) X.xe s
noncomputable def UnR (X:Cx) (f:Value->Sem Value) (r:V->Hp->VK->Prop):Prop :=
 ∀ (pins:List (Addr × Obj)) (s:Shared) (σ:St) (H:Hp) (x:V) (v:Value) (Q:VK),Inv X pins σ H s->RelV x v->r x H Q ->
  wpAny (model X.prog X.w) X.A (f v) (EP X pins σ Q) X.xe s
noncomputable def O4 (X:Cx) (f:Value) (r:List V->Hp->VK->Prop):Prop :=
 ∀ (pins:List (Addr × Obj)) (s:Shared) (σ:St) (H:Hp) (xs:List V) (us:List Value) (Q:VK),Inv X pins σ H s->Vals xs us->r xs H Q ->
  wpAny (model X.prog X.w) X.A (call f us) (EP X pins σ Q) X.xe s
noncomputable def tOp (r:R2) (ta tb:TE):TE:=fun σ H Q=>ta σ H fun x H1=>tb σ H1 fun y H2=>r x y H2 Q
noncomputable def tUn (r:V->Hp->VK->Prop) (ta:TE):TE:=fun σ H Q=>ta σ H fun x H1=>r x H1 Q
noncomputable def rI (C:Int->Int->Prop) (g:Int->Int->V):R2:=fun x y H Q=>∃ i j,x=.int i/\y=.int j/\C i j/\Q (g i j) H
noncomputable def rI0 (g:Int->Int->V):R2:=fun x y H Q=>∃ i j,x=.int i/\y=.int j/\Q (g i j) H
noncomputable def rU (g:Int->V):V->Hp->VK->Prop:=fun x H Q=>∃ i,x=.int i/\Q (g i) H
section
variable {X:Cx} {a b c:Expr} {ta tb tc:TE} {pos:Pos}
theorem c2F (ha:PE X a ta) (hb:PE X b tb) {pins:List (Addr × Obj)} {s:Shared} {σ:St} {H:Hp} {R:V->V->Hp->Prop} (I:Inv X pins σ H s)
  (h:ta σ H fun x H1=>tb σ H1 fun y H2=>R x y H2) {Q:Value->Shared->Prop} {f:Value->Value->Sem Value}
  (hf:∀ v u s2 x y H2,Inv X pins σ H2 s2->RelV x v->RelV y u->R x y H2->wpAny (model X.prog X.w) X.A (f v u) Q X.xe s2) :
  wpAny (model X.prog X.w) X.A (eval a X.env) (fun v s₁=>wpAny (model X.prog X.w) X.A (eval b X.env) (fun u s₂=>wpAny (model X.prog X.w) X.A (f v u) Q X.xe s₂) X.xe s₁) X.xe s:=by
 refine thn (ha pins s σ H _ I h) fun v s1 ⟨x,H1,I1,r1,q1⟩=>?_
 refine thn (hb pins s1 σ H1 _ I1 q1) fun u s2 ⟨y,H2,I2,r2,q2⟩=>?_
 exact hf v u s2 x y H2 I2 r1 r2 q2
theorem c7h {op:Operator} {r:R2} (ho:OpR X (binaryOp op) r) (ha:PE X a ta) (hb:PE X b tb):PE X (.BinOp a op b pos) (tOp r ta tb):=by
 intro pins s σ H Q I h
 exact wpAny_BinOp (c2F ha hb I h fun v u s2 x y H2 I2 rx ry q=>ho pins s2 σ H2 x y v u Q I2 rx ry q)
theorem c7g {op:UnaryOp} {r:V->Hp->VK->Prop} (ho:UnR X (unaryOp op) r) (ha:PE X a ta):PE X (.UnaryOp op a pos) (tUn r ta):=by
 intro pins s σ H Q I h
 exact UnaryOp_ (thn (ha pins s σ H _ I h) fun v s1 ⟨x,H1,I1,r1,q1⟩=>ho pins s1 σ H1 x v Q I1 r1 q1)
theorem opI {f:Value->Value->Sem Value} {C:Int->Int->Prop} {g:Int->Int->Int}
  (rule:∀ (i j:Int) (t u:Tok) (s:Shared) (Q:Value->Shared->Prop) (E:Value->Shared->Prop),C i j->Q (.int (g i j) s.toks) { s with toks:=s.toks + 1 }->wpAny (model X.prog X.w) X.A (f (.int i t) (.int j u)) Q E s) :
  OpR X f (rI C fun i j=>.int (g i j)):=by
 intro pins s σ H x y v u Q I rx ry h
 obtain ⟨i,j,rfl,rfl,hc,q⟩:=h
 obtain ⟨t,rfl⟩:=rx
 obtain ⟨t',rfl⟩:=ry
 exact rule i j t t' s _ _ hc ⟨.int (g i j),H,I.tok _,⟨_,rfl⟩,q⟩
theorem c6b {f:Value->Value->Sem Value} {g:Int->Int->Int}
  (rule:∀ (i j:Int) (t u:Tok) (s:Shared) (Q:Value->Shared->Prop) (E:Value->Shared->Prop),Q (.int (g i j) s.toks) { s with toks:=s.toks + 1 }->wpAny (model X.prog X.w) X.A (f (.int i t) (.int j u)) Q E s) :
  OpR X f (rI0 fun i j=>.int (g i j)):=by
 intro pins s σ H x y v u Q I rx ry h
 obtain ⟨i,j,rfl,rfl,q⟩:=h
 obtain ⟨t,rfl⟩:=rx
 obtain ⟨t',rfl⟩:=ry
 exact rule i j t t' s _ _ ⟨.int (g i j),H,I.tok _,⟨_,rfl⟩,q⟩
theorem b7B {f:Value->Value->Sem Value} {g:Int->Int->Bool}
  (rule:∀ (i j:Int) (t u:Tok) (s:Shared) (Q:Value->Shared->Prop) (E:Value->Shared->Prop),Q (.bool (g i j)) s->wpAny (model X.prog X.w) X.A (f (.int i t) (.int j u)) Q E s) :
  OpR X f (rI0 fun i j=>.bl (g i j)):=by
 intro pins s σ H x y v u Q I rx ry h
 obtain ⟨i,j,rfl,rfl,q⟩:=h
 obtain ⟨t,rfl⟩:=rx
 obtain ⟨t',rfl⟩:=ry
 exact rule i j t t' s _ _ ⟨.bl (g i j),H,I,rfl,q⟩
noncomputable def c7W (i j:Int):Prop:=0 < j/\j < 1073741824
noncomputable def a9v (i j:Int):Prop:=0<=j/\j<=1000000/\i.natAbs < 2 ^ 64
noncomputable def c7V (i j:Int):Prop:=(-(2 ^ 64) < i/\i < 2 ^ 64)\/(-(2 ^ 64) < j/\j < 2 ^ 64)
theorem b6W (k:Nat):(0:Int)<=2 ^ k:=by
 rw [two_pow_cast]
 exact Int.natCast_nonneg _
theorem c6a:OpR X (binaryOp .Add) (rI0 fun i j=>.int (i + j)):=c6b fun _ _ _ _ _ _ _ q=>add_int q
theorem c5U:OpR X (binaryOp .Sub) (rI0 fun i j=>.int (i - j)):=c6b fun _ _ _ _ _ _ _ q=>sub_int q
theorem V0:OpR X (binaryOp .Mod) (rI (fun _ j=>j ≠ 0) fun i j=>.int (i.fmod j)):=opI fun _ _ _ _ _ _ _ hc q=>mod_int' hc q
theorem c5W:OpR X (binaryOp .Pow) (rI a9v fun i j=>.int (i ^ j.toNat)):=opI fun _ _ _ _ _ _ _ hc q=>pow_int_small hc.1 hc.2.1 hc.2.2 q
theorem c5V:OpR X (binaryOp .RShift) (rI (fun _ j=>0<=j) fun i j=>.int (i / 2 ^ j.toNat)):=opI fun i j _ _ _ _ _ hc q =>
 rshift_int hc (by rw [Int.fdiv_eq_ediv_of_nonneg i (b6W _)];exact q)
theorem unI {f:Value->Sem Value} {g:Int->Int}
  (rule:∀ (i:Int) (t:Tok) (s:Shared) (Q:Value->Shared->Prop) (E:Value->Shared->Prop),Q (.int (g i) s.toks) { s with toks:=s.toks + 1 }->wpAny (model X.prog X.w) X.A (f (.int i t)) Q E s) :
  UnR X f (rU fun i=>.int (g i)):=by
 intro pins s σ H x v Q I rx h
 obtain ⟨i,rfl,q⟩:=h
 obtain ⟨t,rfl⟩:=rx
 exact rule i t s _ _ ⟨.int (g i),H,I.tok _,⟨_,rfl⟩,q⟩
theorem a4h:UnR X (unaryOp .USub) (rU fun i=>.int (-i)):=unI fun _ _ _ _ _ q=>neg_int q
end
noncomputable def b4s:V->V->Bool
 | .non,.non=>true | .non,.int _=>true | .int _,.non=>true | .non,.bl _=>true | .bl _,.non=>true | .non,.str _=>true | .str _,.non=>true
 | .int _,.int _=>true | .bl _,.bl _=>true | .str _,.str _=>true | .byt _,.byt _=>true
 | .int _,.str _=>true | .str _,.int _=>true | .bl _,.str _=>true | .str _,.bl _=>true
 | _,_=>false
noncomputable def rEq:R2:=fun x y H Q=>b4s x y=true/\Q (.bl (decide (x=y))) H
noncomputable def rNe:R2:=fun x y H Q=>b4s x y=true/\Q (.bl (!decide (x=y))) H
theorem b6N {i j:Int}:decide (V.int i=V.int j)=(i==j):=by
 rw [Bool.eq_iff_iff]
 simp
theorem c0z {i j:Bool}:decide (V.bl i=V.bl j)=(i==j):=by
 rw [Bool.eq_iff_iff]
 simp
theorem b6M {i j:Str}:decide (V.str i=V.str j)=(i==j):=by
 rw [Bool.eq_iff_iff]
 simp
theorem b6O {i j:Array UInt8}:decide (V.byt i=V.byt j)=(i.toList==j.toList):=by
 rw [Bool.eq_iff_iff]
 cases i
 cases j
 simp
section
variable {X:Cx} {a b c:Expr} {ta tb tc:TE} {pos:Pos}
theorem B4 {pins:List (Addr × Obj)} {σ:St} {H:Hp} {s:Shared} {Q:VK} {k k':Bool} (I:Inv X pins σ H s) (q:Q (.bl k) H) (e:k=k'):EP X pins σ Q (.bool k') s:=by
 subst e
 exact ⟨.bl k,H,I,rfl,q⟩
theorem c7l:OpR X (compareOp .Eq) rEq:=by
 intro pins s σ H x y v u Q I rx ry h
 obtain ⟨hs,q⟩:=h
 cases x with
 | non =>
  cases rx
  cases y with
  | non=>cases ry;exact PySem.EqNone.eq_none_none (B4 I q (by simp))
  | bl j=>cases ry;exact PySem.EqNone.eq_none_bool (B4 I q (by simp))
  | int j=>obtain ⟨t',rfl⟩:=ry;exact PySem.EqNone.eq_none_int (B4 I q (by simp))
  | str j=>obtain ⟨t',rfl⟩:=ry;exact PySem.EqNone.eq_none_str (B4 I q (by simp))
  | _=>exact absurd (show false=true from hs) Bool.false_ne_true
 | bl i =>
  cases rx
  cases y with
  | non=>cases ry;exact PySem.EqNone.eq_bool_none (B4 I q (by simp))
  | bl j=>cases ry;exact eq_bool (B4 I q c0z)
  | str j=>obtain ⟨t',rfl⟩:=ry;exact PySem.EqMixed.eq_bool_str (B4 I q (by simp))
  | _=>exact absurd (show false=true from hs) Bool.false_ne_true
 | int i =>
  obtain ⟨t,rfl⟩:=rx
  cases y with
  | non=>cases ry;exact PySem.EqNone.eq_int_none (B4 I q (by simp))
  | int j=>obtain ⟨t',rfl⟩:=ry;exact eq_int (B4 I q b6N)
  | str j=>obtain ⟨t',rfl⟩:=ry;exact PySem.EqMixed.eq_int_str (B4 I q (by simp))
  | _=>exact absurd (show false=true from hs) Bool.false_ne_true
 | str i =>
  obtain ⟨t,rfl⟩:=rx
  cases y with
  | non=>cases ry;exact PySem.EqNone.eq_str_none (B4 I q (by simp))
  | bl j=>cases ry;exact PySem.EqMixed.eq_str_bool (B4 I q (by simp))
  | int j=>obtain ⟨t',rfl⟩:=ry;exact PySem.EqMixed.eq_str_int (B4 I q (by simp))
  | str j=>obtain ⟨t',rfl⟩:=ry;exact eq_str (B4 I q b6M)
  | _=>exact absurd (show false=true from hs) Bool.false_ne_true
 | byt i =>
  obtain ⟨t,rfl⟩:=rx
  cases y with
  | byt j=>obtain ⟨t',rfl⟩:=ry;exact PySem.W.eq_bytes (B4 I q b6O)
  | _=>exact absurd (show false=true from hs) Bool.false_ne_true
 | _=>cases y <;> exact absurd (show false=true from hs) Bool.false_ne_true
theorem c7j:OpR X (compareOp .NotEq) rNe:=by
 intro pins s σ H x y v u Q I rx ry h
 obtain ⟨hs,q⟩:=h
 cases x with
 | non =>
  cases rx
  cases y with
  | non=>cases ry;exact PySem.EqNone.ne_none_none (B4 I q (by simp))
  | bl j=>cases ry;exact PySem.EqNone.ne_none_bool (B4 I q (by simp))
  | int j=>obtain ⟨t',rfl⟩:=ry;exact PySem.EqNone.ne_none_int (B4 I q (by simp))
  | str j=>obtain ⟨t',rfl⟩:=ry;exact PySem.EqNone.ne_none_str (B4 I q (by simp))
  | _=>exact absurd (show false=true from hs) Bool.false_ne_true
 | bl i =>
  cases rx
  cases y with
  | non=>cases ry;exact PySem.EqNone.ne_bool_none (B4 I q (by simp))
  | bl j=>cases ry;exact ne_bool (B4 I q (congrArg not c0z))
  | str j=>obtain ⟨t',rfl⟩:=ry;exact PySem.EqMixed.ne_bool_str (B4 I q (by simp))
  | _=>exact absurd (show false=true from hs) Bool.false_ne_true
 | int i =>
  obtain ⟨t,rfl⟩:=rx
  cases y with
  | non=>cases ry;exact PySem.EqNone.ne_int_none (B4 I q (by simp))
  | int j=>obtain ⟨t',rfl⟩:=ry;exact ne_int (B4 I q (congrArg not b6N))
  | str j=>obtain ⟨t',rfl⟩:=ry;exact PySem.EqMixed.ne_int_str (B4 I q (by simp))
  | _=>exact absurd (show false=true from hs) Bool.false_ne_true
 | str i =>
  obtain ⟨t,rfl⟩:=rx
  cases y with
  | non=>cases ry;exact PySem.EqNone.ne_str_none (B4 I q (by simp))
  | bl j=>cases ry;exact PySem.EqMixed.ne_str_bool (B4 I q (by simp))
  | int j=>obtain ⟨t',rfl⟩:=ry;exact PySem.EqMixed.ne_str_int (B4 I q (by simp))
  | str j=>obtain ⟨t',rfl⟩:=ry;exact ne_str (B4 I q (congrArg not b6M))
  | _=>exact absurd (show false=true from hs) Bool.false_ne_true
 | byt i =>
  obtain ⟨t,rfl⟩:=rx
  cases y with
  | byt j=>obtain ⟨t',rfl⟩:=ry;exact PySem.W.ne_bytes (B4 I q (congrArg not b6O))
  | _=>exact absurd (show false=true from hs) Bool.false_ne_true
 | _=>cases y <;> exact absurd (show false=true from hs) Bool.false_ne_true
theorem a6H:OpR X (compareOp .Lt) (rI0 fun i j=>.bl (decide (i < j))):=b7B fun _ _ _ _ _ _ _ q=>lt_int q
theorem c7k:OpR X (compareOp .LtE) (rI0 fun i j=>.bl (decide (i<=j))):=b7B fun _ _ _ _ _ _ _ q=>le_int q
theorem a5e:OpR X (compareOp .Gt) (rI0 fun i j=>.bl (decide (j < i))):=b7B fun _ _ _ _ _ _ _ q=>gt_int q
theorem c3c:OpR X (compareOp .GtE) (rI0 fun i j=>.bl (decide (j<=i))):=b7B fun _ _ _ _ _ _ _ q=>ge_int q
theorem b9y:OpR X (compareOp .In) (fun x y H Q=>∃ i j,x=.str i/\y=.str j/\Q (.bl (!(Builtin.Str.occurrences j i 0 j.length 1).isEmpty)) H):=by
 intro pins s σ H x y v u Q I rx ry h
 obtain ⟨i,j,rfl,rfl,q⟩:=h
 obtain ⟨t,rfl⟩:=rx
 obtain ⟨t',rfl⟩:=ry
 exact in_str (B4 I q rfl)
theorem R5:OpR X (compareOp .Is) (fun x y H Q=>y=.non/\Q (.bl (decide (x=.non))) H):=by
 intro pins s σ H x y v u Q I rx ry h
 obtain ⟨rfl,q⟩:=h
 cases ry
 refine is_none_gen (B4 I q ?_)
 cases x <;> first
  | (cases rx;rfl)
  | (obtain ⟨t,rfl⟩:=rx;rfl)
theorem OpR.or {f:Value->Value->Sem Value} {r r':R2} (h:OpR X f r) (h':OpR X f r'):OpR X f (fun x y H Q=>r x y H Q\/r' x y H Q):=by
 intro pins s σ H x y v u Q I rx ry q
 rcases q with q | q
 . exact h pins s σ H x y v u Q I rx ry q
 . exact h' pins s σ H x y v u Q I rx ry q
theorem m8 (b:Expr) {op:CmpOp} (h:op ≠ .In:=by decide) (h2:op ≠ .NotIn:=by decide):behindInMarks op b=false:=by
 have e1:(op==CmpOp.In)=false:=by cases op <;> first | rfl | exact absurd rfl h
 have e2:(op==CmpOp.NotIn)=false:=by cases op <;> first | rfl | exact absurd rfl h2
 cases b <;> simp [behindInMarks,e1,e2]
theorem c4d {op:CmpOp} {r:R2} (ho:OpR X (compareOp op) r) (ha:PE X a ta) (hb:PE X b tb) (hm:behindInMarks op b=false):PE X (.Compare a [op] [b] pos) (tOp r ta tb):=by
 intro pins s σ H Q I h
 exact wpAny_Compare1 (c2F ha hb I h fun v u s2 x y H2 I2 rx ry q=>ho pins s2 σ H2 x y v u Q I2 rx ry q) hm
noncomputable def b7b (t:TE):TT:=fun σ H Q=>t σ H fun x H'=>∃ k,x=.bl k/\Q k H'
theorem c3Q {op:CmpOp} {r:R2} (ho:OpR X (compareOp op) r) (ha:PE X a ta) (hb:PE X b tb) (hm:behindInMarks op b=false):PT X (.Compare a [op] [b] pos) (b7b (tOp r ta tb)):=by
 intro pins s σ H Q I h
 refine wpAny_isTrue_Compare1 (thn (ha pins s σ H _ I h) fun v s1 ⟨x,H1,I1,r1,q1⟩=>thn (hb pins s1 σ H1 _ I1 q1) fun u s2 ⟨y,H2,I2,r2,q2⟩ =>
  thn (ho pins s2 σ H2 x y v u _ I2 r1 r2 q2) fun c s3 ⟨z,H3,I3,r3,k,e,q3⟩=>?_) hm
 subst e
 cases r3
 exact wpAny_truthy_bool ⟨H3,I3,q3⟩
theorem a4u:(sizeLine:Nat) < 2 ^ 63:=by rw [sizeLine_eq];decide
theorem b7A:OpR X (binaryOp .Add) (fun x y H Q=>∃ i j,x=.str i/\y=.str j/\i.length + j.length<=sizeLine/\Q (.str (i++j)) H):=by
 intro pins s σ H x y v u Q I rx ry h
 obtain ⟨i,j,rfl,rfl,hz,q⟩:=h
 obtain ⟨t,rfl⟩:=rx
 obtain ⟨t',rfl⟩:=ry
 exact add_str (fun t' tk=>⟨.str (i++j),H,I.tok _,⟨_,rfl⟩,q⟩) hz
theorem vals1 {x:V} {us:List Value} (r:Vals [x] us):∃ u,us=[u]/\RelV x u:=by
 cases r with
 | cons r1 r2=>cases r2;exact ⟨_,rfl,r1⟩
theorem vals2 {x y:V} {us:List Value} (r:Vals [x,y] us):∃ u w',us=[u,w']/\RelV x u/\RelV y w':=by
 cases r with
 | cons r1 r2 =>
  cases r2 with
  | cons r3 r4=>cases r4;exact ⟨_,_,rfl,r1,r3⟩
theorem a7r:O4 X (.builtin "abs") (fun xs H Q=>∃ i,xs=[.int i]/\Q (.int (if i < 0 then -i else i)) H):=by
 intro pins s σ H xs us Q I r h
 obtain ⟨i,rfl,q⟩:=h
 obtain ⟨u,rfl,t,rfl⟩:=vals1 r
 exact call_abs_int fun u tk=>⟨.int (if i < 0 then -i else i),H,I.tok _,⟨_,rfl⟩,q⟩
theorem c0D (hc:X.calm=true):O4 X (.builtin "min") (fun xs H Q=>∃ i j,xs=[.int i,.int j]/\Q (.int (if j < i then j else i)) H):=by
 intro pins s σ H xs us Q I r h
 obtain ⟨i,j,rfl,q⟩:=h
 obtain ⟨u,w',rfl,⟨t,rfl⟩,⟨t',rfl⟩⟩:=vals2 r
 refine min_two_ints (I.ok.hd hc) fun h' tk k=>⟨_,H,I.kept k,?_,q⟩
 by_cases hj:j < i
 . rw [if_pos hj,if_pos hj];exact ⟨_,rfl⟩
 . rw [if_neg hj,if_neg hj];exact ⟨_,rfl⟩
theorem c0F:O4 X (.type "int") (fun xs H Q=>(∃ i,xs=[.int i]/\Q (.int i) H)\/∃ k,xs=[.bl k]/\Q (.int (if k then 1 else 0)) H):=by
 intro pins s σ H xs us Q I r h
 rcases h with ⟨i,rfl,q⟩ | ⟨k,rfl,q⟩
 . obtain ⟨u,rfl,t,rfl⟩:=vals1 r
   exact call_int_int ⟨.int i,H,I,⟨_,rfl⟩,q⟩
 . obtain ⟨u,rfl,r1⟩:=vals1 r
   cases r1
   exact call_int_bool ⟨.int (if k then 1 else 0),H,I.tok _,⟨_,rfl⟩,q⟩
theorem a0e:O4 X (.type "str") (fun xs H Q=>∃ i,xs=[.int i]/\i.natAbs.log2 < 1920/\Q (.str (toString i)) H):=by
 intro pins s σ H xs us Q I r h
 obtain ⟨i,rfl,hz,q⟩:=h
 obtain ⟨u,rfl,t,rfl⟩:=vals1 r
 exact PySem.P.str_of_int hz ⟨.str _,H,I.tok _,⟨_,rfl⟩,q⟩
end
structure c8a (h:Heap) (x dx C:Addr) (mA:Str->Option Value):Prop where
 obj:h.get? x=some (PySem.W.instObj C dx)
 ns:h.Ns1 dx mA
 ne:dx ≠ x
section
variable {prog:Program} {w:World} {A:Around} {E:Value->Shared->Prop} {s:Shared} {K:PySem.W.Frag} {x dx C f:Addr} {mA:Str->Option Value} {name:Str} {v:Value}
end
theorem b2G.some_of {v:V} {o:Option Value} (r:b2G (some v) o):∃ u,o=some u/\RelV v u:=by
 cases o with
 | none=>exact (show False from r).elim
 | some u=>exact ⟨u,rfl,r⟩
theorem c0t {v:V} {u:Value} (r:RelV v u):PySem.W.handedIn u=true:=by
 cases v with
 | non=>cases (show u=Value.none from r);rfl
 | bl b=>cases (show u=Value.bool b from r);rfl
 | int i=>obtain ⟨t,e⟩:=(show ∃ t,u=Value.int i t from r);cases e;rfl
 | str x=>obtain ⟨t,e⟩:=(show ∃ t,u=Value.str x t from r);cases e;rfl
 | byt b=>obtain ⟨t,e⟩:=(show ∃ t,u=Value.bytes b t from r);cases e;rfl
 | flt b=>obtain ⟨t,e⟩:=(show ∃ t,u=Value.float b t from r);cases e;rfl
 | ref a=>cases (show u=Value.ref a from r);rfl
 | ty n=>cases (show u=Value.type n from r);rfl
section
variable {P:Program} {w:World} {H H':Hp} {h h':Heap} {a C dx:Addr} {fs fs':List (Str × V)}
end
structure Cls (K:PySem.W.Frag) (C:Addr):Prop where
 pg:PySem.W.plainGet K C Str.empty=true
 hd:PySem.W.hasDictIn K C=true
 po:PySem.W.plainOver K C=true
 sa:PySem.W.findIn K (.ref C) "__setattr__" = some (some (.builtin "object.__setattr__"))
structure Con (K:PySem.W.Frag) (C:Addr) (f:Str) (v:V) (u:Value):Prop where
 at_:PySem.W.findIn K (.ref C) f=some (some u)
 rel:RelV v u
 get:PySem.W.specialIn K u "__get__" = some none
 cp:PySem.W.copiedNames.contains f=false
structure Meth (K:PySem.W.Frag) (C:Addr) (m:Str) (f:Addr):Prop where
 at_:PySem.W.findIn K (.ref C) m=some (some (.ref f))
 fn:PySem.W.isFn K (.ref f)=true
 kp:PySem.W.keepIn K (.ref f)=true
section
variable {X:Cx} {pins:List (Addr × Obj)} {σ:St} {H:Hp} {s:Shared} {a C dx:Addr} {fs:List (Str × V)} {f:Str} {v:V} {A:Around} {E:Value->Shared->Prop}
theorem c4Y {prog:Program} {w:World} {env:Env} {e:Expr} {f:Str} {pos:Pos} {s:Shared} {Q:Value->Shared->Prop} (hb:attributeBase e f env (eval e env)=eval e env)
  (h:wpAny (model prog w) A (eval e env) (fun o s₁=>wpAny (model prog w) A (getAttr o f true) Q E s₁) E s):wpAny (model prog w) A (eval (.Attribute e f pos) env) Q E s :=
 Attribute_any_ h (by rw [arm_eval_Attribute,hb])
end
section
variable {X:Cx} {o e value:Expr} {f:Str} {pos pos' tpos:Pos} {ta tv:TE}
end
section
variable {X:Cx} {pins:List (Addr × Obj)} {σ:St} {H:Hp} {s:Shared} {A:Around} {E:Value->Shared->Prop} {Q:Value->Shared->Prop} {c:Value} {b:Bool}
inductive a4M (K:PySem.W.Frag) (H:Hp):V->Value->Prop where
 | non:a4M K H .non (.type "NoneType")
 | bl (x:Bool):a4M K H (.bl x) (.type "bool")
 | int (i:Int):a4M K H (.int i) (.type "int")
 | str (x:Str):a4M K H (.str x) (.type "str")
 | flt (x:UInt64):a4M K H (.flt x) (.type "float")
 | lst {a:Addr} {xs:List V} (e:H a=some (.lst xs)):a4M K H (.ref a) (.type "list")
 | frz {a:Addr} {o:Obj} {xs:List V} (e:H a=some (.frz o (.lst xs))):a4M K H (.ref a) (.type "list")
 | tup {a:Addr} {xs:List V} (e:H a=some (.tup xs)):a4M K H (.ref a) (.type "tuple")
 | dK {a:Addr} {kvs:List (Key × V)} (e:H a=some (.dK kvs)):a4M K H (.ref a) (.type "dict")
 | dT {a:Addr} {kvs:List (List Key × V)} (e:H a=some (.dT kvs)):a4M K H (.ref a) (.type "dict")
 | ins {a C dx:Addr} {fs:List (Str × V)} (e:H a=some (.ins C dx fs)) (cl:Cls K C) (ha:PySem.W.findIn K (.ref C) "__class__" = some (some (.builtin "object.__class__")))
   (hn:PySem.W.specialIn K (.builtin "object.__class__") "__get__" = some (some (.builtin "getset_descriptor.__get__"))) (htk:PySem.W.takesIn K (.builtin "object.__class__")=some true)
   (hm:PySem.W.mroIn K C (.type "object")=some true):a4M K H (.ref a) (.ref C)
end
structure M7 (k:Nat) (A:Around):Prop where
 hd:A.handled=none
 dp:A.depth + 3 * k + 5 < recursionLimit
 un:A.units + 16 * k + 200 < cLine
theorem M7.mono {j k:Nat} {A:Around} (r:M7 k A) (h:j<=k):M7 j A:=⟨r.hd,by have:=r.dp;omega,by have:=r.un;omega⟩
theorem M7.deeper {k:Nat} {A:Around} (r:M7 (k + 1) A) (env:Env):M7 k (A.deeper env) :=
 ⟨r.hd,by have:=r.dp;show A.depth + 1 + 3 * k + 5 < _;omega,by have:=r.un;show A.units + 3 + 16 * k + 200 < _;omega⟩
theorem b7W {A:Around} {C:Addr} {us:List Value} {kw:List (Str × Value)}:(A.under (.builtin "type.__call__" ⟨.ref C::us,kw⟩)).depth=A.depth + 1:=by
 first | rfl | simp [Around.under,Code.weight,Code.isCreation,Code.isGuard,Code.isCaller,Code.frames,Code.isFrame,guardIds]
theorem b7V {A:Around} {C:Addr} {us:List Value} {kw:List (Str × Value)}:(A.under (.builtin "type.__call__" ⟨.ref C::us,kw⟩)).units=A.units + 1:=by
 first | rfl | simp [Around.under,Code.cUnits,Code.frames,Code.isFrame]
theorem M7.make {k:Nat} {A:Around} (r:M7 (k + 1) A) (C:Addr) (us:List Value) (kw:List (Str × Value)):M7 k (A.under (.builtin "type.__call__" ⟨.ref C::us,kw⟩)) :=
 ⟨r.hd,by have:=r.dp;rw [b7W];omega,by have:=r.un;rw [b7V];omega⟩
theorem M7.depth {k:Nat} {A:Around} (r:M7 k A):A.depth < recursionLimit:=by have:=r.dp;omega
theorem M7.units {k:Nat} {A:Around} (r:M7 k A):A.units + 64 < cLine:=by have:=r.un;omega
noncomputable def a8j:TA:=fun _ H Q=>Q [] H
noncomputable def a1w (ta:TE) (tr:TA):TA:=fun σ H Q=>ta σ H fun x H1=>tr σ H1 fun xs H2=>Q (x::xs) H2
section
variable {X:Cx} {e:Expr} {es:List Expr} {te:TE} {t:TA} {pos:Pos}
theorem a6b:PA X [] a8j:=fun _ _ _ _ H Q I h=>Calls.spliced_nil ⟨[],H,I,.nil,h⟩
theorem a0I (ha:PE X e te) (hr:PA X es t) (hs:starEach (e::es) X.env=(false,eval e X.env)::starEach es X.env:=by rfl):PA X (e::es) (a1w te t):=by
 intro pos pins s σ H Q I h
 rw [hs]
 show wpAny _ _ (spliced ((false,eval e X.env)::backTo pos (starEach es X.env))) _ _ s
 refine Calls.spliced_cons (thn (ha pins s σ H _ I h) fun u s1 ⟨x,H1,I1,r1,q1⟩=>?_)
 exact thn (hr pos pins s1 σ H1 _ I1 q1) fun us s2 ⟨xs,H2,I2,r2,q2⟩=>⟨x::xs,H2,I2,.cons r1 r2,q2⟩
noncomputable def c1i (t:TA):TE:=fun σ H Q=>t σ H fun xs H1=>xs.length<=sizeLine/\∀ p,H1 p=none->Q (.ref p) (upd H1 p (.tup xs))
noncomputable def c1l (t:TA):TE:=fun σ H Q=>t σ H fun xs H1=>xs.length<=sizeLine/\∀ p,H1 p=none->Q (.ref p) (upd H1 p (.lst xs))
theorem c5L {x1} (h:PA X es t):PE X (.Tuple es x1 pos) (c1i t):=by
 intro pins s σ H Q I hq
 refine wpAny_Tuple_spliced (thn (h pos pins s σ H _ I hq) fun us s1 ⟨xs,H1,I1,r,z,q⟩=>⟨by rw [<-r.length];exact z,?_⟩)
 have hf:H1 s1.heap.objs.size=none:=I1.hok.fresh (Nat.le_refl _)
 refine ⟨.ref s1.heap.objs.size,upd H1 s1.heap.objs.size (.tup xs),I1.laid (t':=s1.toks) (fun b u e=>Heap.get?_push_of_some _ e) (Nat.le_refl _) ?_,rfl,q _ hf⟩
 exact ⟨z,us,r,⟨_,Heap.get?_push_size _ rfl,rfl,_,rfl⟩⟩
theorem c5P (h:PA X es t):PE X (.List es pos) (c1l t):=by
 intro pins s σ H Q I hq
 refine wpAny_List_spliced (thn (h pos pins s σ H _ I hq) fun us s1 ⟨xs,H1,I1,r,z,q⟩=>⟨by rw [<-r.length];exact z,?_⟩)
 have hf:H1 s1.heap.objs.size=none:=I1.hok.fresh (Nat.le_refl _)
 refine ⟨.ref s1.heap.objs.size,upd H1 s1.heap.objs.size (.lst xs),I1.laid (t':=s1.toks) (fun b u e=>Heap.get?_push_of_some _ e) (Nat.le_refl _) ?_,rfl,q _ hf⟩
 exact ⟨z,us,0,r,Heap.get?_push_size _ rfl⟩
end
noncomputable abbrev Sp:=List V->Hp->VK->XK->Prop
noncomputable abbrev CXT:=List Env->Hp->Shared->XK->Value->Shared->Prop
structure b1f (P:Program) (w:World) (K:PySem.W.Frag) (mg:Str->Option Value) (base:Heap) (A:Around) (outer:List Env) (s:Shared) (H:Hp):Prop where
 frames:A.frames=some outer
 mod:Mod K mg base
 bs:∀ b o,base.get? b=some o->s.heap.get? b=some o/\H b=none
 bsz:base.objs.size<=s.heap.objs.size
 a2k:s.heap.FunFrames base outer
 frf:∀ b ∈ frs outer,H b=none
 hok:HOk P w H s.heap
 bare:AllBare s.gens
noncomputable def CE (outer:List Env) (P:Program) (w:World) (H:Hp) (s:Shared) (Q:VK) (u:Value) (s':Shared):Prop :=
 ∃ v H',s'.os=s.os/\AllBare s'.gens/\Un (frs outer) [] H H' s.heap s'.heap/\HOk P w H' s'.heap/\RelV v u/\Q v H'
noncomputable def CR (CX:CXT) (outer:List Env) (P:Program) (w:World) (H:Hp) (s:Shared) (Q:VK) (E:XK) (r:Result) (s':Shared):Prop :=
 match r with
 | .ok (.ret u)=>CE outer P w H s Q u s'
 | .ok _=>False
 | .error e=>CX outer H s E e s'
structure m6 (P:Program) (w:World) (K:PySem.W.Frag) (mg:Str->Option Value) (base:Heap) (CX:CXT) (k:Nat) (f:Addr) (fd:FuncData) (ps:List Str) (sp:Sp):Prop where
 len:∀ vs H Q E,sp vs H Q E->vs.length=ps.length
 run:∀ (A:Around) (outer:List Env) (s:Shared) (H:Hp) (args:Args) (us:List Value) (vs:List V) (Q:VK) (E:XK),M7 k A->b1f P w K mg base A outer s H->BindsTo s fd args (ps.zip us)->Vals vs us->sp vs H Q E ->
  codeAny (model P w) A (.call (.ref f) args) (CR CX outer P w H s Q E) s
theorem m6.imp {P:Program} {w:World} {K:PySem.W.Frag} {mg:Str->Option Value} {base:Heap} {CX:CXT} {k:Nat} {f:Addr} {fd:FuncData} {ps:List Str} {sp sp':Sp} (F:m6 P w K mg base CX k f fd ps sp)
  (h:∀ vs H Q E,sp' vs H Q E->sp vs H Q E):m6 P w K mg base CX k f fd ps sp' :=
 ⟨fun vs H Q E q=>F.len vs H Q E (h _ _ _ _ q),fun A outer s H args us vs Q E hr he hb hv hs=>F.run A outer s H args us vs Q E hr he hb hv (h _ _ _ _ hs)⟩
theorem b1f.make {P:Program} {w:World} {K:PySem.W.Frag} {mg:Str->Option Value} {base:Heap} {A:Around} {outer:List Env} {s:Shared} {H:Hp} (e:b1f P w K mg base A outer s H) (C:Addr) (us:List Value) (kw:List (Str × Value)) :
  b1f P w K mg base (A.under (.builtin "type.__call__" ⟨.ref C::us,kw⟩)) outer s H:=⟨by first | exact e.frames | (simpa [Around.under,Code.envs,Code.isFrame,pushEnvs] using e.frames),e.mod,e.bs,e.bsz,e.a2k,e.frf,e.hok,e.bare⟩
section
variable {X:Cx} {pins:List (Addr × Obj)} {σ:St} {H:Hp} {s s':Shared}
theorem Inv.c2x (I:Inv X pins σ H s):b1f X.prog X.w X.K X.mg X.base X.A X.stack s H :=
 ⟨I.ok.frames,I.ok.mod,I.bs,Nat.le_trans I.ok.bsz I.sz,I.stack,I.b2c,I.hok,I.bare⟩
theorem Inv.after {Q:VK} {u:Value} (I:Inv X pins σ H s) (h:CE X.stack X.prog X.w H s Q u s'):EP X pins σ Q u s':=by
 obtain ⟨v,H',os,bare,un,hok,r,q⟩:=h
 obtain ⟨hh,g,d,t,os'⟩:=s'
 obtain rfl:os'=s.os:=os
 exact ⟨v,H',I.call (h':=hh) (g':=g) (d':=d) (t':=t) (ch:=[]) un hok bare (fun b z=>absurd z (by simp)),r,q⟩
end
noncomputable def a4W (sp:Sp) (dvs:List V) (E:XK) (t:TA):TE:=fun σ H Q=>t σ H fun vs H1=>sp (vs++dvs) H1 Q E
noncomputable def Binds (K:PySem.W.Frag) (fd:FuncData) (ps:List Str) (ds:List Value):Prop :=
 ∀ (s:Shared) (us:List Value),K.In s.heap->(us++ds).length=ps.length->BindsTo s fd ⟨us,[]⟩ (ps.zip (us++ds))
theorem Binds.all {K:PySem.W.Frag} {fd:FuncData} {ps:List Str} (h:∀ us:List Value,us.length=ps.length->bindArgs fd ⟨us,[]⟩=pure (ps.zip us)):Binds K fd ps []:=fun s us _ hl=>by
 rw [append_nil] at hl ⊢
 exact .of_eq (h us hl)
noncomputable def Passes (CX:CXT) (X:Cx) (E:XK):Prop:=∀ (pins:List (Addr × Obj)) (σ:St) (H:Hp) (s:Shared) (e:Value) (s':Shared),Inv X pins σ H s->CX X.stack H s E e s'->X.xe e s'
section
variable {X:Cx} {CX:CXT} {k:Nat} {f C:Addr} {fd:FuncData} {ps:List Str} {sp:Sp} {dvs:List V} {ds:List Value} {E:XK} {x m:Str} {p pos apos:Pos} {e o:Expr} {es:List Expr} {ta:TE} {t:TA}
theorem b9c {pins:List (Addr × Obj)} {σ:St} {H:Hp} {s:Shared} {Q:VK} {us:List Value} {vs:List V} (F:m6 X.prog X.w X.K X.mg X.base CX k f fd ps sp) (hr:M7 k X.A) (hb:Binds X.K fd ps ds) (hd:Vals dvs ds) (hx:Passes CX X E)
  (I:Inv X pins σ H s) (r:Vals vs us) (h:sp (vs++dvs) H Q E):wpAny (model X.prog X.w) X.A (call (.ref f) us) (EP X pins σ Q) X.xe s:=by
 have r2:Vals (vs++dvs) (us++ds):=r.append hd
 have hl:(us++ds).length=ps.length:=by rw [<-r2.length];exact F.len _ _ _ _ h
 refine wpAny_call (codeAny_mono (F.run X.A X.stack s H ⟨us,[]⟩ (us++ds) (vs++dvs) Q E hr I.c2x (hb s us I.kIn hl) r2 h) fun r s' hq=>?_)
 cases r with
 | error e=>exact hx pins σ H s e s' I hq
 | ok fl =>
  cases fl with
  | ret u=>exact I.after hq
  | next=>exact False.elim hq
  | brk=>exact False.elim hq
  | cont=>exact False.elim hq
theorem c4e (F:m6 X.prog X.w X.K X.mg X.base CX k f fd ps sp) (hr:M7 k X.A) (hg:Gl X x) (hm:X.mg x=some (.ref f)) (hk:PySem.W.keepIn X.K (.ref f)=true) (hb:Binds X.K fd ps ds) (hd:Vals dvs ds) (hx:Passes CX X E)
  (ha:PA X (e::es) t) (hdb:(x==("__debug__" : Str))=false:=by decide) (he:starEach (e::es) X.env=(false,eval e X.env)::starEach es X.env:=by rfl) (hpl:(backTo pos (starEach es X.env)).any (·.1)=false:=by rfl) :
  PE X (.Call (.Name x p) (e::es) [] pos) (a4W sp dvs E t):=by
 intro pins s σ H Q I h
 refine wpAny_Call_Name_kw (a6h I hg hm ?_ hdb)
 refine PySem.W.callWith_K (h₀:=X.base) I.ok.mod.kin hk (thn (ha pos pins s σ H _ I h) fun us s1 ⟨vs,H1,I1,r,q⟩=>⟨I1.kIn,?_⟩) he hpl
 exact b9c F hr hb hd hx I1 r q
structure Mk (K:PySem.W.Frag) (C f:Addr):Prop where
 makes:PySem.W.makesIn K C=true
 init:PySem.W.findIn K (.ref C) "__init__" = some (some (.ref f))
 fn:PySem.W.isFn K (.ref f)=true
 kp:PySem.W.keepIn K (.ref C)=true
end
section
variable {X:Cx} {CX:CXT} {k:Nat} {f C:Addr} {fd:FuncData} {ps ks:List Str} {sp:Sp} {E:XK} {x m:Str} {p pos apos kpos:Pos} {e o:Expr} {es:List Expr} {kws:List Keyword} {te ta:TE} {t tk:TA} {nm:Option Str}
structure c7X (K:PySem.W.Frag) (fd:FuncData) (ps ks:List Str) (g:List Value->List Value->List Value) (gV:List V->List V->List V):Prop where
 to:∀ (s:Shared) (us ws:List Value),K.In s.heap->(g us ws).length=ps.length->BindsTo s fd ⟨us,ks.zip ws⟩ (ps.zip (g us ws))
 rel:∀ {vs:List V} {us:List Value} {zs:List V} {ws:List Value},Vals vs us->Vals zs ws->Vals (gV vs zs) (g us ws)
variable {g:List Value->List Value->List Value} {gV:List V->List V->List V}
end
structure o9 (N P:List Str) (sc:Scope):Prop where
 kind:sc.kind=.function
 co:sc.isCoroutine=false
 gen:sc.isGenerator=false
 nd:N.Nodup
 pre:N.take P.length=P
 par:∀ x ∈ P,sc.names.lookup x=some .local\/sc.names.lookup x=some .cell
 c6h:∀ y ∈ sc.names,y.2 ≠ .free
theorem b3j {kindOf:Str->Option NameKind} {x:Str}:∀ {binds:List (Str × Value)} {m:Str->Option Value},(∀ v,(x,v) ∉ binds)->bindL kindOf binds m x=m x
 | [],_,_=>rfl
 | (n,v)::r,m,h=>by
  unfold bindL
  rw [b3j fun w hw=>h w (mem_cons_of_mem _ hw)]
  split
  . have:x ≠ n:=by rintro rfl;exact h v mem_cons_self
    simp [this]
  . rfl
theorem b3l {kindOf:Str->Option NameKind} {x:Str}:∀ {binds:List (Str × Value)} {m:Str->Option Value},(∀ v,(x,v) ∉ binds)->bindC kindOf binds m x=m x
 | [],_,_=>rfl
 | (n,v)::r,m,h=>by
  unfold bindC
  rw [b3l fun w hw=>h w (mem_cons_of_mem _ hw)]
  split
  . rfl
  . have:x ≠ n:=by rintro rfl;exact h v mem_cons_self
    simp [this]
theorem b3k {kindOf:Str->Option NameKind} {x:Str} {v:Value}:∀ {P:List Str} {vs:List Value} {i:Nat} {m:Str->Option Value},P.Nodup->P[i]? = some x->vs[i]? = some v->kindOf x=some .local ->
  bindL kindOf (P.zip vs) m x=some v
 | [],_,_,_,_,h,_,_=>by simp at h
 | _::_,[],_,_,_,_,h,_=>by simp at h
 | p::P,w::vs,0,m,nd,h1,h2,hk=>by
  simp at h1 h2;subst h1;subst h2
  show bindL kindOf ((p,w)::P.zip vs) m p=_
  unfold bindL
  rw [b3j fun v hv=>(List.nodup_cons.mp nd).1 (List.of_mem_zip hv).1,if_pos hk]
  simp
 | p::P,w::vs,i + 1,m,nd,h1,h2,hk=>by
  show bindL kindOf ((p,w)::P.zip vs) m x=_
  unfold bindL
  exact b3k (i:=i) (List.nodup_cons.mp nd).2 (by simpa using h1) (by simpa using h2) hk
theorem b3m {kindOf:Str->Option NameKind} {x:Str} {v:Value}:∀ {P:List Str} {vs:List Value} {i:Nat} {m:Str->Option Value},P.Nodup->P[i]? = some x->vs[i]? = some v->kindOf x ≠ some .local ->
  bindC kindOf (P.zip vs) m x=some v
 | [],_,_,_,_,h,_,_=>by simp at h
 | _::_,[],_,_,_,_,h,_=>by simp at h
 | p::P,w::vs,0,m,nd,h1,h2,hk=>by
  simp at h1 h2;subst h1;subst h2
  show bindC kindOf ((p,w)::P.zip vs) m p=_
  unfold bindC
  rw [b3l fun v hv=>(List.nodup_cons.mp nd).1 (List.of_mem_zip hv).1,if_neg hk]
  simp
 | p::P,w::vs,i + 1,m,nd,h1,h2,hk=>by
  show bindC kindOf ((p,w)::P.zip vs) m x=_
  unfold bindC
  exact b3m (i:=i) (List.nodup_cons.mp nd).2 (by simpa using h1) (by simpa using h2) hk
noncomputable def start (N:List Str) (vs:List V):St:=vs.map some++List.replicate (N.length - vs.length) none
noncomputable def a5I (CX:CXT) (P:Program) (w:World) (K:PySem.W.Frag) (mg:Str->Option Value) (base:Heap) (N:List Str) (qual:Str) (scope:Scope) (f:Addr) (cd:Value) (A:Around) (outer:List Env) (s:Shared) (H:Hp) (E:XK):Cx where
 prog:=P
 w:=w
 K:=K
 mg:=mg
 base:=base
 A:=A.deeper (envOfC qual scope s.heap.objs.size f cd)
 N:=N
 L5:=s
 i4:=H
 env:=envOfC qual scope s.heap.objs.size f cd
 outer:=outer
 stack:=envOfC qual scope s.heap.objs.size f cd::outer
 ex:=[]
 calm:=true
 fn:=fun _=>true
 pn:=[]
 xe:=fun e s'=>wpAny (model P w) (A.deeper (envOfC qual scope s.heap.objs.size f cd)) (leaving (envOfC qual scope s.heap.objs.size f cd) e) (fun _ s''=>CX outer H s E e s'') (fun e' s''=>CX outer H s E e' s'') s'
theorem b5q {sc:Scope} {n:Nat} {x:Str} (h:sc.names.lookup x=some .cell):∃ c,(cellsFrom n sc.names []).lookup x=some c:=by
 have q:=PySem.W.cellsFrom_some sc.names n [] (.inl h)
 exact Option.isSome_iff_exists.mp q
theorem c0p {CX:CXT} {P:Program} {w:World} {K:PySem.W.Frag} {mg:Str->Option Value} {base:Heap} {N ps:List Str} {qual:Str} {scope:Scope} {f:Addr} {cd:Value} {A:Around} {outer:List Env} {s s1:Shared} {H:Hp} {E:XK} {us:List Value} {vs:List V}
  (S:o9 N ps scope) (hd:A.handled=none) (e0:b1f P w K mg base A outer s H) (hl:vs.length=ps.length) (r:Vals vs us)
  (x:InCallC s s.heap.objs.size (bindL (envOfC qual scope s.heap.objs.size f cd).kindOf (ps.zip us) fun _=>none) (cellsFrom (s.heap.objs.size + 1) scope.names []) (bindC (envOfC qual scope s.heap.objs.size f cd).kindOf (ps.zip us) fun _=>none) s1) :
  Inv (a5I CX P w K mg base N qual scope f cd A outer s H E) [] (start N vs) H s1:=by
 have hpl:ps.length<=N.length:=by have:=congrArg List.length S.pre;rw [length_take] at this;omega
 obtain ⟨h1,tk,rfl,hk⟩:=x.done
 have noA:∀ b:Addr,b ∉ (a5I CX P w K mg base N qual scope f cd A outer s H E).ex:=fun b z=>absurd (show b ∈ ([]:List Addr) from z) (by simp)
 refine ⟨⟨e0.mod,S.kind,rfl,rfl,Nat.le_refl _,fun y z c h1 h2=>?_,fun y hy=>?_,fun y c _ h=>?_,fun _=>hd,Around.frames_deeper e0.frames,.inr ⟨rfl,rfl⟩,fun b z=>absurd z (noA b),e0.bs,e0.bsz,fun b _ _=>noA b,fun b z=>absurd z (noA b),e0.a2k,e0.frf⟩,
  rfl,e0.bare,Un.kept hk,⟨_,x.toInCall.ns,fun i y v h1 h2 h3=>?_⟩,fun y c h=>⟨_,x.cell y c h⟩,e0.hok.fresh (Nat.le_refl _),fun y c h=>?_,fun p hp=>absurd (show p ∈ ([]:List (Addr × Obj)) from hp) (by simp),e0.hok.kept hk,?_⟩
 . exact name_of_addr x.apart (PySem.mem_of_lookup h1) (PySem.mem_of_lookup h2)
 . have hy:scope.names.lookup y=some .cell\/scope.names.lookup y=some .free:=hy
   rcases hy with hy | hy
   . exact b5q hy
   . exact absurd rfl (S.c6h _ (PySem.mem_of_lookup hy))
 . exact Nat.le_of_lt (x.above y c (PySem.mem_of_lookup h))
 . have hi:i < vs.length:=by
     unfold start at h2
     by_cases hi:i < vs.length
     . exact hi
     . rw [List.getElem?_append_right (by simpa using hi)] at h2
       rw [List.getElem?_replicate] at h2
       split at h2 <;> cases h2
   have ha:vs[i]? = some v:=by
    unfold start at h2
    rw [List.getElem?_append_left (by simpa using hi),List.getElem?_map] at h2
    cases e:vs[i]? with
    | none=>rw [e] at h2;cases h2
    | some a=>rw [e] at h2;cases h2;rfl
   obtain ⟨u,hu,rv⟩:=r.get ha
   have hp:ps[i]? = some y:=by
    rw [<-S.pre,List.getElem?_take_of_lt (by omega)];exact h1
   have ndP:ps.Nodup:=by rw [<-S.pre];exact S.nd.sublist (List.take_sublist _ _)
   refine ⟨u,rv,?_⟩
   rcases S.par y (List.mem_of_getElem? hp) with k | k
   . exact .inl ⟨k,b3k ndP hp hu k⟩
   . obtain ⟨c,e⟩:=b5q (n:=s.heap.objs.size + 1) k
     refine .inr ⟨.inl k,c,e,?_⟩
     have q:=x.cell y c e
     rw [b3m ndP hp hu (by show scope.names.lookup y ≠ _;rw [k];decide)] at q
     exact q
 . exact e0.hok.fresh (Nat.le_of_lt (x.above y c (PySem.mem_of_lookup h)))
 . unfold start
   show _=N.length
   rw [length_append,length_map,length_replicate]
   omega
theorem c3o {CX:CXT} {P:Program} {w:World} {K:PySem.W.Frag} {mg:Str->Option Value} {base:Heap} {k:Nat} {f:Addr} {name qual:Str} {params:Arguments} {body:List Stmt} {scope:Scope} {dV kV doc pm cdv ct oc:Value} {an od:Option Addr}
  {osl:Array (Option Value)} {N ps:List Str} {sp:Sp} (lk:K.lookup f=some ⟨oc,od,.func (PySem.W.fnOf name qual params body scope dV kV doc pm an cdv ct),osl⟩) (hcd:PySem.W.codeIn K cdv qual=true) (S:o9 N ps scope)
  (len:∀ vs H Q E,sp vs H Q E->vs.length=ps.length)
  (hbody:∀ (A:Around) (outer:List Env) (s:Shared) (H:Hp) (vs:List V) (Q:VK) (E:XK),M7 k (A.deeper (envOfC qual scope s.heap.objs.size f cdv))->sp vs H Q E ->
   ∃ t,PSs (a5I CX P w K mg base N qual scope f cdv A outer s H E) body t/\t { nx:=fun _ H'=>Q .non H',rt:=Q } (start N vs) H) :
  m6 P w K mg base CX (k + 1) f (PySem.W.fnOf name qual params body scope dV kV doc pm an cdv ct) ps sp:=by
 refine ⟨len,fun A outer s H args us vs Q E hr e0 hb r hsp=>?_⟩
 have hl:=len _ _ _ _ hsp
 have KX:K.In s.heap:=e0.mod.kin.keeps fun b o e=>(e0.bs b o e).1
 have lim:s.heap.NoLimit:=e0.mod.nolimit.keeps fun b o e=>(e0.bs b o e).1
 have hkind:∀ y ∈ ps.zip us,scope.names.lookup y.1=some .local\/(scope.names.lookup y.1=some .cell/\((cellsFrom (s.heap.objs.size + 1) scope.names []).lookup y.1).isSome=true):=fun ⟨n,v⟩ hy=>by
  rcases S.par n (List.of_mem_zip hy).1 with q | q
  . exact .inl q
  . exact .inr ⟨q,PySem.W.cellsFrom_some _ _ _ (.inl q)⟩
 refine codeAny_call_function hr.depth (KX _ _ lk) rfl S.co S.gen rfl (PySem.W.codeRec_of KX hcd) (hb _ _ _ _ ?_)
 refine wpAny_newFunctionEnv_cells S.kind hkind fun env he s1 x=>?_
 subst he
 refine ⟨lim.keeps x.toInCall.keep,codeAny_func ?_⟩
 obtain ⟨t,ht,hq⟩:=hbody A outer s H vs Q E (hr.deeper _) hsp
 have I:Inv (a5I CX P w K mg base N qual scope f cdv A outer s H E) [] (start N vs) H s1:=c0p S hr.hd e0 hl r x
 refine wpAny_mono (ht [] s1 (start N vs) H _ I hq) (fun fl s' hs=>?_) fun e s' hs=>hs
 have fin:∀ {σ':St} {H':Hp} {v:V} {u:Value},Inv (a5I CX P w K mg base N qual scope f cdv A outer s H E) [] σ' H' s'->RelV v u->Q v H'->CE outer P w H s Q u s' :=
  fun {σ' H' v u} J rv q=>⟨v,H',J.os,J.bare,J.base,J.hok,rv,q⟩
 cases fl with
 | ret u =>
  obtain ⟨v,σ',H',J,rv,q⟩:=hs
  exact fin J rv q
 | next =>
  obtain ⟨σ',H',J,q⟩:=hs
  exact fin (v:=V.non) (u:=Value.none) J rfl q
 | brk =>
  obtain ⟨_,_,_,q⟩:=hs
  exact False.elim q
 | cont =>
  obtain ⟨_,_,_,q⟩:=hs
  exact False.elim q
section
variable {X:Cx} {x:Str} {p pos:Pos} {e:Expr} {es:List Expr} {t:TA} {id T:String} {r:List V->Hp->VK->Prop}
noncomputable def tCB (r:List V->Hp->VK->Prop) (t:TA):TE:=fun σ H Q=>t σ H fun vs H1=>r vs H1 Q
theorem b0v (hc:O4 X (.builtin id) r) (hg:Gl X x) (hm:X.mg x=none) (hv:bootBuiltins x=some (.builtin id)) (ha:PA X (e::es) t) (hn:x ≠ "__name__":=by decide) (hdb:(x==("__debug__" : Str))=false:=by decide)
  (he:starEach (e::es) X.env=(false,eval e X.env)::starEach es X.env:=by rfl) (hpl:(backTo pos (starEach es X.env)).any (·.1)=false:=by rfl):PE X (.Call (.Name x p) (e::es) [] pos) (tCB r t):=by
 intro pins s σ H Q I h
 refine wpAny_Call_Name_kw (a6i I hg hm hv ?_ hn hdb)
 exact PyProof.Rows.callWith_builtin1 (thn (ha pos pins s σ H _ I h) fun us s1 ⟨vs,H1,I1,r1,q1⟩=>hc pins s1 σ H1 vs us Q I1 r1 q1) he hpl
theorem b9s (hc:O4 X (.type T) r) (hg:Gl X x) (hm:X.mg x=none) (hv:bootBuiltins x=some (.type T)) (ha:PA X (e::es) t) (hn:x ≠ "__name__":=by decide) (hdb:(x==("__debug__" : Str))=false:=by decide)
  (he:starEach (e::es) X.env=(false,eval e X.env)::starEach es X.env:=by rfl) (hpl:(backTo pos (starEach es X.env)).any (·.1)=false:=by rfl):PE X (.Call (.Name x p) (e::es) [] pos) (tCB r t):=by
 intro pins s σ H Q I h
 refine wpAny_Call_Name_kw (a6i I hg hm hv ?_ hn hdb)
 exact PyProof.Rows.callWith_type1 (thn (ha pos pins s σ H _ I h) fun us s1 ⟨vs,H1,I1,r1,q1⟩=>hc pins s1 σ H1 vs us Q I1 r1 q1) he hpl
end
end L2
namespace HT
open PySem PyProof.Rows
section
open PySem.SeqAt
open PySem.AutoSeq1 (wpAny_loadPart')
open PySem.MeetsSeq PySem.MeetsSeq2 PySem.MeetsSeq3
end
section
variable {prog:Program} {w:World} {A:Around} {E:Value->Shared->Prop} {s:Shared}
theorem c4R {t b:Addr} {vs ws:List Value} {Q:Value->Shared->Prop} (ht:IsTup s.heap t vs.toArray) (hb:IsTup s.heap b ws.toArray) (hv:vs ≠ [])
  (h1:ws=[]->Q (.ref t) s) (h2:ws ≠ []->Q (.ref s.heap.objs.size) { s with heap:=s.heap.push { cls:=.type "tuple",data:=.seq (vs++ws).toArray } })
  (hsz:vs.length + ws.length<=sizeLine):wpAny (model prog w) A (binaryOp .Add (.ref t) (.ref b)) Q E s:=by
 obtain ⟨⟨cls,dd,data,sl⟩,ho,hc,n,hd⟩:=id ht
 obtain ⟨⟨cls2,dd2,data2,sl2⟩,ho2,hc2,n2,hd2⟩:=id hb
 simp only at hc hd hc2 hd2
 subst hc hd hc2 hd2
 have e:vs.toArray++ws.toArray=(vs++ws).toArray:=by simp
 by_cases hw:ws=[]
 . exact concat_meets ⟨_,ho,rfl⟩ ⟨_,ho2,rfl⟩ noFill_tuple_add seq_tuple_add PySem.F.slot_tuple_add PySem.F.entry_tuple_add (PySem.F.args_tuple_add_2 _ _)
     (tuple_addW1 t b vs.toArray ws.toArray n n2 dd dd2 sl sl2 (by simpa using hv) (by simp [hw])) ⟨ho,ho2,h1 hw⟩
 . refine concat_meets ⟨_,ho,rfl⟩ ⟨_,ho2,rfl⟩ noFill_tuple_add seq_tuple_add PySem.F.slot_tuple_add PySem.F.entry_tuple_add (PySem.F.args_tuple_add_2 _ _)
     (tuple_addW2 t b vs.toArray ws.toArray n n2 dd dd2 sl sl2 (by simpa using hv) (by simpa using hw) (by rw [size_toArray,size_toArray];exact hsz)) ⟨ho,ho2,?_⟩
   rw [e]
   exact h2 hw
noncomputable def sIx (n d:Nat):Option Int->Nat
 | none=>d
 | some v=>if v < 0 then (v + (n:Int)).toNat else min v.toNat n
theorem b6v (n d k:Nat):sIx n d (some (k:Int))=min k n:=by
 show (if (k:Int) < 0 then ((k:Int) + (n:Int)).toNat else min (k:Int).toNat n)=min k n
 rw [if_neg (by omega),Int.toNat_natCast]
theorem c5v (n d:Nat) (hd:d<=n) (o:Option Int):sIx n d o<=n:=by
 cases o with
 | none=>exact hd
 | some v =>
  show (if v < 0 then (v + (n:Int)).toNat else min v.toNat n)<=n
  by_cases hv:v < 0
  . rw [if_pos hv];omega
  . rw [if_neg hv];exact Nat.min_le_right _ _
theorem b6P (v:Int) (n d:Nat):(if v < 0 then max (v + (n:Int)) 0 else min v (n:Int))=((sIx n d (some v):Nat):Int):=by
 show (if v < 0 then max (v + (n:Int)) 0 else min v (n:Int))=(((if v < 0 then (v + (n:Int)).toNat else min v.toNat n):Nat):Int)
 by_cases hv:v < 0
 . simp only [if_pos hv];omega
 . simp only [if_neg hv];omega
theorem b8z (lo hi:Option Int) (n:Nat):Builtin.Slice.sliceAdjust lo hi 1 (n:Int)=(((sIx n 0 lo:Nat):Int),((sIx n n hi:Nat):Int)):=by
 have h1:¬ ((1:Int) < 0):=by omega
 unfold Builtin.Slice.sliceAdjust
 simp only [h1,if_false]
 refine Prod.ext ?_ ?_
 . cases lo with
   | none=>rfl
   | some v=>exact b6P v n 0
 . cases hi with
   | none=>rfl
   | some v=>exact b6P v n n
theorem b7x (i j:Nat):Builtin.Slice.slicePlaces (i:Int) (j:Int) 1=j - i:=by
 unfold Builtin.Slice.slicePlaces
 have h1:(1:Int) > 0:=by omega
 simp only [h1,if_true,Int.ediv_one]
 split <;> omega
theorem b1m {v:Value} {o:Option Int} {Q:Option Int->Shared->Prop} (p:IsPart v o) (h:Q o s):wpAny (model prog w) A (Builtin.Slice.slicePartIndex v) Q E s:=by
 cases p with
 | none=>exact slicePart_none h
 | int i t=>exact slicePart_int h
theorem a4l {sl:Addr} {vl vu:Value} {lo hi:Option Int} {n:Nat} {Q:Int × Int × Nat->Shared->Prop} (hs:s.heap.IsSliceOf sl vl vu .none) (pl:IsPart vl lo) (pu:IsPart vu hi)
  (h:Q (((sIx n 0 lo:Nat):Int),1,sIx n n hi - sIx n 0 lo) s):wpAny (model prog w) A (Builtin.Slice.sliceApplied (.ref sl) (pure (n:Int))) Q E s:=by
 obtain ⟨os,hos,hcs,hds⟩:=id hs
 unfold Builtin.Slice.sliceApplied Builtin.Slice.sliceFields
 refine wpAny_bind (wpAny_bind (wpAny_field hos hds (x:=vl) rfl (wpAny_bind (wpAny_field hos hds (x:=vu) rfl (wpAny_bind (wpAny_field hos hds (x:=.none) rfl (wpAny_pure ?_)))))))
 refine wpAny_bind (slicePart_none ?_)
 show wpAny _ _ (if ((1:Int)==0)=true then _ else _) _ _ s
 rw [if_neg (by decide)]
 refine wpAny_bind (b1m pl (wpAny_bind (b1m pu (wpAny_bind (wpAny_pure ?_)))))
 show wpAny _ _ (match Builtin.Slice.sliceAdjust lo hi 1 (n:Int) with | (lo,hi)=>pure (lo,(1:Int),Builtin.Slice.slicePlaces lo hi 1)) _ _ s
 rw [b8z lo hi n]
 show wpAny _ _ (pure (((sIx n 0 lo:Nat):Int),(1:Int),Builtin.Slice.slicePlaces ((sIx n 0 lo:Nat):Int) ((sIx n n hi:Nat):Int) 1)) _ _ s
 rw [b7x]
 exact wpAny_pure h
theorem c1N (xs:Array Value) (i k:Nat):((List.range k).filterMap fun (m:Nat)=>xs[((i:Int) + (m:Int) * 1).toNat]?).toArray=((xs.toList.drop i).take k).toArray:=by
 have e:(fun (m:Nat)=>xs[((i:Int) + (m:Int) * 1).toNat]?)=fun m=>xs[i + m]?:=by
  funext m
  have:((i:Int) + (m:Int) * 1).toNat=i + m:=by omega
  rw [this]
 rw [e]
 have:=pick_run xs i k
 rw [List.filterMap_map] at this
 have e2:((fun x=>xs[x]?) ∘ fun x=>i + x)=fun m=>xs[i + m]?:=rfl
 rw [e2] at this
 rw [this]
theorem a9U {t sl:Addr} {items:Array Value} {vl vu:Value} {lo hi:Option Int} {Q:Value->Shared->Prop} (ht:IsTup s.heap t items) (hs:s.heap.IsSliceOf sl vl vu .none) (pl:IsPart vl lo) (pu:IsPart vu hi)
  (hw:¬ (sIx items.size 0 lo=0/\sIx items.size items.size hi=items.size))
  (h:Q (.ref s.heap.objs.size) { s with heap:=s.heap.push { cls:=.type "tuple",data:=.seq ((items.toList.drop (sIx items.size 0 lo)).take (sIx items.size items.size hi - sIx items.size 0 lo)).toArray } })
  (hsz:items.size<=sizeLine):wpAny (model prog w) A (getItem (.ref t) (.ref sl)) Q E s:=by
 have htake:sizeOk (.seq ((items.toList.drop (sIx items.size 0 lo)).take (sIx items.size items.size hi - sIx items.size 0 lo)).toArray):=by
  show ((items.toList.drop (sIx items.size 0 lo)).take (sIx items.size items.size hi - sIx items.size 0 lo)).toArray.size<=sizeLine
  rw [size_toArray,length_take,length_drop,Array.length_toList]
  omega
 have hj:sIx items.size items.size hi<=items.size:=c5v _ _ (Nat.le_refl _) hi
 obtain ⟨os,hos,hcs,hds⟩:=id hs
 have hTs:s.TypeIs (.ref sl) "slice":=⟨os,hos,hcs⟩
 unfold getItem
 try with_reducible refine wpAny_holding ?_
 first | refine wpAny_bind (wpAny_pure ?_) | skip
 refine wpAny_bind (wpAny_sequenceKey ht.typeIs (by decide) ?_)
 refine wpAny_bind (wpAny_callSpecial?_slot (name:=(Str.ofString "__getitem__")) ht.typeIs PyProof.Rows.slot_tuple_getitem
  (wpAny_call_entry PyProof.Rows.slot_tuple_getitem ht.typeIs entry_tuple_getitem ?_ (args_tuple_getitem _ _)))
 show wpAny _ _ (Builtin.Tuple.tupleItemsOf (.ref t) >>= _) _ _ s
 refine wpAny_bind (tupleItemsOf_ ht ?_)
 refine wpAny_bind (wpAny_typeOf hTs ?_)
 rw [if_pos (by decide)]
 refine wpAny_bind (a4l hs pl pu ?_)
 have hno:¬ ((((sIx items.size 0 lo:Nat):Int)==0&&(1:Int)==1&&(sIx items.size items.size hi - sIx items.size 0 lo)==items.size)=true):=by
  intro q
  rw [Bool.and_eq_true,Bool.and_eq_true] at q
  have q1:((sIx items.size 0 lo:Nat):Int)=0:=eq_of_beq q.1.1
  have q2:sIx items.size items.size hi - sIx items.size 0 lo=items.size:=eq_of_beq q.2
  exact hw ⟨by omega,by omega⟩
 show wpAny _ _ (if (((sIx items.size 0 lo:Nat):Int)==0&&(1:Int)==1&&(sIx items.size items.size hi - sIx items.size 0 lo)==items.size)=true then _ else _) _ _ s
 rw [if_neg hno,c1N]
 first
  | exact wpAny_bind (m:=Builtin.Tuple.tupleExact _) (wpAny_newObj_type (wpAny_pure ⟨_,rfl,wpAny_pure h⟩) htake)
  | exact wpAny_bind (m:=Builtin.Tuple.tupleExact _) (wpAny_newObj_type (wpAny_bind (wpAny_pure (wpAny_pure ⟨_,rfl,wpAny_pure h⟩))) htake)
  | exact wpAny_bind (wpAny_bind (m:=Builtin.Tuple.tupleExact _) (wpAny_newObj_type (wpAny_pure (wpAny_pure ⟨_,rfl,wpAny_pure h⟩)) htake))
  | exact wpAny_bind (wpAny_bind (m:=Builtin.Tuple.tupleExact _) (wpAny_newObj_type (wpAny_pure ⟨_,rfl,wpAny_pure h⟩) htake))
end
end HT
namespace L2
open PySem PySem.Spec PyProof.Rows
noncomputable abbrev TO:=St->Hp->(Option Int->Hp->Prop)->Prop
noncomputable def PO (X:Cx) (e:Option Expr) (t:TO):Prop :=
 ∀ (pins:List (Addr × Obj)) (s:Shared) (σ:St) (H:Hp) (Q:Option Int->Hp->Prop),Inv X pins σ H s->t σ H Q ->
  wpAny (model X.prog X.w) X.A (evalPart e X.env) (fun u s'=>∃ o H',Inv X pins σ H' s'/\IsPart u o/\Q o H') X.xe s
noncomputable def b2b:TO:=fun _ H Q=>Q none H
noncomputable def b7d (t:TE):TO:=fun σ H Q=>t σ H fun x H1=>∃ i,x=.int i/\Q (some i) H1
section
variable {X:Cx} {e:Expr} {te:TE} {lo hi:Option Expr} {tl th:TO} {pos p2:Pos}
theorem c3Y:PO X none b2b:=by
 intro pins s σ H Q I h
 rw [evalPart_none]
 exact wpAny_pure ⟨none,H,I,.none,h⟩
theorem c3X (h:PE X e te):PO X (some e) (b7d te):=by
 intro pins s σ H Q I hw
 rw [evalPart_some]
 refine thn (h pins s σ H _ I hw) fun u s1 ⟨x,H1,I1,r1,q1⟩=>?_
 obtain ⟨i,rfl,q⟩:=q1
 obtain ⟨t,rfl⟩:=r1
 exact ⟨some i,H1,I1,.int i t,q⟩
noncomputable def SlR (X:Cx) (r:V->Option Int->Option Int->Hp->VK->Prop):Prop :=
 ∀ (pins:List (Addr × Obj)) (s:Shared) (σ:St) (H:Hp) (x:V) (v vl vu:Value) (lo hi:Option Int) (sl:Addr) (Q:VK),Inv X pins σ H s->RelV x v->s.heap.IsSliceOf sl vl vu .none->IsPart vl lo->IsPart vu hi->r x lo hi H Q ->
  ∃ T id,typeLookup (.type T) "__getitem__" = pure (some (.builtin id))/\s.TypeIs v T/\wpAny (model X.prog X.w) X.A (getItem v (.ref sl)) (EP X pins σ Q) X.xe s
theorem SlR.or {r r':V->Option Int->Option Int->Hp->VK->Prop} (h:SlR X r) (h':SlR X r'):SlR X (fun x lo hi H Q=>r x lo hi H Q\/r' x lo hi H Q):=by
 intro pins s σ H x v vl vu lo hi sl Q I rx hs pl pu q
 rcases q with q | q
 . exact h pins s σ H x v vl vu lo hi sl Q I rx hs pl pu q
 . exact h' pins s σ H x v vl vu lo hi sl Q I rx hs pl pu q
noncomputable def tSl (r:V->Option Int->Option Int->Hp->VK->Prop) (te:TE) (tl th:TO):TE:=fun σ H Q=>te σ H fun x H1=>tl σ H1 fun l H2=>th σ H2 fun u H3=>r x l u H3 Q
theorem c1O {r:V->Option Int->Option Int->Hp->VK->Prop} (hr:SlR X r) (he:PE X e te) (hl:PO X lo tl) (hu:PO X hi th):PE X (.Subscript e (.Slice lo hi none p2) pos) (tSl r te tl th):=by
 intro pins s σ H Q I h
 refine Subscript_ (thn (he pins s σ H _ I h) fun v s1 ⟨x,H1,I1,r1,q1⟩=>?_)
 refine wpAny_Slice (thn (hl pins s1 σ H1 _ I1 q1) fun vl s2 ⟨l,H2,I2,pl,q2⟩=>thn (hu pins s2 σ H2 _ I2 q2) fun vu s3 ⟨u,H3,I3,pu,q3⟩=>?_)
 rw [evalPart_none]
 refine wpAny_pure ?_
 have I4:Inv X pins σ H3 { s3 with heap:=s3.heap.push { cls:=.type "slice",data:=.fields #[vl,vu,.none] } }:=I3.kept (t':=s3.toks) fun b ob q=>Heap.get?_push_of_some _ q
 obtain ⟨T,id,hT,ht,hg⟩:=hr pins { s3 with heap:=s3.heap.push { cls:=.type "slice",data:=.fields #[vl,vu,.none] } } σ H3 x v vl vu l u s3.heap.objs.size Q I4 r1 (Heap.IsSliceOf.new ..) pl pu q3
 show wpAny (model X.prog X.w) X.A (subscriptTail e (.Slice lo hi none p2) v (.ref s3.heap.objs.size)) (EP X pins σ Q) X.xe { s3 with heap:=s3.heap.push { cls:=.type "slice",data:=.fields #[vl,vu,.none] } }
 exact tail_any (ops:=[.ref s3.heap.objs.size,v]) ht hT hg (by with_unfolding_all rfl)
noncomputable def a4K (xs:List V) (lo hi:Option Int):List V:=(xs.drop (HT.sIx xs.length 0 lo)).take (HT.sIx xs.length xs.length hi - HT.sIx xs.length 0 lo)
theorem b0d (xs:List V) (lo hi:Option Int):(a4K xs lo hi).length<=xs.length:=by
 unfold a4K
 rw [length_take,length_drop]
 omega
noncomputable def c7K (K:PySem.W.Frag):V->Option Int->Option Int->Hp->VK->Prop:=fun x lo hi H Q=>∃ a xs,x=.ref a/\SqT K H a xs /\
 ¬ (HT.sIx xs.length 0 lo=0/\HT.sIx xs.length xs.length hi=xs.length)/\∀ p,H p=none->Q (.ref p) (upd H p (.tup (a4K xs lo hi)))
theorem c5r:SlR X (c7K X.K):=by
 intro pins s σ H x v vl vu lo hi sl Q I rx hs pl pu h
 obtain ⟨a,xs,rfl,hx,hw,q⟩:=h
 cases rx
 obtain ⟨its,r,ht,hz⟩:=I.tuple hx
 have hlen:its.toArray.size=xs.length:=by rw [size_toArray];exact r.length.symm
 refine ⟨"tuple",_,PyProof.Rows.slot_tuple_getitem.lookup,ht.typeIs,?_⟩
 refine HT.a9U ht hs pl pu (by rw [hlen];exact hw) ?_ (by rw [hlen];exact hz)
 rw [hlen]
 refine ⟨.ref s.heap.objs.size,_,I.laid (t':=s.toks) (o:=.tup (a4K xs lo hi)) (fun b ob q=>Heap.get?_push_of_some _ q) (Nat.le_refl _) ?_,rfl,q _ (I.hok.fresh (Nat.le_refl _))⟩
 exact ⟨Nat.le_trans (b0d xs lo hi) hz,_,(r.drop (HT.sIx xs.length 0 lo)).take (HT.sIx xs.length xs.length hi - HT.sIx xs.length 0 lo),IsTup.new _ _⟩
noncomputable def c7d (K:PySem.W.Frag):R2:=fun x y H Q=>∃ a b xs ys,x=.ref a/\y=.ref b/\SqT K H a xs/\SqT K H b ys/\xs ≠ []/\xs.length + ys.length<=sizeLine /\
 (ys=[]->Q (.ref a) H)/\(ys ≠ []->∀ p,H p=none->Q (.ref p) (upd H p (.tup (xs++ys))))
theorem Vals.a9D {xs:List V} {us:List Value} (r:Vals xs us):us=[] ↔ xs=[]:=by
 cases r with
 | nil=>simp
 | cons _ _=>simp
theorem c4g:OpR X (binaryOp .Add) (c7d X.K):=by
 intro pins s σ H x y v u Q I rx ry h
 obtain ⟨a,b,xs,ys,rfl,rfl,ha,hb,hx,hz,q1,q2⟩:=h
 cases rx
 cases ry
 obtain ⟨its,r1,p1,_⟩:=I.tuple ha
 obtain ⟨its2,r2,p2,_⟩:=I.tuple hb
 refine HT.c4R p1 p2 (fun z=>hx (r1.a9D.mp z)) (fun z=>⟨.ref a,H,I,rfl,q1 (r2.a9D.mp z)⟩) (fun z=>?_) (by rw [<-r1.length,<-r2.length];exact hz)
 refine ⟨.ref s.heap.objs.size,_,I.laid (t':=s.toks) (o:=.tup (xs++ys)) (fun b ob q=>Heap.get?_push_of_some _ q) (Nat.le_refl _) ?_,rfl,q2 (fun w=>z (r2.a9D.mpr w)) _ (I.hok.fresh (Nat.le_refl _))⟩
 exact ⟨by rw [length_append];exact hz,_,r1.append r2,IsTup.new _ _⟩
end
noncomputable def ixN (n:Nat) (i:Int):Option Nat:=if 0<=i then (if i < n then some i.toNat else none) else if -(n:Int)<=i then some (i + n).toNat else none
noncomputable def atI {α:Type} (xs:List α) (i:Int):Option α:=(ixN xs.length i).bind fun j=>xs[j]?
theorem b6G {n:Nat} {i:Int} {j:Nat} (h:ixN n i=some j):seqIndex? i n=some j/\j < n/\-(n:Int)<=i/\i < n:=by
 unfold ixN at h
 by_cases h0:0<=i
 . rw [if_pos h0] at h
   by_cases h1:i < n
   . rw [if_pos h1] at h
     have e:i.toNat=j:=Option.some.inj h
     exact ⟨by rw [seqIndex_of h0 h1,e],by omega,by omega,h1⟩
   . rw [if_neg h1] at h;cases h
 . rw [if_neg h0] at h
   by_cases h1 : -(n:Int)<=i
   . rw [if_pos h1] at h
     have e:(i + n).toNat=j:=Option.some.inj h
     exact ⟨by rw [seqIndex_neg (by omega) h1,e],by omega,h1,by omega⟩
   . rw [if_neg h1] at h;cases h
theorem b2E {α:Type} {xs:List α} {i:Int} {v:α} (h:atI xs i=some v):∃ j,seqIndex? i xs.length=some j/\xs[j]? = some v/\j < xs.length/\-(xs.length:Int)<=i/\i < xs.length:=by
 unfold atI at h
 cases e:ixN xs.length i with
 | none=>rw [e] at h;cases h
 | some j =>
  rw [e] at h
  obtain ⟨h1,h2,h3,h4⟩:=b6G e
  exact ⟨j,h1,h,h2,h3,h4⟩
noncomputable def b2H (b:Expr):Prop:=∀ o i,subscripted b false o i=operate [o,i] (getItem o i)
noncomputable def IxR (X:Cx) (r:R2):Prop :=
 ∀ (value slice:Expr) (pins:List (Addr × Obj)) (s:Shared) (σ:St) (H:Hp) (x y:V) (v u:Value) (Q:VK),Inv X pins σ H s->RelV x v->RelV y u->r x y H Q ->
  subscripted slice false v u=operate [v,u] (getItem v u)->wpAny (model X.prog X.w) X.A (subscriptTail value slice v u) (EP X pins σ Q) X.xe s
noncomputable def MtR (X:Cx) (id:String) (r:V->List V->Hp->VK->Prop):Prop :=
 ∀ (pins:List (Addr × Obj)) (s:Shared) (σ:St) (H:Hp) (x:V) (xs:List V) (v:Value) (us:List Value) (Q:VK),Inv X pins σ H s->RelV x v->Vals xs us->r x xs H Q ->
  wpAny (model X.prog X.w) X.A (call (.builtin id) (v::us)) (EP X pins σ Q) X.xe s
section
variable {X:Cx} {a b:Expr} {ta tb:TE} {pos:Pos}
theorem IxR.or {r r':R2} (h:IxR X r) (h':IxR X r'):IxR X (fun x y H Q=>r x y H Q\/r' x y H Q):=by
 intro value slice pins s σ H x y v u Q I rx ry q hs
 rcases q with q | q
 . exact h value slice pins s σ H x y v u Q I rx ry q hs
 . exact h' value slice pins s σ H x y v u Q I rx ry q hs
theorem c3a {r:R2} (hr:IxR X r) (ha:PE X a ta) (hb:PE X b tb) (hs:b2H b):PE X (.Subscript a b pos) (tOp r ta tb):=by
 intro pins s σ H Q I h
 exact Subscript_ (c2F ha hb I h fun v u s2 x y H2 I2 rx ry q=>hr a b pins s2 σ H2 x y v u Q I2 rx ry q (hs _ _))
noncomputable def c1E (K:PySem.W.Frag):R2:=fun x y H Q=>∃ p xs i v,x=.ref p/\y=.int i/\SqL K H p xs/\atI xs i=some v/\Q v H
noncomputable def c1D (K:PySem.W.Frag):R2:=fun x y H Q=>∃ p xs i v,x=.ref p/\y=.int i/\SqT K H p xs/\atI xs i=some v/\Q v H
noncomputable def c5B:R2:=fun x y H Q=>∃ z i c,x=.str z/\y=.int i/\z.length<=sizeLine/\atI z.cps.toList i=some c/\Q (.str ⟨#[c]⟩) H
theorem c4G:IxR X (c1E X.K):=by
 intro value slice pins s σ H x y v u Q I rx ry h hs
 obtain ⟨p,xs,i,z,rfl,rfl,hq,he,q⟩:=h
 cases rx
 obtain ⟨t,rfl⟩:=ry
 obtain ⟨its,r,pl,hz⟩:=I.list hq
 obtain ⟨j,h1,h2,h3,h4,h5⟩:=b2E he
 obtain ⟨w,ew,rw'⟩:=r.get h2
 have hl:=r.length
 have hn:=a4u
 have fin:EP X pins σ Q w s:=⟨z,H,I,rw',q⟩
 by_cases h0:0<=i
 . have hj:i.toNat=j:=by
     rw [seqIndex_of h0 h5] at h1
     exact Option.some.inj h1
   exact item_listR pl.isList h0 (by omega) (by rw [hj];simpa using ew) fin hs
 . have hj:(i + (its.toArray.size:Int)).toNat=j:=by
     rw [seqIndex_neg (by omega) h4] at h1
     rw [size_toArray,<-hl]
     exact Option.some.inj h1
   exact subscriptTail_builtinR (x:=w) pl.isList.typeIs slot_list_getitem.lookup
    (wpAny_getItem_list_neg (Q:=fun r s'=>r=w/\EP X pins σ Q r s') pl.isList (by omega) (by rw [size_toArray] <;> omega) (by omega) (by rw [hj];simpa using ew) ⟨rfl,fin⟩) hs
theorem c6v:IxR X (c1D X.K):=by
 intro value slice pins s σ H x y v u Q I rx ry h hs
 obtain ⟨p,xs,i,z,rfl,rfl,hq,he,q⟩:=h
 cases rx
 obtain ⟨t,rfl⟩:=ry
 obtain ⟨its,r,pl,hz⟩:=I.tuple hq
 obtain ⟨j,h1,h2,h3,h4,h5⟩:=b2E he
 obtain ⟨w,ew,rw'⟩:=r.get h2
 have hl:=r.length
 have hn:=a4u
 have fin:EP X pins σ Q w s:=⟨z,H,I,rw',q⟩
 exact subscriptTail_builtinR (x:=w) pl.typeIs slot_tuple_getitem.lookup
  (getItem_tuple (j:=j) (Q:=fun r s'=>r=w/\EP X pins σ Q r s') pl (by omega) (by omega) (by rw [size_toArray,<-hl];exact h1) (by simpa using ew) ⟨rfl,fin⟩) hs
theorem c6w:IxR X c5B:=by
 intro value slice pins s σ H x y v u Q I rx ry h hs
 obtain ⟨z,i,c,rfl,rfl,hz,he,q⟩:=h
 obtain ⟨t,rfl⟩:=rx
 obtain ⟨t',rfl⟩:=ry
 obtain ⟨j,h1,h2,h3,h4,h5⟩:=b2E he
 have hl:z.cps.toList.length=z.length:=by simp [Str.length]
 rw [hl] at h1 h4 h5
 have hn:=a4u
 exact tail_any (typeIs_str s z t) slot_str_getitem.lookup (getItem_str (c:=c) (by
  have e1:decide (i < -(2 ^ 63:Int))=false:=decide_eq_false (by omega)
  have e2:decide (i>=2 ^ 63)=false:=decide_eq_false (by omega)
  rw [e1,e2,Bool.or_false]) (by rw [h1];simpa using h2) ⟨.str ⟨#[c]⟩,H,I.tok _,⟨_,rfl⟩,q⟩) hs
noncomputable def rIx (K:PySem.W.Frag):R2:=fun x y H Q=>c1E K x y H Q\/c1D K x y H Q\/c5B x y H Q
theorem o3:IxR X (rIx X.K):=c4G.or (c6v.or c6w)
theorem b7U (its:List Value) (n j:Nat) (u:Value):Obj.mapSeq (·.setIfInBounds j u) { cls:=.type "list",data:=.seq its.toArray n }={ cls:=.type "list",data:=.seq (its.set j u).toArray n }:=by
 simp [Obj.mapSeq]
theorem Inv.lst {pins:List (Addr × Obj)} {σ:St} {H:Hp} {s:Shared} {p:Addr} {xs:List V} (I:Inv X pins σ H s) (h:H p=some (.lst xs)) :
  ∃ (its:List Value) (n:Nat),Vals xs its/\s.heap.get? p=some { cls:=.type "list",data:=.seq its.toArray n }/\xs.length<=sizeLine:=by
 obtain ⟨z,its,n,r,e⟩:=I.hok p _ h
 exact ⟨its,n,r,e,z⟩
theorem Inv.c6o {pins:List (Addr × Obj)} {σ:St} {H:Hp} {s:Shared} {p:Addr} {xs ys:List V} {its its':List Value} {n n':Nat} {f:Obj->Obj} (I:Inv X pins σ H s) (h:H p=some (.lst xs))
  (ho:s.heap.get? p=some { cls:=.type "list",data:=.seq its.toArray n }) (hf:f { cls:=.type "list",data:=.seq its.toArray n }={ cls:=.type "list",data:=.seq its'.toArray n' }) (r:Vals ys its') (hz:ys.length<=sizeLine) (t:Nat) :
  Inv X pins σ (upd H p (.lst ys)) { s with heap:=s.heap.update p f,toks:=t }:=by
 have e:(s.heap.update p f).get? p=some { cls:=.type "list",data:=.seq its'.toArray n' }:=by
  rw [Heap.get?_update_self f ho (by rw [hf] <;> rfl),hf]
 refine I.write (x:=p) (e:=p) (by rw [h];trivial) (.inl rfl) (fun b u hb q=>(Heap.get?_update_other _ _ (Ne.symm hb)).trans q) ⟨_,e⟩ ?_
 exact ⟨hz,its',n',r,e⟩
noncomputable def c2T:V->V->V->Hp->(Hp->Prop)->Prop:=fun o i v H Q=>∃ p xs k j,o=.ref p/\i=.int k/\H p=some (.lst xs)/\ixN xs.length k=some j/\Q (upd H p (.lst (xs.set j v)))
theorem set_list:c6M X c2T:=by
 intro pins s σ H o i v ov iv u Q I ro ri rv h
 obtain ⟨p,xs,k,j,rfl,rfl,hp,hj,q⟩:=h
 cases ro
 obtain ⟨t,rfl⟩:=ri
 obtain ⟨its,n,r,ho,hz⟩:=I.lst hp
 obtain ⟨h1,h2,h3,h4⟩:=b6G hj
 have hl:=r.length
 have hn:=a4u
 have I':Inv X pins σ (upd H p (.lst (xs.set j v))) { s with heap:=s.heap.update p (Obj.mapSeq (·.setIfInBounds j u)) } :=
  I.c6o hp ho (b7U its n j u) (r.set rv j) (by rw [List.length_set];exact hz) s.toks
 by_cases h0:0<=k
 . have hk:k.toNat=j:=by
     rw [seqIndex_of h0 h4] at h1
     exact Option.some.inj h1
   exact PySem.W.ki_setAt ho h0 (by omega) (by rw [size_toArray,<-hl];exact h4) (by rw [hk];exact ⟨_,I',q⟩)
 . have hk:(k + (its.toArray.size:Int)).toNat=j:=by
     rw [seqIndex_neg (by omega) h3] at h1
     rw [size_toArray,<-hl]
     exact Option.some.inj h1
   exact PySem.W.ki_setBack ho (by omega) (by rw [size_toArray,<-hl];exact h3) (by omega) (by rw [hk];exact ⟨_,I',q⟩)
theorem b4r (lo hi:Option Int) (n:Nat):(sliceBounds lo hi none n).1=((HT.sIx n 0 lo:Nat):Int)/\(sliceBounds lo hi none n).2.1=((HT.sIx n n hi:Nat):Int)/\(sliceBounds lo hi none n).2.2=1:=by
 refine ⟨?_,?_,rfl⟩
 . cases lo with
   | none=>simp [sliceBounds,HT.sIx]
   | some i =>
    simp only [sliceBounds,HT.sIx,Option.getD_none,show (1:Int) > 0 by decide,if_true]
    by_cases h:i < 0
    . simp only [h,if_true] <;> omega
    . simp only [h,if_false] <;> omega
 . cases hi with
   | none=>simp [sliceBounds,HT.sIx]
   | some i =>
    simp only [sliceBounds,HT.sIx,Option.getD_none,show (1:Int) > 0 by decide,if_true]
    by_cases h:i < 0
    . simp only [h,if_true] <;> omega
    . simp only [h,if_false] <;> omega
theorem b3x (its:List Value) (lo hi:Option Int):slicePick its.toArray lo hi none=((its.drop (HT.sIx its.length 0 lo)).take (HT.sIx its.length its.length hi - HT.sIx its.length 0 lo)).toArray:=by
 obtain ⟨h1,h2,h3⟩:=b4r lo hi its.toArray.size
 unfold slicePick
 rw [h1,h2,h3]
 simp only [sliceRange_one,pick_run,size_toArray] <;> rfl
noncomputable def c5z (K:PySem.W.Frag):V->Option Int->Option Int->Hp->VK->Prop:=fun x lo hi H Q=>∃ a xs,x=.ref a/\SqL K H a xs/\∀ p,H p=none->Q (.ref p) (upd H p (.lst (a4K xs lo hi)))
theorem c3D:SlR X (c5z X.K):=by
 intro pins s σ H x v vl vu lo hi sl Q I rx hs pl pu h
 obtain ⟨a,xs,rfl,hx,q⟩:=h
 cases rx
 obtain ⟨its,r,ht,hz⟩:=I.list hx
 have hlen:=r.length
 refine ⟨"list",_,slot_list_getitem.lookup,ht.isList.typeIs,?_⟩
 refine wpAny_getItem_list_slice ht.isList hs pl pu .none (by simp) ?_ (by rw [size_toArray] <;> omega)
 rw [b3x,<-hlen]
 refine ⟨.ref s.heap.objs.size,_,I.laid (t':=s.toks) (o:=.lst (a4K xs lo hi)) (fun b ob q=>Heap.get?_push_of_some _ q) (Nat.le_refl _) ?_,rfl,q _ (I.hok.fresh (Nat.le_refl _))⟩
 exact ⟨Nat.le_trans (b0d xs lo hi) hz,_,0,(r.drop (HT.sIx xs.length 0 lo)).take (HT.sIx xs.length xs.length hi - HT.sIx xs.length 0 lo),Heap.get?_push_size _ rfl⟩
noncomputable def Z4:V->Bool
 | .non=>true
 | .bl _=>true
 | .int _=>true
 | .str _=>true
 | _=>false
noncomputable def eqV:V->V->Bool
 | .non,.non=>true
 | .bl a,.bl b=>a==b
 | .bl a,.int b=>(if a then 1 else 0)==b
 | .int a,.bl b=>a==(if b then 1 else 0)
 | .int a,.int b=>a==b
 | .str a,.str b=>a==b
 | _,_=>false
theorem c6D {A:Around} {s:Shared} {y x:V} {u v:Value} (ry:RelV y u) (rx:RelV x v) (fy:Z4 y=true) (fx:Z4 x=true):SeqAt.EqAt A s u v (eqV y x):=by
 cases y with
 | non =>
  cases ry
  cases x with
  | non=>cases rx;exact SeqAt.EqAt.same _
  | bl b=>cases rx;exact SeqAt.EqAt.none_bool b
  | int b=>obtain ⟨t,rfl⟩:=rx;exact SeqAt.EqAt.none_int b t
  | str b=>obtain ⟨t,rfl⟩:=rx;exact SeqAt.EqAt.none_str b t
  | _=>exact absurd (show false=true from fx) Bool.false_ne_true
 | bl a =>
  cases ry
  cases x with
  | non=>cases rx;exact SeqAt.EqAt.bool_none a
  | bl b=>cases rx;exact SeqAt.EqAt.bool_bool a b
  | int b=>obtain ⟨t,rfl⟩:=rx;exact SeqAt.EqAt.bool_int a b t
  | str b=>obtain ⟨t,rfl⟩:=rx;exact SeqAt.EqAt.bool_str a b t
  | _=>exact absurd (show false=true from fx) Bool.false_ne_true
 | int a =>
  obtain ⟨t',rfl⟩:=ry
  cases x with
  | non=>cases rx;exact SeqAt.EqAt.int_none a t'
  | bl b=>cases rx;exact SeqAt.EqAt.int_bool a t' b
  | int b=>obtain ⟨t,rfl⟩:=rx;exact SeqAt.EqAt.int_int a t' b t
  | str b=>obtain ⟨t,rfl⟩:=rx;exact SeqAt.EqAt.int_str a t' b t
  | _=>exact absurd (show false=true from fx) Bool.false_ne_true
 | str a =>
  obtain ⟨t',rfl⟩:=ry
  cases x with
  | non=>cases rx;exact SeqAt.EqAt.str_none a t'
  | bl b=>cases rx;exact SeqAt.EqAt.str_bool a t' b
  | int b=>obtain ⟨t,rfl⟩:=rx;exact SeqAt.EqAt.str_int a t' b t
  | str b=>obtain ⟨t,rfl⟩:=rx;exact SeqAt.EqAt.str_str a t' b t
  | _=>exact absurd (show false=true from fx) Bool.false_ne_true
 | _=>exact absurd (show false=true from fy) Bool.false_ne_true
noncomputable def eqU (x:V) (u:Value):Bool:=match u with
 | .none=>eqV .non x
 | .bool b=>eqV (.bl b) x
 | .int i _=>eqV (.int i) x
 | .str z _=>eqV (.str z) x
 | _=>false
theorem c0w {x y:V} {u:Value} (r:RelV y u) (f:Z4 y=true):eqU x u=eqV y x:=by
 cases y with
 | non=>cases r;rfl
 | bl b=>cases r;rfl
 | int i=>obtain ⟨t,rfl⟩:=r;rfl
 | str z=>obtain ⟨t,rfl⟩:=r;rfl
 | _=>exact absurd (show false=true from f) Bool.false_ne_true
theorem a6n {x:V}:∀ {xs:List V} {us:List Value},Vals xs us->xs.all Z4=true->us.any (eqU x)=xs.any fun y=>eqV y x
 | _,_,.nil,_=>rfl
 | y::xs,u::us,.cons r t,f=>by
  rw [all_cons,Bool.and_eq_true] at f
  rw [any_cons,any_cons,c0w r f.1,a6n t f.2]
theorem a4t {A:Around} {s:Shared} {x:V} {v:Value} (rx:RelV x v) (fx:Z4 x=true):∀ {xs:List V} {us:List Value},Vals xs us->xs.all Z4=true->∀ u ∈ us,SeqAt.EqAt A s u v (eqU x u)
 | _,_,.nil,_=>fun u hu=>by cases hu
 | y::xs,u::us,.cons r t,f=>fun u' hu=>by
  rw [all_cons,Bool.and_eq_true] at f
  rcases mem_cons.mp hu with rfl | hu
  . rw [c0w r f.1];exact c6D r rx f.1 fx
  . exact a4t rx fx t f.2 u' hu
noncomputable def inV (x:V) (xs:List V):Bool:=xs.any fun y=>eqV y x
noncomputable def rIn (K:PySem.W.Frag) (neg:Bool):R2:=fun x y H Q=>∃ p xs,y=.ref p/\(SqL K H p xs\/SqT K H p xs)/\Z4 x=true/\xs.all Z4=true/\Q (.bl (if neg then !inV x xs else inV x xs)) H
theorem b9z:OpR X (compareOp .In) (rIn X.K false):=by
 intro pins s σ H x y v u Q I rx ry h
 obtain ⟨p,xs,rfl,hq,fx,fs,q⟩:=h
 cases ry
 rcases hq with hq | hq
 . obtain ⟨its,r,pl,hz⟩:=I.list hq
   refine SeqAt.in_listAt (eqU x) pl.isList (fun w hw=>a4t rx fx r fs w (by simpa using hw)) ⟨.bl _,H,I,rfl,?_⟩
   rw [show its.toArray.any (eqU x)=its.any (eqU x) by simp,a6n r fs]
   exact q
 . obtain ⟨its,r,pl,hz⟩:=I.tuple hq
   refine SeqAt.in_tupleAt (eqU x) pl (fun w hw=>a4t rx fx r fs w (by simpa using hw)) ⟨.bl _,H,I,rfl,?_⟩
   rw [show its.toArray.any (eqU x)=its.any (eqU x) by simp,a6n r fs]
   exact q
theorem b4G:OpR X (compareOp .NotIn) (rIn X.K true):=by
 intro pins s σ H x y v u Q I rx ry h
 obtain ⟨p,xs,rfl,hq,fx,fs,q⟩:=h
 cases ry
 rcases hq with hq | hq
 . obtain ⟨its,r,pl,hz⟩:=I.list hq
   refine SeqAt.notIn_listAt (eqU x) pl.isList (fun w hw=>a4t rx fx r fs w (by simpa using hw)) ⟨.bl _,H,I,rfl,?_⟩
   rw [show its.toArray.any (eqU x)=its.any (eqU x) by simp,a6n r fs]
   exact q
 . obtain ⟨its,r,pl,hz⟩:=I.tuple hq
   refine SeqAt.notIn_tupleAt (eqU x) pl (fun w hw=>a4t rx fx r fs w (by simpa using hw)) ⟨.bl _,H,I,rfl,?_⟩
   rw [show its.toArray.any (eqU x)=its.any (eqU x) by simp,a6n r fs]
   exact q
theorem b4F:OpR X (compareOp .NotIn) (fun x y H Q=>∃ i j,x=.str i/\y=.str j/\Q (.bl (!(!(Builtin.Str.occurrences j i 0 j.length 1).isEmpty))) H):=by
 intro pins s σ H x y v u Q I rx ry h
 obtain ⟨i,j,rfl,rfl,q⟩:=h
 obtain ⟨t,rfl⟩:=rx
 obtain ⟨t',rfl⟩:=ry
 exact notIn_str ⟨.bl _,H,I,rfl,q⟩
theorem b5u:O4 X (.builtin "len") (fun xs H Q=>∃ p ys,xs=[.ref p]/\(SqL X.K H p ys\/SqT X.K H p ys)/\Q (.int ys.length) H):=by
 intro pins s σ H xs us Q I r h
 obtain ⟨p,ys,rfl,hq,q⟩:=h
 obtain ⟨u,rfl,rx⟩:=vals1 r
 cases rx
 have hn:=a4u
 rcases hq with hq | hq
 . obtain ⟨its,r',pl,hz⟩:=I.list hq
   have hlen:=r'.length
   exact Calls.call_len_list pl.isList (by simp only [size_toArray] <;> omega) ⟨.int ys.length,H,I.tok _,⟨s.toks + 1,by rw [size_toArray,hlen]⟩,q⟩
 . obtain ⟨its,r',pl,hz⟩:=I.tuple hq
   have hlen:=r'.length
   exact len_tuple pl (by simp only [size_toArray] <;> omega) ⟨.int ys.length,H,I.tok _,⟨s.toks + 1,by rw [size_toArray,hlen]⟩,q⟩
theorem b5t:O4 X (.builtin "len") (fun xs H Q=>∃ z,xs=[.str z]/\z.length<=sizeLine/\Q (.int z.length) H):=by
 intro pins s σ H xs us Q I r h
 obtain ⟨z,rfl,hz,q⟩:=h
 obtain ⟨u,rfl,t,rfl⟩:=vals1 r
 have hn:=a4u
 exact len_str (by omega) ⟨.int z.length,H,I.tok _,⟨_,rfl⟩,q⟩
theorem O4.or {f:Value} {r r':List V->Hp->VK->Prop} (h:O4 X f r) (h':O4 X f r'):O4 X f (fun xs H Q=>r xs H Q\/r' xs H Q):=by
 intro pins s σ H xs us Q I rs q
 rcases q with q | q
 . exact h pins s σ H xs us Q I rs q
 . exact h' pins s σ H xs us Q I rs q
theorem b5s:O4 X (.type "list") (fun xs H Q=>∃ p ys,xs=[.ref p]/\(SqL X.K H p ys\/SqT X.K H p ys)/\∀ l,H l=none->Q (.ref l) (upd H l (.lst ys))):=by
 intro pins s σ H xs us Q I r h
 obtain ⟨p,ys,rfl,hq,q⟩:=h
 obtain ⟨u,rfl,rx⟩:=vals1 r
 cases rx
 have fin:∀ (its:List Value),Vals ys its->ys.length<=sizeLine->∀ (h':Heap) (c':Nat),(∀ b o',s.heap.get? b=some o'->h'.get? b=some o') ->
   h'.get? s.heap.objs.size=some { cls:=.type "list",dict:=none,data:=.seq its.toArray c',slots:=#[] }->EP X pins σ Q (.ref s.heap.objs.size) { s with heap:=h' }:=fun its r' hz h' c' kp e =>
  ⟨.ref s.heap.objs.size,_,I.laid (t':=s.toks) kp (Nat.le_refl _) (show R0 X.prog X.w _ h' _ (.lst ys) from ⟨hz,its,c',r',e⟩),rfl,q _ (I.hok.fresh (Nat.le_refl _))⟩
 rcases hq with hq | hq
 . obtain ⟨its,r',pl,hz⟩:=I.list hq
   have hlen:=r'.length
   obtain ⟨o,ho,hc,n,hd⟩:=pl.isList
   exact call_list_seq p (.inl rfl) ho hc hd (fun h' c' kp e=>fin its r' hz h' c' kp e) (by simp only [size_toArray] <;> omega)
 . obtain ⟨its,r',pl,hz⟩:=I.tuple hq
   have hlen:=r'.length
   obtain ⟨o,ho,hc,n,hd⟩:=pl
   exact call_list_seq p (.inr rfl) ho hc hd (fun h' c' kp e=>fin its r' hz h' c' kp e) (by simp only [size_toArray] <;> omega)
theorem S7:O4 X (.type "tuple") (fun xs H Q=>∃ p ys,xs=[.ref p]/\((SqL X.K H p ys/\∀ l,H l=none->Q (.ref l) (upd H l (.tup ys)))\/(SqT X.K H p ys/\Q (.ref p) H))):=by
 intro pins s σ H xs us Q I r h
 obtain ⟨p,ys,rfl,h⟩:=h
 obtain ⟨u,rfl,rx⟩:=vals1 r
 cases rx
 rcases h with ⟨hq,q⟩ | ⟨hq,q⟩
 . obtain ⟨its,r',pl,hz⟩:=I.list hq
   have hlen:=r'.length
   refine call_tuple_list pl.isList (fun h' kp=>?_) (by simp only [size_toArray] <;> omega)
   have I1:Inv X pins σ H { s with heap:=h' }:=I.kept (t':=s.toks) kp
   have I2:Inv X pins σ (upd H h'.objs.size (.tup ys)) { s with heap:=h'.push { cls:=.type "tuple",data:=.seq its.toArray } } :=
    I1.laid (t':=s.toks) (fun b o e=>Heap.get?_push_of_some _ e) (Nat.le_refl _) (show R0 X.prog X.w _ _ _ (.tup ys) from ⟨hz,its,r',IsTup.new _ _⟩)
   exact ⟨.ref h'.objs.size,_,I2,rfl,q _ (I1.hok.fresh (Nat.le_refl _))⟩
 . obtain ⟨its,r',pl,hz⟩:=I.tuple hq
   exact call_tuple_same pl ⟨.ref p,H,I,rfl,q⟩
noncomputable def tyV (K:PySem.W.Frag) (T:String) (x:V) (H:Hp):Prop:=match x with
 | .str _=>T = "str"
 | .int _=>T = "int"
 | .ref p=>(T = "list"/\∃ xs,SqL K H p xs)\/(T = "tuple"/\∃ o,K.lookup p=some o/\o.cls=.type "tuple"/\o.dict=none) \/
   (T = "dict"/\((∃ kvs,H p=some (.dK kvs))\/∃ kvs,H p=some (.dT kvs)))\/(T = "set"/\∃ S n,H p=some (.set S n))
 | _=>False
theorem b8O {pins:List (Addr × Obj)} {σ:St} {H:Hp} {s:Shared} {T:String} {x:V} {v:Value} (I:Inv X pins σ H s) (r:RelV x v) (ty:tyV X.K T x H) :
  s.TypeIs v T/\∀ a,v=.ref a->∃ ob,s.heap.get? a=some ob/\ob.dict=none:=by
 cases x with
 | str z =>
  obtain ⟨t,rfl⟩:=r
  cases (show T = "str" from ty)
  exact ⟨typeIs_str s z t,fun _ e=>nomatch e⟩
 | int i =>
  obtain ⟨t,rfl⟩:=r
  cases (show T = "int" from ty)
  exact ⟨typeIs_int s i t,fun _ e=>nomatch e⟩
 | ref p =>
  cases r
  rcases ty with ⟨rfl,xs,hq⟩ | ⟨rfl,o,hk,hc,hd⟩ | ⟨rfl,hk⟩ | ⟨rfl,S,n,hk⟩
  . obtain ⟨its,_,pl,_⟩:=I.list hq
    refine ⟨pl.isList.typeIs,fun a e=>?_⟩
    cases e
    obtain ⟨o,n,e,c,hd,_⟩:=pl
    exact ⟨o,e,hd⟩
  . refine ⟨⟨o,I.kIn p o hk,hc⟩,fun a e=>?_⟩
    cases e
    exact ⟨o,I.kIn _ o hk,hd⟩
  . have z:∃ o,s.heap.get? p=some o/\o.ExactDict:=by
      rcases hk with ⟨kvs,hk⟩ | ⟨kvs,hk⟩
      . obtain ⟨_,_,_,_,o,_,_,e,ex,_⟩:=I.hok p _ hk
        exact ⟨o,e,ex⟩
      . obtain ⟨_,_,_,_,o,_,_,e,ex,_⟩:=I.hok p _ hk
        exact ⟨o,e,ex⟩
    obtain ⟨o,e,ex⟩:=z
    refine ⟨⟨o,e,ex.1⟩,fun a e2=>?_⟩
    cases e2
    exact ⟨o,e,ex.2.1⟩
  . obtain ⟨o,_,_,_,e,ex,_⟩:=I.hok p _ hk
    refine ⟨⟨o,e,ex.1⟩,fun a e2=>?_⟩
    cases e2
    exact ⟨o,e,ex.2.1⟩
 | _=>exact False.elim ty
noncomputable def c1o (K:PySem.W.Frag) (T:String) (r:V->List V->Hp->VK->Prop) (to:TE):TE:=fun σ H Q=>to σ H fun x H1=>tyV K T x H1/\r x [] H1 Q
noncomputable def tBM (K:PySem.W.Frag) (T:String) (r:V->List V->Hp->VK->Prop) (to:TE) (t:TA):TE:=fun σ H Q=>to σ H fun x H1=>tyV K T x H1/\t σ H1 fun xs H2=>r x xs H2 Q
variable {o e:Expr} {es:List Expr} {to:TE} {t:TA} {name:Str} {apos cpos:Pos} {T id:String} {r:V->List V->Hp->VK->Prop}
theorem b9t (pa:PlainAttrs T) (slot:Slot T name id) (hty:typeOf (.builtin id)=pure (.type "method_descriptor")) (hm:MtR X id r) (ho:PE X o to)
  (hbase:attributeBase o name X.env (eval o X.env)=eval o X.env:=by rfl) (hline:(apos.endLine==cpos.line)=true:=by rfl):PE X (.Call (.Attribute o name apos) [] [] cpos) (c1o X.K T r to):=by
 intro pins s σ H Q I h
 refine wpAny_Call_method0_late hbase hline (thn (ho pins s σ H _ I h) fun v s1 ⟨x,H1,I1,r1,ty,q1⟩=>?_)
 obtain ⟨h1,h2⟩:=b8O I1 r1 ty
 exact ⟨T,id,pa,slot,hty,h1,h2,Calls.callWith_builtin rfl (PySem.evalArgs_none (hm pins s1 σ H1 x [] v [] Q I1 r1 .nil q1))⟩
theorem b7z (pa:PlainAttrs T) (slot:Slot T name id) (hty:typeOf (.builtin id)=pure (.type "method_descriptor")) (hm:MtR X id r) (ho:PE X o to) (ha:PA X (e::es) t)
  (hbase:attributeBase o name X.env (eval o X.env)=eval o X.env:=by rfl)
  (hfew:((backTo cpos (starEach (e::es) X.env)).all (fun x=>!x.1)&&(backToKw cpos (keywordEach [] X.env)).all (fun x=>x.1.isSome)
   && decide ((e::es).length + ([]:List Keyword).length + (if ([]:List Keyword).isEmpty then 0 else 1) < 30))=true:=by rfl)
  (hline:(apos.endLine==cpos.line)=true:=by rfl) (hs:starEach (e::es) X.env=(false,eval e X.env)::starEach es X.env:=by rfl) (hplain:(backTo cpos (starEach es X.env)).any (·.1)=false:=by rfl) :
  PE X (.Call (.Attribute o name apos) (e::es) [] cpos) (tBM X.K T r to t):=by
 intro pins s σ H Q I h
 refine wpAny_Call_method_late hbase hfew hline rfl (thn (ho pins s σ H _ I h) fun v s1 ⟨x,H1,I1,r1,ty,q1⟩=>?_)
 obtain ⟨h1,h2⟩:=b8O I1 r1 ty
 refine ⟨T,id,pa,slot,hty,h1,h2,?_⟩
 have hA:=ha cpos pins s1 σ H1 _ I1 q1
 rw [hs] at hA ⊢
 refine Calls.callWith_builtin (by show (false||(backTo cpos (starEach es X.env)).any (·.1))=false;rw [hplain] <;> rfl) (Calls.evalArgs_plain ?_)
 exact thn hA fun us s2 ⟨vs,H2,I2,r2,q2⟩=>hm pins s2 σ H2 x vs v us Q I2 r1 r2 q2
/- xs.append(e),list.index on a module's tuple .. are MtR facts of 06m -/
end
noncomputable def MtM (X:Cx) (id:String) (r:V->List V->Hp->VK->Prop):Prop :=
 ∀ (pins:List (Addr × Obj)) (s:Shared) (σ:St) (H:Hp) (x:V) (xs:List V) (v:Value) (us:List Value) (Q:VK),Inv X pins σ H s->RelV x v->Vals xs us->r x xs H Q ->
  wpAny (model X.prog X.w) X.A (call (.builtin id) (v::us)) (EP X pins σ Q) X.xe s
theorem Vals.one:∀ {x:V} {us:List Value},Vals [x] us->∃ u,us=[u]/\RelV x u
 | _,_,.cons r .nil=>⟨_,rfl,r⟩
theorem Vals.zero:∀ {us:List Value},Vals [] us->us=[]
 | _,.nil=>rfl
theorem Vals.reverse {xs:List V} {us:List Value} (h:Vals xs us):Vals xs.reverse us.reverse:=by
 induction h with
 | nil=>exact .nil
 | cons r t ih=>rw [List.reverse_cons,List.reverse_cons];exact Vals.append ih (.cons r .nil)
section
variable {X:Cx} {pins:List (Addr × Obj)} {σ:St} {H:Hp} {s:Shared} {l b:Addr} {xs ys zs:List V}
theorem Inv.c2e {its its':List Value} {n:Nat} {f:Array Value->Array Value} {t':Nat} (I:Inv X pins σ H s) (hH:H l=some (.lst xs))
  (e:s.heap.get? l=some { cls:=.type "list",data:=.seq its.toArray n }) (hf:f its.toArray=its'.toArray) (hv:Vals ys its') (hz:ys.length<=sizeLine) :
  Inv X pins σ (upd H l (.lst ys)) { s with heap:=s.heap.update l (Obj.mapSeq f),toks:=t' }:=by
 have q:=PySem.IsL.update e f
 rw [hf] at q
 refine I.write (x:=l) (e:=l) (by rw [hH];exact trivial) (.inl rfl) (fun b' u hb hu=>(Heap.get?_update_other s.heap (Obj.mapSeq f) (Ne.symm hb)).trans hu) ⟨_,q⟩ ?_
 exact ⟨hz,its',_,hv,q⟩
theorem Inv.c7N {its:List Value} {t':Nat} (I:Inv X pins σ H s) (hv:Vals ys its) (hz:ys.length<=sizeLine) :
  Inv X pins σ (upd H s.heap.objs.size (.lst ys)) { s with heap:=s.heap.push { cls:=.type "list",data:=.seq its.toArray },toks:=t' } :=
 I.laid (fun _ _ q=>Heap.get?_push_of_some _ q) (Nat.le_refl _) ⟨hz,its,0,hv,Heap.get?_push_size _ rfl⟩
theorem Inv.fresh (I:Inv X pins σ H s):H s.heap.objs.size=none:=I.hok.fresh (Nat.le_refl _)
theorem Inv.c2d (I:Inv X pins σ H s) (hH:H l=some (.lst xs)):xs.length<=sizeLine/\∃ (its:List Value) (n:Nat),Vals xs its/\xs.length=its.length/\s.heap.get? l=some { cls:=.type "list",data:=.seq its.toArray n }:=by
 obtain ⟨z,its,n,r,e⟩:=I.hok l _ hH
 exact ⟨z,its,n,r,r.length,e⟩
end
section
variable {X:Cx}
noncomputable def b6y:V->List V->Hp->VK->Prop:=fun x vs H Q=>∃ l xs y,x=.ref l/\vs=[y]/\H l=some (.lst xs)/\xs.length < sizeLine/\Q .non (upd H l (.lst (xs++[y])))
theorem b9U:MtM X "list.append" b6y:=by
 intro pins s σ H x vs v us Q I rx rv h
 obtain ⟨l,xs,y,rfl,rfl,hH,hz,q⟩:=h
 cases rx
 obtain ⟨u,rfl,ru⟩:=rv.one
 obtain ⟨z,its,n,r,hl,e⟩:=I.c2d hH
 refine call_meets F.slot_list_append ⟨_,e,rfl⟩ F.entry_list_append (F.args_list_append_2 _ _) (PySem.list_append l its.toArray n u (by rw [size_toArray];omega)) ⟨e,?_⟩
 refine ⟨.non,_,I.c2e (its':=its++[u]) hH e (by simp) (r.append (.cons ru .nil)) ?_,rfl,q⟩
 rw [length_append,length_singleton]
 omega
noncomputable def b4z:V->List V->Hp->VK->Prop:=fun x vs H Q=>∃ l xs,x=.ref l/\vs=[]/\H l=some (.lst xs)/\Q .non (upd H l (.lst xs.reverse))
theorem b7S:MtM X "list.reverse" b4z:=by
 intro pins s σ H x vs v us Q I rx rv h
 obtain ⟨l,xs,rfl,rfl,hH,q⟩:=h
 cases rx
 have hus:=rv.zero
 subst hus
 obtain ⟨z,its,n,r,hl,e⟩:=I.c2d hH
 refine call_meets F.slot_list_reverse ⟨_,e,rfl⟩ F.entry_list_reverse (F.args_list_reverse_1 _) (AutoSeq1.list_reverse_list_0 l its.toArray n (by rw [size_toArray];omega)) ⟨e,?_⟩
 refine ⟨.non,_,I.c2e (its':=its.reverse) hH e (by simp) r.reverse ?_,rfl,q⟩
 rw [List.length_reverse]
 omega
end
section
variable {prog:Program} {w:World} {A:Around} {E:Value->Shared->Prop} {s:Shared}
end
section
variable {X:Cx}
end
end L2
namespace Att
open PySem PySem.W PySem.Calls PyProof.Rows
theorem b1N {P:Params} {h:Heap}:∀ (ns:List Int) (vs:List Value),WellAll P h vs (ns.map WData.int)->IntsAre vs ns:=by
 intro ns
 induction ns with
 | nil =>
  intro vs w
  rw [map_nil] at w
  cases w
  exact .nil
 | cons n ns ih =>
  intro vs w
  rw [map_cons] at w
  cases w with
  | cons a b =>
   cases a
   exact .cons _ _ (ih _ b)
theorem b8X {l:OpenLaw} {n:Nat} (hn:l.most=some n) {P:Params} {h:Heap} {args:List WData} {vals:List Value}
  (hpre:l.row.toRowW.claim.pre args=true) (hwl:WellAll P h vals args) :
  ∃ a vs ns,vals=[Value.ref a]/\args=[WData.list (ns.map WData.int)]/\h.get? a=some { cls:=.type "list",data:=.seq vs.toArray }/\IntsAre vs ns/\ns.length<=n:=by
 have hsh:WShape.hasAll [] args [.list .int]=true:=(pre_splitW hpre).1
 have hc:l.pre.holds [] { args:=args }=true:=(pre_splitW hpre).2
 obtain ⟨d,r,rfl,h1,h2⟩:=hasAllW_cons hsh
 obtain rfl:=hasAllW_nil h2
 obtain ⟨xs,rfl,h3⟩:=hasW_list h1
 obtain ⟨ns,rfl⟩:=items_int h3
 have hlen:ns.length<=n:=by
  unfold OpenLaw.pre at hc
  have h4:(WTm.not (.lt (.lit (.int (n:Int))) (.len (.arg 0)))).holds [] { args:=[.list (ns.map .int)] }=true:=by
   have h4:=(holds_andW hc).1
   rw [hn] at h4
   exact h4
  have h5:=condW_of h4 (w_not (w_lt w_lit (w_len_list (w_arg rfl))))
  rw [length_map] at h5
  refine Nat.le_of_not_lt fun q=>?_
  have q':(n:Int) < ((ns.length:Nat):Int):=by omega
  first
   | (rw [decide_eq_true q'] at h5;exact absurd h5 (by decide))
   | (simp at h5;omega)
 cases hwl with
 | cons w1 w2 =>
  cases w2
  cases w1 with
  | list ho hall=>exact ⟨_,_,ns,rfl,rfl,ho,b1N ns _ hall,hlen⟩
theorem b9p (l:OpenLaw) (args:List WData):l.row.toRowW.claim.post args (.bool true) args=true :=
 postW_of (r:=l.row.toRowW) (X:=(true==true))
  (show WShape.has [] (.bool true) .bool=true by first | rfl | decide | simp [WShape.has,WShape.arms,WShape.armsAll])
  (show (WTm.eq .res (.lit (.bool true))).value [] { args:=args,res:=some (.bool true),after:=args }=some (.bool (true==true)) from w_eq_bool (w_res rfl) w_lit) rfl
theorem b6i {l:OpenLaw} {n:Nat} {q:Program} {loose:List Str} {XP:(Str->Option Value)->Heap->Prop} {YP:World->Heap->Prop} {d:DefRec}
  (hn:l.most=some n) (hdf:d.params.defaults=[])
  (call:∀ (w:World) (L5 s₁:Shared) (mg mb:Str->Option Value) (fa:Addr) (o:Obj) (pm cd doc:Value) (a:Addr) (vs:List Value) (ns:List Int),
   Ground q loose [] XP w L5 mg mb s₁.heap->YP w s₁.heap ->
   s₁.heap.get? fa=some o->o.data=.func (docDef d.name d.params d.body d.scope pm cd doc)->s₁.heap.CodeRec cd d.name->mg d.name=some (.ref fa) ->
   s₁.heap.get? a=some { cls:=.type "list",data:=.seq vs.toArray }->IntsAre vs ns->ns.length<=n->s₁.gens = #[] ->
   codeAny (model l.prog w) callerA (.call (.ref fa) ⟨[.ref a],[]⟩) (fun r s'=>r=.ok (.ret (.bool true))/\OldK s₁.heap s'.heap/\s'.os=s₁.os/\AllBare s'.gens) s₁) :
  WalkO q loose XP YP l.row.toRowW d [] (fun f vs=>PySem.call f vs):=by
 intro w L5 s₁ mg mb G Y fa o pm cd doc dV kV ho hd hcd hD hmg hg args vals as hpre hlay hrd hwl hlo
 obtain rfl:dV=.none:=Dflts.none hD hdf
 obtain rfl:kV=.none:=Dflts.noKw hD
 obtain ⟨a,vs,ns,rfl,rfl,hobj,hints,hlen⟩:=b8X hn hpre hwl
 refine enter_call (codeAny_mono (call w L5 s₁ mg mb fa o pm cd doc a vs ns G Y ho (fd_plain hd) hcd hmg hobj hints hlen hg) fun r s' hq=>?_)
 obtain ⟨rfl,h2,h3,h4⟩:=hq
 exact ⟨.inl ⟨.bool true,.bool true,[],rfl,fun _=>rfl,.bool true,b9p l _,fun _=>⟨List.Pairwise.nil,fun _ hm=>(nomatch hm)⟩⟩,h2,h3,h4⟩
section
variable {prog:Program} {w:World} {A:Around} {E:Value->Shared->Prop} {s:Shared} {K:Frag}
end
end Att
namespace L2
open PySem PySem.Spec PyProof.Rows
theorem b2Q:∀ {vs:List Value} {ns:List Int},IntsAre vs ns->Vals (ns.map V.int) vs
 | _,_,.nil=>.nil
 | _,_,.cons n t h=>.cons ⟨t,rfl⟩ (b2Q h)
noncomputable def c2L (H:Hp):Prop:=∀ b,H b=none\/∃ o xs,H b=some (.frz o (.lst xs))
theorem c2j {P:Program} {w:World} {K:PySem.W.Frag} {mg mb:Str->Option Value} {CX:CXT} {k:Nat} {fa a:Addr} {fd:FuncData} {x:Str} {sp:Sp} {s₁:Shared} {vs:List Value} {ns:List Int}
  (KX:K.In s₁.heap) (hns:s₁.heap.Ns mainGlobals mg) (hb:s₁.heap.Ns builtinsNs mb) (hbb:∀ x:Str,x ≠ "__name__"->mb x=bootBuiltins x) (hlim:s₁.heap.NoLimit) (hg:s₁.gens = #[])
  (ha:s₁.heap.get? a=some { cls:=.type "list",data:=.seq vs.toArray }) (hi:IntsAre vs ns) (hl:ns.length<=sizeLine) (hr:M7 k callerA)
  (F:∀ base:Heap,K.In base->base.Ns mainGlobals mg->m6 P w K mg base CX k fa fd [x] sp) (hbind:∀ (s:Shared) (u:Value),BindsTo s fd ⟨[u],[]⟩ [(x,u)])
  (hsp:∀ H:Hp,c2L H->SqL K H a (ns.map V.int)->sp [.ref a] H (fun v _=>v=.bl true) fun _ _ _=>False)
  (hCX:∀ H e s',CX [] H s₁ (fun _ _ _=>False) e s'->False) :
  codeAny (model P w) callerA (.call (.ref fa) ⟨[.ref a],[]⟩) (fun r s'=>r=.ok (.ret (.bool true))/\OldK s₁.heap s'.heap/\s'.os=s₁.os/\AllBare s'.gens) s₁:=by
 have rv:=b2Q hi
 have lenV:=hi.length
 have core:∀ H:Hp,c2L H->SqL K H a (ns.map V.int)->HOk P w H s₁.heap->(∀ b,H b ≠ none->b=a)->(H a ≠ none->K.lookup a=none) ->
   codeAny (model P w) callerA (.call (.ref fa) ⟨[.ref a],[]⟩) (fun r s'=>r=.ok (.ret (.bool true))/\OldK s₁.heap s'.heap/\s'.os=s₁.os/\AllBare s'.gens) s₁:=by
  intro H hO hS hok hA hK
  have base_of:∀ {b:Addr} {o:Obj},s₁.heap.get? b=some o->H b=none->(a6W s₁.heap H).get? b=some o:=fun e n=>c2o e n
  have noA:∀ {b:Addr} {o:Obj} {es:Array DictEntry} {ep:Nat},s₁.heap.get? b=some o->o.data=.dict es ep->H b=none:=fun {b o es ep} e d=>by
   cases q:H b with
   | none=>rfl
   | some u =>
    have e':b=a:=hA b (by rw [q];simp)
    subst e'
    rw [ha] at e;cases e
    have d':Data.seq vs.toArray _=Data.dict es ep:=d
    cases d'
  have nsK:∀ {b:Addr} {m:Str->Option Value},s₁.heap.Ns b m->(a6W s₁.heap H).Ns b m:=fun {b m} ⟨o,es,ep,e,d,r⟩=>⟨o,es,ep,base_of e (noA e d),d,r⟩
  have hKb:K.In (a6W s₁.heap H):=fun b o e=>base_of (KX b o e) (by
   cases q:H b with
   | none=>rfl
   | some u =>
    have e':b=a:=hA b (by rw [q];simp)
    subst e'
    rw [hK (by rw [q];simp)] at e;cases e)
  have hM:Mod K mg (a6W s₁.heap H):=⟨hKb,nsK hns,⟨mb,nsK hb,hbb⟩,let ⟨mc,h1,h2⟩:=hlim;⟨mc,nsK h1,h2⟩⟩
  have e0:b1f P w K mg (a6W s₁.heap H) callerA [] s₁ H:=⟨rfl,hM,fun b o e=>c4k e,Nat.le_of_eq (c0s _ _),trivial,fun b hb=>absurd (show b ∈ ([]:List Addr) from hb) (by simp),hok,.of_eq hg⟩
  refine codeAny_mono ((F _ hKb (nsK hns)).run callerA [] s₁ H ⟨[.ref a],[]⟩ [.ref a] [.ref a] _ _ hr e0 (hbind s₁ (.ref a)) (.cons rfl .nil) (hsp H hO hS)) fun r s' h=>?_
  cases r with
  | error e=>exact (hCX H e s' h).elim
  | ok fl =>
   cases fl with
   | next=>exact False.elim h
   | brk=>exact False.elim h
   | cont=>exact False.elim h
   | ret u =>
    obtain ⟨v,H',os,bare,un,hok',r',q⟩:=h
    have q':v=.bl true:=q
    subst q'
    obtain rfl:u=Value.bool true:=r'
    refine ⟨rfl,OldK.of_keep fun b o e=>?_,os,bare⟩
    cases q:H b with
    | none=>exact un.keep b o e q (by intro z;exact absurd (show b ∈ ([]:List Addr) from z) (by simp)) (by simp)
    | some u =>
     rcases hO b with z | ⟨ob,xs,z⟩
     . rw [q] at z;cases z
     . have z2:=un.a5x b ob _ z
       obtain ⟨e1,_⟩:=hok b _ z
       obtain ⟨e2,_⟩:=hok' b _ z2
       rw [e] at e1;cases e1
       exact e2
 cases hk:K.lookup a with
 | some o =>
  have e:=KX a o hk
  rw [ha] at e
  cases e
  refine core (fun _=>none) (fun _=>.inl rfl) (.inr ⟨_,vs.toArray,_,hk,rfl,rfl,rfl,by rw [size_toArray,lenV];exact hl,by simpa using rv⟩) (fun b u z=>by have z':(none:Option HO)=some u:=z;cases z') (fun b z=>absurd rfl z) fun z=>absurd rfl z
 | none =>
  refine core (fun b=>if b=a then some (.frz { cls:=.type "list",data:=.seq vs.toArray } (.lst (ns.map V.int))) else none) (fun b=>?_) (.inl (.inr ⟨{ cls:=.type "list",data:=.seq vs.toArray },if_pos rfl⟩)) (fun b u z=>?_) (fun b z=>?_) fun _=>hk
  . by_cases hb:b=a
    . exact .inr ⟨_,_,if_pos hb⟩
    . exact .inl (if_neg hb)
  . by_cases hb:b=a
    . have z':=(if_pos hb).symm.trans z
      cases z'
      subst hb
      exact ⟨ha,by rw [length_map];exact hl,vs,_,rv,ha⟩
    . have z':=(if_neg hb).symm.trans z
      cases z'
  . by_cases hb:b=a
    . exact hb
    . exact absurd (if_neg hb) z
noncomputable abbrev KOf {K:PySem.W.Frag} {h:Heap} (_:K.In h):PySem.W.Frag:=K
theorem b6o {l:PySem.W.OpenLaw} {n k:Nat} {q:Program} {loose:List Str} {XP:(Str->Option Value)->Heap->Prop} {YP:World->Heap->Prop} {d:DefRec} {K:Params->PySem.W.Frag} {CX:World->CXT} {sp:World->Sp} {x:Str}
  (hn:l.most=some n) (hn2:n<=sizeLine) (hdf:d.params.defaults=[]) (hr:M7 k callerA)
  (hY:∀ (w:World) (h:Heap),YP w h->(K w.params).In h)
  (F:∀ (w:World) (mg:Str->Option Value) (fa:Addr) (h:Heap),(K w.params).In h->h.Ns mainGlobals mg->mg d.name=some (.ref fa) ->
   ∃ fd:FuncData,(∀ (s:Shared) (u:Value),BindsTo s fd ⟨[u],[]⟩ [(x,u)]) /\
    ∀ base:Heap,(K w.params).In base->base.Ns mainGlobals mg->m6 l.prog w (K w.params) mg base (CX w) k fa fd [x] (sp w))
  (hsp:∀ (w:World) (H:Hp) (a:Addr) (ns:List Int),ns.length<=n->c2L H->SqL (K w.params) H a (ns.map V.int)->sp w [.ref a] H (fun v _=>v=.bl true) fun _ _ _=>False)
  (hCX:∀ (w:World) (H:Hp) (s:Shared) (e:Value) (s':Shared),CX w [] H s (fun _ _ _=>False) e s'->False) :
  PySem.W.WalkO q loose XP YP l.row.toRowW d [] (fun f vs=>PySem.call f vs):=by
 refine Att.b6i hn hdf fun w L5 s₁ mg mb fa o pm cd doc a vs ns G Y ho hd hcd hmg hobj hints hlen hg=>?_
 have KX:=hY w _ Y
 obtain ⟨fd,hb,hF⟩:=F w mg fa _ KX G.T.g hmg
 exact c2j KX G.T.g G.T.b G.T.builtins G.T.nolimit hg hobj hints (Nat.le_trans hlen hn2) hr hF hb (fun H hO hS=>hsp w H a ns hlen hO hS) fun H e s'=>hCX w H s₁ e s'
end L2
/- THE LAST THEOREM (shape; LID, My.* are yours):
   My.Adr: a structure of the addresses that your layer names (classes,functions);My.Txt K t: a structure (Prop) of the equations over K;
   My.txt_mk:{K} {implicit addresses ..} (e1:nsIn K mainGlobals "law" = some (some (.ref f))) (e2:K.lookup f=some ⟨oc,od,.func (fnOf "law" "law" params body scope dV kV doc pm an cdv ct),sl⟩) (e3:codeIn K cdv "law" = true) .. : ∃ t,My.Txt K t
set_option maxRecDepth 100000 in
set_option maxHeartbeats 0 in
theorem PySem.Challenge.cw_LID_holds : PySem.Challenge.rw_LID.Holds := by
 w_on;o_law;k_head;(case hw=>w_witness2)
 k_fill
 refine L2.b6o (l:=PySem.Challenge.rw_LID) (n:=63) (k:=40) (x:="script") (CX:=fun w=>..) (sp:=fun _=>My.sp_law) rfl (by decide) rfl ⟨rfl,by decide,by decide⟩ (fun w h Y=>PySem.W.kIn_of Y) ?F ?S ?C
 case F =>
  intro w mg fa h KX G hmg
  have T:∃ t,My.Txt (L2.KOf KX) t:=by
   dsimp only [L2.KOf]                          -- K must stand as «<heap const> w.params» for k_is
   refine' My.txt_mk ?e1 ?e2 ?e3 ..
   (case e1=>PySem.W.k_is)                    -- in the order: a name->its address->its object->its parts
   (case e2=>PySem.W.k_is)
   ..
  obtain ⟨t,T⟩:=T
  have e0:=hmg.symm.trans (PySem.W.mg_of KX G T.law)
  cases e0                                       -- fa is the law's own address
  exact ⟨_,fun s u=>.of_eq rfl,fun base kb nb=>My.law_fn T kb nb⟩     -- if «.of_eq rfl» comes too early: refine' ⟨_,?b,fun base kb nb=>My.law_fn T kb nb⟩;exact fun s u=>.of_eq rfl
 case S=>exact fun w H a ns hl hO hS=>..
 case C=>exact ..
(the tactic k_is has no namespace: write k_is) -/
namespace L2
open PySem PySem.Spec PyProof.Rows
noncomputable def inClass (s:Stmt) (j:Nat):Stmt:=match s with
 | .ClassDef _ _ _ body _ _ _ _ _ _ _=>body.getD j (.Pass ⟨0,0,0,0⟩)
 | _=>.Pass ⟨0,0,0,0⟩
noncomputable def j5 (s:Stmt):Arguments:=match s with
 | .FunctionDef _ a _ _ _ _ _ _ _ _=>a
 | _=>{ posonlyargs:=[],args:=[],vararg:=none,kwonlyargs:=[],kw_defaults:=[],kwarg:=none,defaults:=[] }
noncomputable def j3 (s:Stmt):List Stmt:=match s with
 | .FunctionDef _ _ b _ _ _ _ _ _ _=>b
 | _=>[]
noncomputable def e9 (s:Stmt):Scope:=match s with
 | .FunctionDef _ _ _ _ _ _ sc _ _ _=>sc
 | _=>{ kind:=.function,names:=[],isGenerator:=false,isCoroutine:=false }
noncomputable abbrev CX0:CXT:=fun _ _ _ _ _ _=>False
noncomputable abbrev E0:XK:=fun _ _ _=>False
theorem j9 {X:Cx}:Passes CX0 X E0:=fun _ _ _ _ _ _ _ h=>h.elim
structure Fun (K:PySem.W.Frag) (x qual:Str) (st:Stmt) (f:Addr) (fd:FuncData):Prop where
 ex:∃ (oc:Value) (od:Option Addr) (kV doc pm:Value) (an:Option Addr) (cdv ct:Value) (osl:Array (Option Value)),
  fd=PySem.W.fnOf x qual (j5 st) (j3 st) (e9 st) .none kV doc pm an cdv ct/\K.lookup f=some ⟨oc,od,.func fd,osl⟩/\PySem.W.codeIn K cdv qual=true
 kp:PySem.W.keepIn K (.ref f)=true
section
variable {P:Program} {w:World} {K:PySem.W.Frag} {mg:Str->Option Value} {base:Heap}
theorem Fun.ok {x qual:Str} {st:Stmt} {f:Addr} {fd:FuncData} {N ps:List Str} {k:Nat} {sp:Sp} (F:Fun K x qual st f fd) (S:o9 N ps (e9 st)) (len:∀ vs H Q E,sp vs H Q E->vs.length=ps.length)
  (hbody:∀ (cdv:Value) (A:Around) (outer:List Env) (s:Shared) (H:Hp) (vs:List V) (Q:VK) (E:XK),M7 k (A.deeper (envOfC qual (e9 st) s.heap.objs.size f cdv))->sp vs H Q E ->
   ∃ t,PSs (a5I CX0 P w K mg base N qual (e9 st) f cdv A outer s H E).nox (j3 st) t/\t { nx:=fun _ H'=>Q .non H',rt:=Q } (start N vs) H):m6 P w K mg base CX0 (k + 1) f fd ps sp:=by
 obtain ⟨oc,od,kV,doc,pm,an,cdv,ct,osl,rfl,lk,hcd⟩:=F.ex
 refine c3o lk hcd S len fun A outer s H vs Q E hr hsp=>?_
 obtain ⟨t,h,q⟩:=hbody cdv A outer s H vs Q E hr hsp
 exact ⟨t,h.nox,q⟩
theorem Fun.binds {x qual:Str} {st:Stmt} {f:Addr} {fd:FuncData} {ps:List Str} (F:Fun K x qual st f fd)
  (h:∀ (kV doc pm:Value) (an:Option Addr) (cdv ct:Value) (us:List Value),us.length=ps.length->bindArgs (PySem.W.fnOf x qual (j5 st) (j3 st) (e9 st) .none kV doc pm an cdv ct) ⟨us,[]⟩=pure (ps.zip us)):Binds K fd ps []:=by
 obtain ⟨oc,od,kV,doc,pm,an,cdv,ct,osl,rfl,lk,hcd⟩:=F.ex
 exact .all (h kV doc pm an cdv ct)
theorem x9 {x qual:Str} {st:Stmt} {f:Addr} {oc:Value} {od an:Option Addr} {osl:Array (Option Value)} {kV doc pm cdv ct:Value} (l:K.lookup f=some ⟨oc,od,.func (PySem.W.fnOf x qual (j5 st) (j3 st) (e9 st) .none kV doc pm an cdv ct),osl⟩)
  (c:PySem.W.codeIn K cdv qual=true) (k:PySem.W.keepIn K (.ref f)=true):Fun K x qual st f (PySem.W.fnOf x qual (j5 st) (j3 st) (e9 st) .none kV doc pm an cdv ct):=⟨⟨oc,od,kV,doc,pm,an,cdv,ct,osl,rfl,l,c⟩,k⟩
end
section
variable {X:Cx}
theorem pv (i:Nat) {x:Str} {pos:Pos} (hN:X.N[i]? = some x:=by rfl) (hv:Vis X.env.scope x:=by first | exact Or.inl rfl | exact Or.inr (Or.inl rfl) | exact Or.inr (Or.inr rfl)) (hd:(x==("__debug__" : Str))=false:=by decide)
  (hcd:(x==("__classdict__" : Str))=false:=by decide):PE X (.Name x pos) (Z5 i):=c5K hN hv hd hcd
end
noncomputable def j4 (H H':Hp):Prop:=∀ b o,H b=some o->H' b=some o
theorem j4.refl (H:Hp):j4 H H:=fun _ _ h=>h
theorem j4.trans {H H1 H2:Hp} (a:j4 H H1) (b:j4 H1 H2):j4 H H2:=fun c o h=>b c o (a c o h)
theorem j4.free {H H':Hp} (e:j4 H H') {l:Addr} (h:H' l=Option.none):H l=Option.none:=by
 cases q:H l with
 | none=>rfl
 | some o =>
  rw [e l o q] at h
  cases h
theorem j4.seq {K:PySem.W.Frag} {H H':Hp} {a:Addr} {xs:List V} (e:j4 H H') (h:SqL K H a xs):SqL K H' a xs:=by
 rcases h with (h | ⟨o,h⟩) | h
 . exact .inl (.inl (e _ _ h))
 . exact .inl (.inr ⟨o,e _ _ h⟩)
 . exact .inr h
theorem a7q (env:Env):∀ (names:List (Str × NameKind)) (acc:List (Str × Addr)),(∀ y ∈ names,y.2=.free->∃ c,env.cells.lookup y.1=some c)->(∀ x c,acc.lookup x=some c->env.cells.lookup x=some c) ->
  ∃ cl,(forIn names acc fun y (cs:List (Str × Addr))=>if (y.2==.free)=true then (do let c <- cellOf env y.1;pure (ForInStep.yield ((y.1,c)::cs))) else pure (ForInStep.yield cs):Sem (List (Str × Addr)))=pure cl /\
   (∀ x c,cl.lookup x=some c->env.cells.lookup x=some c)/\(∀ y ∈ names,y.2=.free->(cl.lookup y.1).isSome=true)/\(∀ x,(acc.lookup x).isSome=true->(cl.lookup x).isSome=true)
 | [],acc,_,ha=>⟨acc,by simp only [List.forIn_nil],ha,(fun _ h=>nomatch h),(fun _ h=>h)⟩
 | (n,k)::r,acc,h,ha=>by
  have hr:∀ y ∈ r,y.2=.free->∃ c,env.cells.lookup y.1=some c:=fun y hy=>h y (mem_cons_of_mem _ hy)
  by_cases hk:k=.free
  . subst hk
    obtain ⟨c,hc⟩:=h (n,.free) mem_cons_self rfl
    have ha':∀ x c',((n,c)::acc).lookup x=some c'->env.cells.lookup x=some c':=fun x c' e=>by
     rw [List.lookup_cons] at e
     cases hx:x==n with
     | true =>
      rw [hx] at e
      cases e
      rw [eq_of_beq hx]
      exact hc
     | false =>
      rw [hx] at e
      exact ha x c' e
    obtain ⟨cl,e1,e2,e3,e4⟩:=a7q env r ((n,c)::acc) hr ha'
    have up:∀ x,(((n,c)::acc).lookup x).isSome=true->(cl.lookup x).isSome=true:=e4
    refine ⟨cl,?_,e2,fun y hy hf=>?_,fun x hx=>up x ?_⟩
    . rw [forIn_cons]
      have ec:cellOf env n=pure c:=by unfold cellOf;rw [hc]
      simp only [beq_self_eq_true,if_true,ec]
      exact e1
    . rcases mem_cons.mp hy with rfl | hy
      . exact up n (by rw [List.lookup_cons];simp)
      . exact e3 y hy hf
    . rw [List.lookup_cons]
      cases x==n <;> simp [hx]
  . obtain ⟨cl,e1,e2,e3,e4⟩:=a7q env r acc hr ha
    refine ⟨cl,?_,e2,fun y hy hf=>?_,e4⟩
    . rw [forIn_cons]
      have hb:(k==NameKind.free)=false:=by simpa using hk
      simp only [hb,Bool.false_eq_true,if_false]
      exact e1
    . rcases mem_cons.mp hy with rfl | hy
      . exact absurd hf hk
      . exact e3 y hy hf
theorem b8n {scope:Scope} {env:Env} (h:∀ y ∈ scope.names,y.2=.free->∃ c,env.cells.lookup y.1=some c) :
  ∃ cl,closureFor scope env=pure cl/\(∀ x c,cl.lookup x=some c->env.cells.lookup x=some c)/\(∀ y ∈ scope.names,y.2=.free->(cl.lookup y.1).isSome=true):=by
 obtain ⟨cl,e1,e2,e3,_⟩:=a7q env scope.names [] h (fun x c e=>by simp at e)
 refine ⟨cl,?_,e2,e3⟩
 show ((forIn scope.names [] fun y (cs:List (Str × Addr))=>if (y.2==.free)=true then (do let c <- cellOf env y.1;pure (ForInStep.yield ((y.1,c)::cs))) else pure (ForInStep.yield cs):Sem (List (Str × Addr))) >>= pure)=_
 rw [e1]
 rfl
theorem a4q {env:Env}:∀ {names:List (Str × NameKind)} {x:Str},(∀ y ∈ names,y.2 ≠ .cell) ->
  ((names.map fun (n,k)=>if (k==NameKind.free&&env.scope.kind==.function&&env.kindOf n==some .cell) then (n,NameKind.cell) else (n,k)).lookup x=some .cell \/
   (names.map fun (n,k)=>if (k==NameKind.free&&env.scope.kind==.function&&env.kindOf n==some .cell) then (n,NameKind.cell) else (n,k)).lookup x=some .free) ->
  (x,NameKind.free) ∈ names
 | [],_,_,h=>by simp at h
 | (n,k)::r,x,hc,h=>by
  have ih:=@a4q env r x (fun y hy=>hc y (mem_cons_of_mem _ hy))
  have hk:=hc (n,k) mem_cons_self
  by_cases hx:(x==n)=true
  . have e:x=n:=eq_of_beq hx
    subst e
    by_cases hf:k=.free
    . subst hf;exact mem_cons_self
    . exfalso
      have hb:(k==NameKind.free)=false:=by simpa using hf
      simp only [map_cons,hb,Bool.false_and,Bool.false_eq_true,if_false,List.lookup_cons,beq_self_eq_true] at h
      rcases h with h | h
      . exact hk (Option.some.inj h)
      . exact hf (Option.some.inj h)
  . have hx':(x==n)=false:=by simpa using hx
    refine mem_cons_of_mem _ (ih ?_)
    rw [map_cons] at h
    have hd:∀ (k':NameKind) (l:List (Str × NameKind)),List.lookup x ((n,k')::l)=List.lookup x l:=fun k' l=>by rw [List.lookup_cons,hx']
    by_cases hc2:(k==NameKind.free&&env.scope.kind==.function&&env.kindOf n==some .cell)=true
    . have e:(if (k==NameKind.free&&env.scope.kind==.function&&env.kindOf n==some .cell)=true then (n,NameKind.cell) else (n,k))=(n,NameKind.cell):=if_pos hc2
      simp only [e,hd] at h
      exact h
    . have e:(if (k==NameKind.free&&env.scope.kind==.function&&env.kindOf n==some .cell)=true then (n,NameKind.cell) else (n,k))=(n,k):=if_neg hc2
      simp only [e,hd] at h
      exact h
noncomputable def blk (X:Cx) (bs nb:List Str) (scope:Scope) (cl:List (Str × Addr)) (C:Addr) (fp:List Addr) (s:Shared) (H:Hp) (pins:List (Addr × Obj)):Cx where
 prog:=X.prog
 w:=X.w
 K:=X.K
 mg:=X.mg
 base:=X.base
 A:=X.A
 N:=bs++nb
 L5:=s
 i4:=H
 env:=compEnvC scope cl C X.env
 outer:=X.stack
 stack:=X.stack
 ex:=fp
 fn:=fun _=>false
 calm:=X.calm
 pn:=X.pn++pins
 xe:=fun _ _=>False
structure a4b (X:Cx) (bs nb:List Str) (scope:Scope):Prop where
 kind:scope.kind=.function
 b4N:∀ y ∈ scope.names,y.2 ≠ .cell
 names:∀ y ∈ scope.names,y.2=.local->scope.names.lookup y.1=some .local
 vis:∀ y ∈ scope.names,y.2=.free->X.env.scope.names.lookup y.1=some .cell\/X.env.scope.names.lookup y.1=some .free
 apart:∀ x ∈ nb,∀ y ∈ scope.names,y.1=x->y.2 ≠ .local
 len:nb.length=X.N.length
 nms:∀ (j:Nat) (x:Str),nb[j]? = some x->X.N[j]? = some x\/∀ y ∈ scope.names,y.1 ≠ x
noncomputable def c0I (N nb:List Str) (fsc sc:Scope):Bool :=
 (decide (nb.length=N.length)&&(nb.zip N).all fun p=>decide (p.1=p.2)||sc.names.all fun y=>!decide (y.1=p.1))&&((decide (sc.kind=.function)&&sc.names.all fun y=>!decide (y.2=.cell))&&(sc.names.all fun y=>!decide (y.2=.local)||decide (sc.names.lookup y.1=some .local)) &&
  (sc.names.all fun y=>!decide (y.2=.free)||(decide (fsc.names.lookup y.1=some .cell)||decide (fsc.names.lookup y.1=some .free)))&&nb.all fun x=>sc.names.all fun y=>!decide (y.1=x)||!decide (y.2=.local))
theorem a1s {X:Cx} {bs nb:List Str} {scope:Scope} (h:c0I X.N nb X.env.scope scope=true):a4b X bs nb scope:=by
 unfold c0I at h
 simp only [Bool.and_eq_true,all_eq_true,Bool.or_eq_true,Bool.not_eq_true',decide_eq_true_eq,decide_eq_false_iff_not] at h
 obtain ⟨⟨h6,h7⟩,⟨⟨⟨h1,h2⟩,h3⟩,h4⟩,h5⟩:=h
 refine ⟨h1,h2,fun y hy e=>?_,fun y hy e=>?_,fun x hx y hy e1 e2=>?_,h6,fun j x hj=>?_⟩
 . rcases h3 y hy with q | q
   . exact absurd e q
   . exact q
 . rcases h4 y hy with q | q
   . exact absurd e q
   . exact q
 . rcases h5 x hx y hy with q | q
   . exact q e1
   . exact q e2
 . have hl:j < nb.length:=(List.getElem?_eq_some_iff.mp hj).1
   have hN:X.N[j]? = some (X.N[j]'(by omega)):=List.getElem?_eq_getElem _
   have hz:(nb.zip X.N)[j]? = some (x,X.N[j]'(by omega)):=List.getElem?_zip_eq_some.mpr ⟨hj,hN⟩
   rcases h7 _ (List.mem_of_getElem? hz) with q | q
   . left;rw [hN];exact congrArg some q.symm
   . right;exact q
section
variable {X:Cx} {bs nb:List Str} {scope:Scope} {cl:List (Str × Addr)} {C:Addr} {fp:List Addr} {pins:List (Addr × Obj)} {σ:St} {H:Hp} {s:Shared}
theorem c6K (I:Inv X pins σ H s) (B:a4b X bs nb scope) (c1:∀ x c,cl.lookup x=some c->X.env.cells.lookup x=some c) (c2:∀ y ∈ scope.names,y.2=.free->(cl.lookup y.1).isSome=true)
  (hC:s.heap.objs.size<=C) (hf:∀ b ∈ fp,a3P X pins H b) (hlt:∀ b ∈ fp,b < s.heap.objs.size):(blk X bs nb scope cl C fp s H pins).Ok where
 mod:=I.ok.mod
 kind:=B.kind
 glob:=I.ok.glob
 blt:=I.ok.blt
 above:=hC
 inj:=fun x y c h1 h2=>I.ok.inj x y c (c1 x c h1) (c1 y c h2)
 has:=fun x hx=>by
  have hm:=a4q (env:=X.env) B.b4N hx
  exact Option.isSome_iff_exists.mp (c2 (x,.free) hm rfl)
 cab:=fun x c h=>absurd h (by intro z;cases z)
 hd:=I.ok.hd
 frames:=I.ok.frames
 stk:=.inl rfl
 exf:=fun b hb=>⟨Nat.ne_of_lt (Nat.lt_of_lt_of_le (hlt b hb) hC),fun x c e=>(hf b hb).2.2.2.2.1 x c (c1 x c e)⟩
 bs:=I.bs
 bsz:=Nat.le_trans I.ok.bsz I.sz
 a8H:=fun b o e hb=>by
  rcases (hf b hb).2.2.2.1 with z | z
  . exact I.ok.a8H b o e z
  . exact absurd (Nat.lt_of_lt_of_le (Heap.lt_size e) (Nat.le_trans I.ok.bsz z)) (Nat.lt_irrefl _)
 b0P:=fun b hb hs=>by
  rcases mem_cons.mp (I.a8m b hs) with z | z
  . exact (hf b hb).2.1 z
  . exact (hf b hb).2.2.1 z
 a2k:=I.stack
 frf:=I.b2c
noncomputable def a0O (bs:List Str) (σ:St):St:=List.replicate bs.length none++σ
theorem c4T {h':Heap} {t':Nat} {m:Str->Option Value} (I:Inv X pins σ H s) (B:a4b X bs nb scope) (c1:∀ x c,cl.lookup x=some c->X.env.cells.lookup x=some c) (c2:∀ y ∈ scope.names,y.2=.free->(cl.lookup y.1).isSome=true)
  (hC:s.heap.objs.size<=C) (hf:∀ b ∈ fp,a3P X pins H b) (hlt:∀ b ∈ fp,b < s.heap.objs.size)
  (k:∀ b u,s.heap.get? b=some u->h'.get? b=some u) (hn:h'.Ns C m):Inv (blk X bs nb scope cl C fp s H pins) [] (a0O bs σ) H { s with heap:=h',toks:=t' }:=by
 refine ⟨c6K I B c1 c2 hC hf hlt,rfl,I.bare,Un.kept k,⟨m,hn,fun i x v e1 e2 e3=>?_⟩,fun x c e=>?_,I.hok.fresh hC,fun x c e=>I.a0N x c (c1 x c e),fun p hp=>?_,I.hok.kept k,?_⟩
 . have e1':(bs++nb)[i]? = some x:=e1
   unfold a0O at e2
   by_cases hi:i < bs.length
   . rw [List.getElem?_append_left (by simpa using hi),List.getElem?_replicate,if_pos hi] at e2
     cases e2
   . rw [List.getElem?_append_right (by simpa using hi),length_replicate] at e2
     rw [List.getElem?_append_right (by simpa using hi)] at e1'
     have hxN:x ∈ nb:=List.mem_of_getElem? e1'
     have hm:(x,NameKind.free) ∈ scope.names:=by
      rcases e3 with e3 | e3
      . exfalso
        have e3':((scope.names.map fun (n,k)=>if (k==NameKind.free&&X.env.scope.kind==.function&&X.env.kindOf n==some .cell) then (n,NameKind.cell) else (n,k))).lookup x=some .local:=e3
        obtain ⟨⟨n,kd⟩,hy,he⟩:=mem_map.mp (PySem.mem_of_lookup e3')
        by_cases hcc:(kd==NameKind.free&&X.env.scope.kind==.function&&X.env.kindOf n==some .cell)=true
        . simp only [hcc,if_true] at he
          cases he
        . simp only [hcc,if_false] at he
          cases he
          exact B.apart x hxN (x,.local) hy rfl rfl
      . exact a4q (env:=X.env) B.b4N e3
     have hv:Vis X.env.scope x:=.inr (B.vis _ hm rfl)
     have e1':X.N[i - bs.length]? = some x:=(B.nms _ x e1').resolve_right fun z=>z _ hm rfl
     obtain ⟨m0,_,hl⟩:=I.loc
     obtain ⟨u,r,l⟩:=hl _ x v e1' e2 hv
     refine ⟨u,r,?_⟩
     have hkx:(blk X bs nb scope cl C fp s H pins).env.kindOf x=some .cell\/(blk X bs nb scope cl C fp s H pins).env.kindOf x=some .free:=by
      rcases e3 with e3 | e3
      . exfalso
        have e3':((scope.names.map fun (n,k)=>if (k==NameKind.free&&X.env.scope.kind==.function&&X.env.kindOf n==some .cell) then (n,NameKind.cell) else (n,k))).lookup x=some .local:=e3
        obtain ⟨⟨n,kd⟩,hy,he⟩:=mem_map.mp (PySem.mem_of_lookup e3')
        by_cases hcc:(kd==NameKind.free&&X.env.scope.kind==.function&&X.env.kindOf n==some .cell)=true
        . simp only [hcc,if_true] at he
          cases he
        . simp only [hcc,if_false] at he
          cases he
          exact B.apart x hxN (x,.local) hy rfl rfl
      . exact e3
     rcases l with ⟨hk,_⟩ | ⟨_,c,hc,hcell⟩
     . exfalso
       have hk':X.env.scope.names.lookup x=some .local:=hk
       rcases B.vis _ hm rfl with z | z
       . rw [show X.env.scope.names.lookup x=some .cell from z] at hk';cases hk'
       . rw [show X.env.scope.names.lookup x=some .free from z] at hk';cases hk'
     . obtain ⟨c',hc'⟩:=Option.isSome_iff_exists.mp (c2 _ hm rfl)
       have:c'=c:=Option.some.inj ((c1 _ _ hc').symm.trans hc)
       subst this
       obtain ⟨o,ho,hd⟩:=hcell
       exact .inr ⟨hkx,c',hc',o,k _ _ ho,hd⟩
 . obtain ⟨v,o,ho,hd⟩:=I.cell x c (c1 x c e)
   exact ⟨v,o,k _ _ ho,hd⟩
 . have hp':p ∈ X.pn++pins:=by simpa [blk] using hp
   obtain ⟨e,n,ne,nf,d⟩:=I.pin p hp'
   refine ⟨k _ _ e,n,Nat.ne_of_lt (Nat.lt_of_lt_of_le (Heap.lt_size e) hC),fun z=>?_,d⟩
   rcases mem_cons.mp (I.a8m _ z) with z | z
   . exact ne z
   . exact nf z
 . unfold a0O
   show _=(bs++nb).length
   rw [length_append,length_append,length_replicate,I.len,B.len]
theorem Inv.b7a {D:Addr} {o:HO} (I:Inv X pins σ H s) (hn:H D=none) (hL:D ≠ X.env.locals) (h1:D ∈ X.ex\/X.L5.heap.objs.size<=D) (h2:∀ x c,X.env.cells.lookup x=some c->c ≠ D) (h3:∀ p ∈ X.pn++pins,p.1 ≠ D)
  (new:R0 X.prog X.w (upd H D o) s.heap D o):Inv X pins σ (upd H D o) s:=by
 have hup:∀ b u,H b=some u->upd H D o b=some u:=fun b u e=>by rw [s9 (M3 e hn)];exact e
 have:=I.step (H':=upd H D o) (h':=s.heap) (g':=s.gens) (d':=s.drawn) (t':=s.toks) (ch:=[D]) (fun b hb=>?_) (fun b ob _ _ _ e _=>e) (fun b ob _ _ _ e _=>⟨ob.slots,e⟩) (fun b ob hc e n=>?_) (fun b ob _ e=>⟨ob,e⟩)
  (fun b xs e=>hup b _ e) (fun b ob u e=>hup b _ e) (fun b ps e=>⟨#[],by rw [hup b _ e];simp⟩) (fun m hm=>hm) (fun b u e=>?_) I.bare
 . exact this
 . have e:b=D:=by simpa using hb
   subst e
   exact ⟨h1,hL,h2,h3⟩
 . rw [s9 (by simpa using hc)];exact n
 . by_cases hb:b=D
   . subst hb
     rw [E7] at e
     cases e
     exact new
   . rw [s9 hb] at e
     exact (I.hok b u e).a5r (fun _ _ _ q=>q) (fun c q=>hup c _ q) fun c xs q=>hup c _ q
end
noncomputable def b1d (X:Cx) (ifs:List Expr) (t:TT):Prop :=
 ∀ (pins:List (Addr × Obj)) (s:Shared) (σ:St) (H:Hp) (Q:Bool->Hp->Prop) (E:Value->Shared->Prop),(∀ e s',X.xe e s'->E e s')->Inv X pins σ H s->t σ H Q ->
  wpAny (model X.prog X.w) X.A (forIn ifs true fun c r=>if r=true then do let ok <- isTrue c X.env (eval c X.env);pure (ForInStep.yield ok) else pure (ForInStep.yield r)) (TP X pins σ Q) E s
noncomputable def b7g:TT:=fun _ H Q=>Q true H
theorem c1M {X:Cx}:b1d X [] b7g:=fun _ _ _ H _ _ _ I h=>wpAny_tests_nil ⟨H,I,h⟩
theorem c1L {X:Cx} {c:Expr} {t:TT} (h:PT X c t):b1d X [c] t:=fun pins s σ H Q E hE I q=>wpAny_tests_one (wpAny_mono (h pins s σ H Q I q) (fun _ _ z=>z) hE)
section
variable {prog:Program} {w:World} {A:Around} {R:Result->Shared->Prop} {s:Shared}
theorem b6d {elt target iter:Expr} {ifs:List Expr} {scope:Scope} {pos:Pos} {it acc:Value} {env:Env} (I:Nat->Shared->Prop)
  (turn:∀ n s,I n s->wpAny (model prog w) A (pyNext it) (fun r s₁=>match r with
   | none=>R (.ok .next) s₁
   | some v=>wpAny (model prog w) A (letOwnedTupleGo target it v) (fun _ L5=>wpAny (model prog w) A (assign target env v) (fun _ s₂ =>
     wpAny (model prog w) A (forIn ifs true fun c r=>if r=true then do let ok <- isTrue c env (eval c env);pure (ForInStep.yield ok) else pure (ForInStep.yield r)) (fun ok s₃ =>
      if ok=true then wpAny (model prog w) A (eval elt env) (fun x s₄ =>
       wpAny (model prog w) A (call (.builtin "list.append") [acc,x]) (fun _ s₅=>∃ m,m < n/\I m s₅) (notedBy (model prog w) A env fun e s'=>R (.error e) s') s₄) (notedBy (model prog w) A env fun e s'=>R (.error e) s') s₃
      else ∃ m,m < n/\I m s₃) (notedBy (model prog w) A env fun e s'=>R (.error e) s') s₂) (notedBy (model prog w) A env fun e s'=>R (.error e) s') L5) (notedBy (model prog w) A env fun e s'=>R (.error e) s') s₁) (notedBy (model prog w) A env fun e s'=>R (.error e) s') s)
  (n:Nat) (h:I n s) :
  codeAny (model prog w) A (.compLoop (.ListComp elt [⟨target,iter,ifs,0⟩] scope pos) 0 it acc env) R s:=by
 refine codeAny_loop rfl I (fun n s hI=>?_) n h
 show wpAny _ A ((compTurn (.ListComp elt [⟨target,iter,ifs,0⟩] scope pos) 0 it acc env).onRaise (fun x=>do noteFrame x env;theTreesLotGoes x)) _ _ s
 refine wpAny_noted ?_
 rw [compTurn_list]
 refine wpAny_bind (wpAny_standAt (wpAny_bind (wpAny_mono (turn n s hI) (fun r s₁ h₁=>?_) fun _ _ h'=>h')))
 cases r with
 | none=>exact wpAny_pure h₁
 | some v =>
  refine wpAny_bind (wpAny_mono h₁ (fun _ L5 h₀=>?_) fun _ _ h'=>h')
  refine wpAny_bind (wpAny_mono h₀ (fun _ s₂ h₂=>wpAny_bind (wpAny_mono h₂ (fun ok s₃ h₃=>?_) fun _ _ h'=>h')) fun _ _ h'=>h')
  cases ok with
  | false=>exact wpAny_pure ⟨rfl,h₃⟩
  | true =>
   exact wpAny_bind (wpAny_bind (wpAny_mono h₃ (fun x s₄ h₄=>wpAny_bind (wpAny_mono h₄ (fun _ s₅ h₅=>wpAny_pure (wpAny_pure ⟨rfl,h₅⟩)) fun _ _ h'=>h')) fun _ _ h'=>h'))
end
noncomputable def a9t (n:Nat) (g:TG):Prop:=∀ x σ H Q,g x σ H Q->g x σ H fun σ2 H2=>Q σ2 H2/\σ2.length=σ.length/\∀ j,n<=j->σ2[j]? = σ[j]?
noncomputable def b4f (n:Nat) (g:TGs):Prop:=∀ x σ H Q,g x σ H Q->g x σ H fun σ2 H2=>Q σ2 H2/\σ2.length=σ.length/\∀ j,n<=j->σ2[j]? = σ[j]?
theorem a0i {n i:Nat} (h:i < n:=by decide):a9t n (a0u i):=fun x σ H Q q=>⟨q,by simp,fun j hj=>by rw [List.getElem?_set_ne (by omega)]⟩
theorem b3g {n:Nat}:b4f n b5f:=fun x σ H Q q=>⟨q.1,q.2,rfl,fun _ _=>rfl⟩
theorem a3X {n i:Nat} {u:TGs} (hu:b4f n u) (h:i < n:=by decide):b4f n (a9L (a0u i) u):=fun x σ H Q q=>by
 obtain ⟨v,r,e,q⟩:=q
 refine ⟨v,r,e,?_⟩
 have z:=hu r (σ.set i (some v)) H Q q
 have e1:∀ σ2:St,(σ2.length=(σ.set i (some v)).length/\∀ j,n<=j->σ2[j]? = (σ.set i (some v))[j]?)->σ2.length=σ.length/\∀ j,n<=j->σ2[j]? = σ[j]?:=fun σ2 ⟨a,b⟩=>by
  refine ⟨by simpa using a,fun j hj=>?_⟩
  have:=b j hj
  rwa [List.getElem?_set_ne (by omega)] at this
 show u r (σ.set i (some v)) H fun σ2 H2=>Q σ2 H2/\σ2.length=σ.length/\∀ j,n<=j->σ2[j]? = σ[j]?
 have ef:(fun (σ2:St) (H2:Hp)=>Q σ2 H2/\σ2.length=(σ.set i (some v)).length/\∀ j,n<=j->σ2[j]? = (σ.set i (some v))[j]?)=fun σ2 H2=>Q σ2 H2/\σ2.length=σ.length/\∀ j,n<=j->σ2[j]? = σ[j]?:=by
  funext σ2 H2
  apply propext
  constructor
  . rintro ⟨a,b⟩;exact ⟨a,e1 σ2 b⟩
  . rintro ⟨a,b,c⟩
    refine ⟨a,by simpa using b,fun j hj=>?_⟩
    rw [List.getElem?_set_ne (by omega)]
    exact c j hj
 rw [<-ef]
 exact z
theorem b5a {n:Nat} {K:PySem.W.Frag} {m:Nat} {t:TGs} (h:b4f n t):a9t n (b5e K m t):=fun x σ H Q q=>by
 obtain ⟨a,xs,e,hs,hl,q⟩:=q
 exact ⟨a,xs,e,hs,hl,h xs σ H Q q⟩
noncomputable def c7x (J:It) (bs:List Str) (g:TG) (tt:TT) (te:TE) (σ:St) (Q:VK) (H1:Hp):Prop:=∃ (n:Nat) (W:Nat->List V->Hp->Prop),n<=sizeLine/\W 0 [] H1/\∀ i ys H,W i ys H ->
 ((J.stop i H/\∀ p,H p=none->Q (.ref p) (upd H p (.lst ys)))\/(J.go i H/\i < n/\∀ x H',J.yld i H x H'->g x (a0O bs σ) H' fun σ2 H2=>tt σ2 H2 fun b H3=>if b=true then te σ2 H3 (fun y H4=>W (i + 1) (ys++[y]) H4) else W (i + 1) ys H3))
noncomputable def a9x (bs:List Str) (wi:TI) (g:TG) (tt:TT) (te:TE):TE:=fun σ H Q=>wi σ H fun J H1=>c7x J bs g tt te σ Q H1
theorem Vals.snoc {xs:List V} {us:List Value} {x:V} {u:Value} (r:Vals xs us) (h:RelV x u):Vals (xs++[x]) (us++[u]):=r.append (.cons h .nil)
theorem b6n {X:Cx} {bs nb:List Str} {elt tg iter:Expr} {ifs:List Expr} {scope:Scope} {pos:Pos} {wi:TI} {g:TG} {tt:TT} {te:TE} {use:Option (Value->Sem Unit)} {R:Value->Shared->Prop} (hc:X.calm=true) (B:a4b X bs nb scope) (hi:PI X tg iter wi)
  (go:a9t bs.length g) (hg:∀ cl C fp s H pins,PG (blk X bs nb scope cl C fp s H pins) tg g) (ht:∀ cl C fp s H pins,b1d (blk X bs nb scope cl C fp s H pins) ifs tt) (he:∀ cl C fp s H pins,PE (blk X bs nb scope cl C fp s H pins) elt te)
  (hs:∀ x,foldedSetIterable iter X.env x=pure x) (pins:List (Addr × Obj)) (s:Shared) (σ:St) (H:Hp) (Q:VK) (I:Inv X pins σ H s) (h:a9x bs wi g tt te σ H Q)
  (hfin:∀ (D C:Addr) (s':Shared) (H':Hp) (f:Flow),Inv X pins σ H' s'->Q (.ref D) H'->a3P X pins H' C->(∃ m,s'.heap.Ns C m)->compPost (model X.prog X.w) X.A X.xe use R (.ref D) C (.ok f) s') :
  wpAny (model X.prog X.w) X.A (comprehension (.ListComp elt [⟨tg,iter,ifs,0⟩] scope pos) scope X.env (firstIterPos [⟨tg,iter,ifs,0⟩] pos) (newList []) (firstAsync [⟨tg,iter,ifs,0⟩]) (firstIter [⟨tg,iter,ifs,0⟩] X.env) use) R X.xe s:=by
 obtain ⟨cl,hcl,c1,c2⟩:=b8n (scope:=scope) (env:=X.env) (fun y hy hf=>I.ok.has y.1 (B.vis y hy hf))
 refine wpAny_comprehension_free (use:=use) rfl hs hcl B.kind B.names (thn (hi pins s σ H _ I h) fun v s1 h1=>thn h1 fun itv s2 h2=>?_)
 obtain ⟨it,fp,tn,J,H2,e,I2,T,st2,f2,n,W,hn,w0,turn⟩:=h2
 subst e
 have hlt:∀ b ∈ fp,b < s2.heap.objs.size:=fun b hb=>by obtain ⟨o,e,_⟩:=T.obj _ _ st2 b hb;exact Heap.lt_size e
 refine wpAny_newObj_type (wpAny_newFunctionEnv B.b4N (by intro y hy;simp at hy) (fun h₁ hns₁ hsb₁=>?_) B.kind)
 dsimp only at hns₁ hsb₁ ⊢
 generalize hH2:s2.heap.push { cls:=.type "list",dict:=none,data:=.seq ([]:List Value).toArray }=G2 at hns₁ hsb₁ ⊢
 have hCs:G2.objs.size=s2.heap.objs.size + 1:=by rw [<-hH2,Heap.size_push]
 have hDC:s2.heap.objs.size ≠ G2.objs.size:=by rw [hCs];exact Nat.ne_of_lt (Nat.lt_succ_self _)
 have hCle:s2.heap.objs.size<=G2.objs.size:=by rw [hCs];exact Nat.le_succ _
 have old:∀ b o,s2.heap.get? b=some o->h₁.get? b=some o:=fun b o e =>
  hsb₁.extBut b o (by rw [hCs];exact Nat.ne_of_lt (Nat.lt_succ_of_lt (Heap.lt_size e))) (Heap.get?_push_of_some _ (hH2 ▸ Heap.get?_push_of_some _ e))
 have hacc:h₁.get? s2.heap.objs.size=some { cls:=.type "list",data:=.seq ([]:List Value).toArray 0 }:=hsb₁.extBut _ _ hDC (Heap.get?_push_of_some _ (hH2 ▸ Heap.get?_push_size _ rfl))
 have hDn:∀ b ∈ fp,b ≠ s2.heap.objs.size:=fun b hb=>Nat.ne_of_lt (hlt b hb)
 have J0:=c4T (bs:=bs) (t':=s2.toks + ([]:List (Str × Value)).length) I2 B c1 c2 hCle f2 hlt old hns₁
 generalize hX:blk X bs nb scope cl G2.objs.size fp s2 H2 pins=X' at J0
 have fpB:∀ {H':Hp} {pl:List (Addr × Obj)},(∀ b ∈ fp,H' b=none)->(∀ p ∈ pl,p.1 ∉ fp)->∀ b ∈ fp,a3P X' pl H' b:=fun {H' pl} hz hp b hb=>by
  subst hX
  refine ⟨hz b hb,Nat.ne_of_lt (Nat.lt_of_lt_of_le (hlt b hb) hCle),J0.ok.b0P b hb,.inl hb,fun x c e=>(f2 b hb).2.2.2.2.1 x c (c1 x c e),fun p hq=>?_⟩
  rcases mem_append.mp hq with z | z
  . exact (f2 b hb).2.2.2.2.2 p z
  . intro e;exact hp p z (e ▸ hb)
 have Dfs:s2.heap.objs.size ∉ X'.fs:=fun hb=>by
  subst hX
  rcases mem_cons.mp (I2.a8m _ hb) with z | z
  . exact absurd I2.lt (by rw [<-z];exact Nat.lt_irrefl _)
  . exact I2.c1X (Nat.le_refl _) z
 have Dcell:∀ x c,X.env.cells.lookup x=some c->c ≠ s2.heap.objs.size:=fun x c e z=>by
  obtain ⟨v,q⟩:=I2.cell x c e
  exact absurd q.lt (by rw [z];exact Nat.lt_irrefl _)
 have Dpin:∀ p ∈ X.pn++pins,p.1 ≠ s2.heap.objs.size:=fun p hp=>Nat.ne_of_lt (Heap.lt_size (I2.pin p hp).1)
 have Dloc:s2.heap.objs.size ≠ X'.env.locals:=by subst hX;exact hDC
 have pinD:∀ {σ':St} {H':Hp} {s':Shared} {o:Obj},Inv X' [] σ' H' s'->s'.heap.get? s2.heap.objs.size=some o->H' s2.heap.objs.size=none->(∀ v,o.data ≠ .cell v)->Inv X' [(s2.heap.objs.size,o)] σ' H' s':=fun {σ' H' s' o} I' e hz hd =>
  I'.a2F fun p hp=>by
   have ep:p=(s2.heap.objs.size,o):=by simpa using hp
   subst ep
   exact ⟨e,hz,Dloc,Dfs,hd⟩
 have loop:∀ s₃:Shared,s₃={ s2 with heap:=h₁,toks:=s2.toks + ([]:List (Str × Value)).length } ->
   codeAny (model X.prog X.w) X.A (.compLoop (.ListComp elt [⟨tg,iter,ifs,0⟩] scope pos) 0 (.ref it) (.ref s2.heap.objs.size) (compEnvC scope cl G2.objs.size X.env))
    (compPost (model X.prog X.w) X.A X.xe use R (.ref s2.heap.objs.size) G2.objs.size) s₃:=by
  rintro s₃ rfl
  refine b6d (fun k s'=>∃ (i:Nat) (ys:List V) (us:List Value) (z:Nat) (H':Hp),k=n - i + 1/\i<=n/\us.length<=i/\Vals ys us/\Inv X' [(s2.heap.objs.size,{ cls:=.type "list",data:=.seq us.toArray z })] (a0O bs σ) H' s'/\tn i s'.heap/\(∀ b ∈ fp,H' b=none)/\W i ys H') ?_ (n - 0 + 1)
   ⟨0,[],[],0,H2,rfl,Nat.zero_le _,Nat.le_refl _,.nil,pinD J0 hacc (I2.hok.fresh (Nat.le_refl _)) (fun v z=>by cases z),T.keep _ _ _ st2 fun b _ o e=>old b o e,fun b hb=>(f2 b hb).1,w0⟩
  rintro k s3 ⟨i,ys,us,z,H3,rfl,hin,hul,rv,I3,st3,fr3,w3⟩
  have npl:∀ p ∈ ([(s2.heap.objs.size,{ cls:=.type "list",data:=.seq us.toArray z })]:List (Addr × Obj)),p.1 ∉ fp:=fun p hp hm=>by
   have ep:p=(s2.heap.objs.size,{ cls:=.type "list",data:=.seq us.toArray z }):=by simpa using hp
   subst ep
   exact hDn _ hm rfl
  have eP:X'.prog=X.prog:=by subst hX;rfl
  have eW:X'.w=X.w:=by subst hX;rfl
  have eK:X'.K=X.K:=by subst hX;rfl
  have eA:X'.A=X.A:=by subst hX;rfl
  have eC:X'.calm=true:=by subst hX;exact hc
  rcases turn i ys H3 w3 with ⟨stop,fin⟩ | ⟨gon,hlt',step⟩
  . have hd:=T.done X' eP eW eK eC i _ s3 (a0O bs σ) H3 (notedBy (model X.prog X.w) X.A (compEnvC scope cl G2.objs.size X.env) fun e s'=>compPost (model X.prog X.w) X.A X.xe use R (.ref s2.heap.objs.size) G2.objs.size (.error e) s') I3 (fpB fr3 npl) st3 stop
    rw [eA] at hd
    refine thn hd fun r s4 ⟨hr,I4⟩=>?_
    subst hr
    obtain ⟨m,hm,_⟩:=I4.loc
    have pD:=I4.pin (s2.heap.objs.size,{ cls:=.type "list",data:=.seq us.toArray z }) (mem_append_right _ (mem_singleton.mpr rfl))
    have hCl:X'.env.locals=G2.objs.size:=by subst hX;rfl
    have hm':s4.heap.Ns G2.objs.size m:=hCl ▸ hm
    have hC0:H3 G2.objs.size=none:=hCl ▸ I4.free
    have I5:Inv X pins σ H3 s4:=by
     have hos:s4.os=s2.os:=by subst hX;exact I4.os
     have hun:Un (frs X.stack) fp H2 H3 s2.heap s4.heap:=by subst hX;exact I4.base
     have hhk:HOk X.prog X.w H3 s4.heap:=by subst hX;exact I4.hok
     exact I2.c3q hos hun hhk I4.bare fun b hb=>⟨(f2 b hb).2.2.2.1,(f2 b hb).2.1,(f2 b hb).2.2.2.2.1,(f2 b hb).2.2.2.2.2⟩
    have hys:ys.length<=sizeLine:=by rw [rv.length];omega
    refine hfin s2.heap.objs.size G2.objs.size s4 _ _ (I5.b7a (o:=.lst ys) pD.2.1 (Nat.ne_of_gt I2.lt) (.inr I2.sz) Dcell Dpin ⟨hys,us,z,rv,pD.1⟩) (fin _ pD.2.1) ⟨?_,Nat.ne_of_gt (Nat.lt_of_lt_of_le I2.lt hCle),I2.c1X hCle,.inr (Nat.le_trans I2.sz hCle),fun x c e q=>?_,fun p hp q=>?_⟩ ⟨m,hm'⟩
    . rw [s9 (Ne.symm hDC)];exact hC0
    . obtain ⟨v,q2⟩:=I2.cell x c e
      exact absurd (Nat.lt_of_lt_of_le q2.lt (by rw [q];exact hCle)) (Nat.lt_irrefl _)
    . exact absurd (Nat.lt_of_lt_of_le (Heap.lt_size (I2.pin p hp).1) (by rw [q];exact hCle)) (Nat.lt_irrefl _)
  . have hd:=T.item X' eP eW eK eC i _ s3 (a0O bs σ) H3 (notedBy (model X.prog X.w) X.A (compEnvC scope cl G2.objs.size X.env) fun e s'=>compPost (model X.prog X.w) X.A X.xe use R (.ref s2.heap.objs.size) G2.objs.size (.error e) s') I3 (fpB fr3 npl) st3 gon
    rw [eA] at hd
    refine thn hd fun r s4 ⟨u,hr,h4⟩=>?_
    subst hr
    refine thn h4 fun _ s5 ⟨x,H5,I5,r5,y5,st5,fr5⟩=>?_
    have I5':=I5.pinned (fpB fr5 npl) (T.obj _ _ st5)
    have hq5:=go x (a0O bs σ) H5 _ (step x H5 y5)
    have hgx:PG X' tg g:=by subst hX;exact hg _ _ _ _ _ _
    have htx:b1d X' ifs tt:=by subst hX;exact ht _ _ _ _ _ _
    have hex:PE X' elt te:=by subst hX;exact he _ _ _ _ _ _
    have hxe:∀ e s',X'.xe e s'->False:=fun e s' q=>by subst hX;exact q
    have eE:X'.env=compEnvC scope cl G2.objs.size X.env:=by subst hX;rfl
    have w6:=hgx _ s5 (a0O bs σ) H5 x u _ I5' r5 hq5
    rw [eP,eW,eA,eE] at w6
    refine wpAny_mono w6 (fun _ s6 ⟨σ6,H6,I6,q6,l6,e6⟩=>?_) fun _ _ q=>(hxe _ _ q).elim
    have w7:=htx _ s6 σ6 H6 _ (notedBy (model X.prog X.w) X.A (compEnvC scope cl G2.objs.size X.env) fun e s'=>compPost (model X.prog X.w) X.A X.xe use R (.ref s2.heap.objs.size) G2.objs.size (.error e) s') (fun _ _ q=>(hxe _ _ q).elim) I6 q6
    rw [eP,eW,eA,eE] at w7
    refine thn w7 fun ok s7 ⟨H7,I7,q7⟩=>?_
    have weak:∀ {pl:List (Addr × Obj)} {H':Hp} {s':Shared},Inv X' pl σ6 H' s'->Inv X' pl (a0O bs σ) H' s':=fun {pl H' s'} I'=>I'.weak l6.symm fun j v hj=>by
     by_cases hjn:j < bs.length
     . unfold a0O at hj
       rw [List.getElem?_append_left (by simpa using hjn),List.getElem?_replicate,if_pos hjn] at hj
       cases hj
     . rw [e6 j (Nat.le_of_not_lt hjn)];exact hj
    have unp:∀ {σ':St} {H':Hp} {s':Shared},Inv X' ([(s2.heap.objs.size,({ cls:=.type "list",data:=.seq us.toArray z }:Obj))]++a8F fp s5.heap) σ' H' s' ->
      (∀ b ∈ fp,∀ o,s5.heap.get? b=some o->s'.heap.get? b=some o)/\(∀ b ∈ fp,H' b=none)/\s'.heap.get? s2.heap.objs.size=some { cls:=.type "list",data:=.seq us.toArray z }/\H' s2.heap.objs.size=none:=fun {σ' H' s'} I'=>by
     refine ⟨fun b hb o e=>(I'.pin (b,o) (mem_append_right _ (mem_append_right _ (a3W hb e)))).1,fun b hb=>?_,?_,?_⟩
     . obtain ⟨o,e,d⟩:=T.obj _ _ st5 b hb
       exact (I'.pin (b,o) (mem_append_right _ (mem_append_right _ (a3W hb e)))).2.1
     . exact (I'.pin (s2.heap.objs.size,{ cls:=.type "list",data:=.seq us.toArray z }) (mem_append_right _ (List.mem_append_left _ (mem_singleton.mpr rfl)))).1
     . exact (I'.pin (s2.heap.objs.size,{ cls:=.type "list",data:=.seq us.toArray z }) (mem_append_right _ (List.mem_append_left _ (mem_singleton.mpr rfl)))).2.1
    cases ok with
    | false =>
     obtain ⟨k1,k2,k3,k4⟩:=unp I7
     refine ⟨n - (i + 1) + 1,by omega,i + 1,ys,us,z,H7,rfl,hlt',by omega,rv,pinD (weak (I7.a2F fun p hp=>nomatch hp)) k3 k4 (fun v q=>by cases q),T.keep _ _ _ st5 k1,k2,?_⟩
     simpa using q7
    | true =>
     have q7':te σ6 H7 fun y H4=>W (i + 1) (ys++[y]) H4:=by simpa using q7
     have w8:=hex _ s7 σ6 H7 _ I7 q7'
     rw [eP,eW,eA,eE] at w8
     refine wpAny_mono w8 (fun uy s8 ⟨y,H8,I8,r8,q8⟩=>?_) fun _ _ q=>(hxe _ _ q).elim
     obtain ⟨k1,k2,k3,k4⟩:=unp I8
     refine append_at (hsz:=by rw [size_toArray];omega) k3 fun h9 sb9 g9=>?_
     have I8':Inv X' [] (a0O bs σ) H8 s8:=weak (I8.a2F fun p hp=>nomatch hp)
     have eS:X'.L5=s2:=by subst hX;rfl
     have ePn:X'.pn=X.pn++pins:=by subst hX;rfl
     have eCl:X'.env.cells=cl:=by subst hX;rfl
     have I9:Inv X' [] (a0O bs σ) H8 { s8 with heap:=h9 }:=I8'.turned (t':=s8.toks) (it:=s2.heap.objs.size) (fun b o hb e=>sb9.extBut b o hb e) k4 Dloc (.inr (by rw [eS];exact Nat.le_refl _))
      (fun x c e=>Dcell x c (c1 x c (by rw [<-eCl];exact e))) (fun p hp=>Dpin p (by rw [ePn] at hp;simpa using hp))
     refine ⟨n - (i + 1) + 1,by omega,i + 1,ys++[y],us++[uy],z + 1,H8,rfl,hlt',by rw [length_append,length_singleton];omega,rv.snoc r8,pinD I9 ?_ k4 (fun v q=>by cases q),T.keep _ _ _ st5 fun b hb o e=>?_,k2,q8⟩
     . rw [g9,List.push_toArray]
     . exact sb9.extBut b o (hDn b hb) (k1 b hb o e)
 exact codeAny_compStart_list (loop _ rfl) (T.self _ 0 _ _ _ (T.keep _ _ _ st2 fun b _ o e=>old b o e) (loop _ rfl))
theorem c4c {X:Cx} {bs nb:List Str} {elt tg iter:Expr} {ifs:List Expr} {scope:Scope} {pos:Pos} {wi:TI} {g:TG} {tt:TT} {te:TE} (hc:X.calm=true) (B:a4b X bs nb scope) (hi:PI X tg iter wi)
  (go:a9t bs.length g) (hg:∀ cl C fp s H pins,PG (blk X bs nb scope cl C fp s H pins) tg g) (ht:∀ cl C fp s H pins,b1d (blk X bs nb scope cl C fp s H pins) ifs tt) (he:∀ cl C fp s H pins,PE (blk X bs nb scope cl C fp s H pins) elt te)
  (hs:∀ x,foldedSetIterable iter X.env x=pure x:=by intro _;rfl):PE X (.ListComp elt [⟨tg,iter,ifs,0⟩] scope pos) (a9x bs wi g tt te):=by
 intro pins s σ H Q I h
 rw [eval_ListComp]
 refine b6n (use:=none) hc B hi go hg ht he hs pins s σ H Q I h fun D C s' H' f I' q fc ⟨m,hm⟩=>⟨m,hm,fun h'' sb=>?_⟩
 exact ⟨.ref D,H',I'.turned (t':=s'.toks) (it:=C) (fun b o hb e=>sb.extBut b o hb e) fc.1 fc.2.1 fc.2.2.2.1 fc.2.2.2.2.1 fc.2.2.2.2.2,rfl,q⟩
theorem b6B {X:Cx} {bs nb:List Str} {elt tg iter:Expr} {ifs:List Expr} {scope:Scope} {cpos pos pos':Pos} {wi:TI} {g:TG} {tt:TT} {te:TE} {i:Nat} {x:Str} (hN:X.N.Nodup) (hi':X.N[i]? = some x) (hx:Loc X.env.scope x) (hc:X.calm=true) (B:a4b X bs nb scope) (hi:PI X tg iter wi)
  (go:a9t bs.length g) (hg:∀ cl C fp s H pins,PG (blk X bs nb scope cl C fp s H pins) tg g) (ht:∀ cl C fp s H pins,b1d (blk X bs nb scope cl C fp s H pins) ifs tt) (he:∀ cl C fp s H pins,PE (blk X bs nb scope cl C fp s H pins) elt te)
  (hsw:swapsWith (.ListComp elt [⟨tg,iter,ifs,0⟩] scope cpos) (some (.Name x pos')) pos.line X.env=pure true:=by rfl) (hf:X.fn x=true\/X.env.scope.names.lookup x=some .local:=by first | exact .inl rfl | exact .inr rfl | assumption)
  (hs:∀ x,foldedSetIterable iter X.env x=pure x:=by intro _;rfl):PS X (.Assign [.Name x pos'] (.ListComp elt [⟨tg,iter,ifs,0⟩] scope cpos) pos) (a5q (a9x bs wi g tt te) (a0u i)):=by
 intro pins s σ H D I h
 rw [exec_Assign_Name_used _ _ _ _ hsw]
 refine wpAny_bind (wpAny_standAt ?_)
 rw [arm_evalThenUse_ListComp]
 refine wpAny_bind (wpAny_bind (thn (b6n (R:=fun _ s'=>SP X pins D .next s') (use:=some (assign (.Name x pos') X.env)) hc B hi go hg ht he hs pins s σ H _ I h fun D' C s' H' f I' q fc ⟨m,hm⟩=>?_) fun _ s' hsp=>wpAny_pure (wpAny_pure hsp)))
 obtain ⟨oC,es,ep,ho,hd,hr⟩:=id hm
 have I2:Inv X ((C,oC)::pins) σ H' s':=I'.a2F fun p hp=>by
  rcases mem_cons.mp hp with rfl | hp
  . exact ⟨ho,fc.1,fc.2.1,fc.2.2.1,fun v z=>by rw [hd] at z;cases z⟩
  . exact I'.pin p (mem_append_right _ hp)
 refine thn (C0 (pos:=pos') hN hi' hx hf ((C,oC)::pins) s' σ H' (.ref D') (.ref D') D.nx I2 rfl q) fun _ s'' ⟨σ',H'',I3,q3⟩=>?_
 have pC:=I3.pin (C,oC) (mem_append_right _ mem_cons_self)
 have I4:Inv X pins σ' H'' s'':=I3.a2F fun p hp=>I3.pin p (mem_append_right _ (mem_cons_of_mem _ hp))
 refine ⟨m,⟨oC,es,ep,pC.1,hd,hr⟩,fun h'' sb=>⟨σ',H'',?_,q3⟩⟩
 exact I4.turned (t':=s''.toks) (it:=C) (fun b o hb e=>sb.extBut b o hb e) pC.2.1 fc.2.1 fc.2.2.2.1 fc.2.2.2.2.1 fc.2.2.2.2.2
section
variable {prog:Program} {w:World} {A:Around} {E:Value->Shared->Prop} {s:Shared}
noncomputable def ItK (kd:Bool) (h:Heap) (i l:Addr) (k:Nat):Prop:=match kd with
 | true=>h.IsTupleIter i l k
 | false=>h.IsListIter i l k
noncomputable def OfK (kd:Bool) (h:Heap) (i l:Addr) (k:Nat) (xs:Array Value):Prop:=match kd with
 | true=>h.IsTupleIter i l k/\h.IsTuple l xs
 | false=>h.IsListIter i l k/\h.IsList l xs
theorem ItK.at {kd:Bool} {h h':Heap} {i l:Addr} {k:Nat} (x:ItK kd h i l k) (e:∀ o,h.get? i=some o->h'.get? i=some o):ItK kd h' i l k:=by
 cases kd
 . exact Heap.IsListIter.at (show h.IsListIter i l k from x) e
 . exact Heap.IsTupleIter.at (show h.IsTupleIter i l k from x) e
theorem ItK.obj {kd:Bool} {h:Heap} {i l:Addr} {k:Nat} (x:ItK kd h i l k):∃ o,h.get? i=some o/\∀ v,o.data ≠ .cell v:=by
 cases kd
 . obtain ⟨o,e,_,d⟩:=(show h.IsListIter i l k from x)
   exact ⟨o,e,fun v z=>by rw [d] at z;cases z⟩
 . obtain ⟨o,e,_,d⟩:=(show h.IsTupleIter i l k from x)
   exact ⟨o,e,fun v z=>by rw [d] at z;cases z⟩
theorem OfK.kept {kd:Bool} {h h':Heap} {i l:Addr} {k:Nat} {xs:Array Value} (x:OfK kd h i l k xs) (e:∀ b o,b=i\/b=l->h.get? b=some o->h'.get? b=some o):OfK kd h' i l k xs:=by
 cases kd
 . obtain ⟨x,⟨o,eo,r⟩⟩:=(show h.IsListIter i l k/\h.IsList l xs from x)
   exact ⟨x.at fun o q=>e i o (.inl rfl) q,⟨o,e l o (.inr rfl) eo,r⟩⟩
 . obtain ⟨x,⟨o,eo,r⟩⟩:=(show h.IsTupleIter i l k/\h.IsTuple l xs from x)
   exact ⟨x.at fun o q=>e i o (.inl rfl) q,⟨o,e l o (.inr rfl) eo,r⟩⟩
theorem b7P {it t:Addr} {i:Nat} {xs:Array Value} {x:Value} {Q:Value->Shared->Prop} (hit:s.heap.IsTupleIter it t i) (ht:s.heap.IsTuple t xs) (hx:xs[i]? = some x)
  (hQ:∀ h',h'.IsTupleIter it t (i + 1)->Heap.SameBut it s.heap h'->Q x { s with heap:=h' }):wpAny (model prog w) A (Builtin.SmallTypes.nextOf (.ref it)) Q E s:=by
 obtain ⟨oi,ei,ci,di⟩:=id hit
 obtain ⟨ot,et,_,n,dt⟩:=ht
 unfold Builtin.SmallTypes.nextOf
 refine wpAny_bind (wpAny_callSpecial?_slot (name:=(Str.ofString "__next__")) hit.typeIs F.slot_tuple_iterator_next
  (wpAny_call_entry F.slot_tuple_iterator_next hit.typeIs F.entry_tuple_iterator_next ?_ (F.args_tuple_iterator_next_1 _)))
 show wpAny _ _ (field (.ref it) 0 >>= _) _ _ s
 refine wpAny_bind (wpAny_field ei di (x:=.ref t) rfl ?_)
 show wpAny _ _ (if (Value.ref t==Value.none)=true then _ else _) _ _ s
 rw [if_neg (show ¬ ((Value.ref t==Value.none)=true) from Bool.false_ne_true)]
 show wpAny _ _ (field (.ref it) 1 >>= _) _ _ s
 refine wpAny_bind (wpAny_field ei di (x:=.int i 0) rfl ?_)
 show wpAny _ _ (seqItems? (.ref t) >>= _) _ _ s
 refine wpAny_bind (wpAny_seqItems et dt ?_)
 simp only [Int.toNat_natCast,hx]
 refine wpAny_bind (wpAny_setField ei di (by simp) (wpAny_pure ⟨x,rfl,wpAny_pure (hQ _ ?_ (Heap.SameBut.update ..))⟩))
 refine ⟨_,Heap.get?_update_self _ ei (Obj.isFreed_of_fields (Obj.data_mapFields di _)),(Obj.cls_mapFields ..).trans ci,?_⟩
 rw [Obj.data_mapFields di]
 simp [rawInt]
theorem b9R {it t:Addr} {i:Nat} {xs:Array Value} {Q:Value->Shared->Prop} (hh:A.handled=none) (hit:s.heap.IsTupleIter it t i) (ht:s.heap.IsTuple t xs) (hx:xs[i]? = none)
  (hE:∀ h' e,Heap.ExtBut it s.heap h'->(∃ o,h'.get? e=some o/\o.cls=.type "StopIteration")->E (.ref e) { s with heap:=h' }):wpAny (model prog w) A (Builtin.SmallTypes.nextOf (.ref it)) Q E s:=by
 obtain ⟨oi,ei,ci,di⟩:=id hit
 obtain ⟨ot,et,_,n,dt⟩:=ht
 unfold Builtin.SmallTypes.nextOf
 refine wpAny_bind (wpAny_callSpecial?_slot (name:=(Str.ofString "__next__")) hit.typeIs F.slot_tuple_iterator_next
  (wpAny_call_entry F.slot_tuple_iterator_next hit.typeIs F.entry_tuple_iterator_next ?_ (F.args_tuple_iterator_next_1 _)))
 show wpAny _ _ (field (.ref it) 0 >>= _) _ _ s
 refine wpAny_bind (wpAny_field ei di (x:=.ref t) rfl ?_)
 show wpAny _ _ (if (Value.ref t==Value.none)=true then _ else _) _ _ s
 rw [if_neg (show ¬ ((Value.ref t==Value.none)=true) from Bool.false_ne_true)]
 show wpAny _ _ (field (.ref it) 1 >>= _) _ _ s
 refine wpAny_bind (wpAny_field ei di (x:=.int i 0) rfl ?_)
 show wpAny _ _ (seqItems? (.ref t) >>= _) _ _ s
 refine wpAny_bind (wpAny_seqItems et dt ?_)
 simp only [Int.toNat_natCast,hx]
 refine wpAny_bind (wpAny_rule (wpAny_bind (wpAny_setField ei di (by simp) ?_)))
 show wpAny _ _ (newExc (.type "StopIteration") [] >>= _) _ _ _
 refine wpAny_bind ?_
 simp only [newExc,newTuple]
 refine wpAny_bind (wpAny_newObj_type ?_ (by size_fits))
 refine wpAny_bind (m:=firstArgMember _ _) (wpAny_of_eq (a:=Value.none) (by first | rfl | (simp only [firstArgMember];rfl)) ?_)
 refine wpAny_newObj_type ?_ (by size_fits)
 simp only [raiseNew]
 refine wpAny_bind (wpAny_handled ?_)
 rw [hh]
 refine wpAny_throw (hE _ _ (fun b o hb e=>?_) ⟨_,Heap.get?_push_size _ rfl,rfl⟩)
 exact Heap.get?_push_of_some _ (Heap.get?_push_of_some _ ((Heap.SameBut.update ..).extBut b o hb e))
theorem a6L {kd:Bool} {it l:Addr} {i:Nat} {xs:Array Value} {x:Value} {Q:Value->Shared->Prop} (h:OfK kd s.heap it l i xs) (hne:l ≠ it) (hx:xs[i]? = some x)
  (hQ:∀ h',ItK kd h' it l (i + 1)->Heap.SameBut it s.heap h'->Q x { s with heap:=h' }):wpAny (model prog w) A (Builtin.SmallTypes.nextOf (.ref it)) Q E s:=by
 cases kd
 . exact wpAny_nextOf_list_item h.1 h.2 hx fun h' a' sb=>hQ h' a' sb
 . exact b7P h.1 h.2 hx fun h' a' sb=>hQ h' a' sb
theorem b3b {kd:Bool} {it l:Addr} {i:Nat} {xs:Array Value} {Q:Value->Shared->Prop} (hh:A.handled=none) (h:OfK kd s.heap it l i xs) (hx:xs[i]? = none)
  (hE:∀ h' e,Heap.ExtBut it s.heap h'->(∃ o,h'.get? e=some o/\o.cls=.type "StopIteration")->E (.ref e) { s with heap:=h' }):wpAny (model prog w) A (Builtin.SmallTypes.nextOf (.ref it)) Q E s:=by
 cases kd
 . exact wpAny_nextOf_list_end hh h.1 h.2 hx hE
 . exact b9R hh h.1 h.2 hx hE
theorem b8H {k1 k2:Bool} {z TI TO i1 i2 l1 l2:Addr} {k:Nat} {xs ys:Array Value} {x y a b:Value} {Q:Option Value->Shared->Prop} (D:ZipApart z TI TO i1 i2 l1 l2)
  (hz:IsZip s.heap z TI TO .none) (hTI:IsPair s.heap TI (.ref i1) (.ref i2)) (hTO:IsPair s.heap TO a b) (h1:OfK k1 s.heap i1 l1 k xs) (h2:OfK k2 s.heap i2 l2 k ys) (hx:xs[k]? = some x) (hy:ys[k]? = some y)
  (hQ:∀ h',IsZip h' z TI TO (rawInt s.heap.objs.size)->IsPair h' TO x y->ItK k1 h' i1 l1 (k + 1)->ItK k2 h' i2 l2 (k + 1)->IsPair h' s.heap.objs.size x y ->
   (∀ c o,c ≠ z->c ≠ TO->c ≠ i1->c ≠ i2->s.heap.get? c=some o->h'.get? c=some o)->Q (some (.ref s.heap.objs.size)) { s with heap:=h' }) :
  wpAny (model prog w) A (pyNext (.ref z)) Q E s:=by
 have hT:s.TypeIs (.ref z) "zip":=⟨_,hz,rfl⟩
 unfold pyNext
 refine wpAny_bind (wpAny_attempt (wpAny_callSpecial?_slot (name:=(Str.ofString "__next__")) hT F.slot_zip_next (wpAny_call_entry F.slot_zip_next hT F.entry_zip_next ?_ (F.args_zip_next_1 _))))
 show wpAny _ _ (field (.ref z) 2 >>= _) _ _ _
 refine wpAny_bind (wpAny_field hz rfl (x:=.bool false) rfl ?_)
 show wpAny _ _ (field (.ref z) 3 >>= _) _ _ _
 refine wpAny_bind (wpAny_field hz rfl (x:=.ref TI) rfl (wpAny_bind (wpAny_seqItems hTI rfl ?_)))
 show wpAny _ _ (Builtin.SmallTypes.ownedTupleIsFree (.ref z) >>= _) _ _ _
 refine wpAny_bind ?_
 unfold Builtin.SmallTypes.ownedTupleIsFree
 refine wpAny_bind (wpAny_field hz rfl (x:=.none) rfl (wpAny_pure ?_))
 simp only [if_true]
 refine wpAny_bind (wpAny_rule (wpAny_bind (wpAny_field hz rfl (x:=.ref TO) rfl (wpAny_bind (wpAny_setField_rec hz (by simp) fun g1 z1 b1=>?_)))))
 replace z1:IsZip g1 z TI TO .ellipsis:=z1
 refine wpAny_bind ?_
 simp only [List.zipIdx_cons,List.zipIdx_nil,forIn_cons,List.forIn_nil]
 refine wpAny_bind (wpAny_bind (wpAny_onRaise ?_))
 show wpAny _ _ (Builtin.SmallTypes.nextOf (.ref i1) >>= _) _ _ _
 have q1:OfK k1 g1 i1 l1 k xs:=h1.kept fun c o hc e=>b1.extBut c o (by rcases hc with rfl | rfl;exact D.i1z;exact D.l1z) e
 refine wpAny_bind (a6L q1 D.l1i1 hx fun g2 p1 b2=>wpAny_pure ?_)
 have t2:IsPair g2 TO a b:=b2.extBut _ _ D.TOi1 (b1.extBut _ _ D.TOz hTO)
 refine wpAny_bind (wpAny_seqItems t2 rfl (wpAny_bind (wpAny_updateSeq_pair t2 fun g3 t3 b3=>?_)))
 replace t3:IsPair g3 TO x b:=t3
 refine wpAny_bind (wpAny_letGo (wpAny_pure ?_))
 refine wpAny_bind (wpAny_bind (wpAny_onRaise ?_))
 show wpAny _ _ (Builtin.SmallTypes.nextOf (.ref i2) >>= _) _ _ _
 have q2:OfK k2 g3 i2 l2 k ys:=h2.kept fun c o hc e=>by
  have n1:c ≠ z:=by rcases hc with rfl | rfl;exact D.i2z;exact D.l2z
  have n2:c ≠ i1:=by rcases hc with rfl | rfl;exact D.i12.symm;exact D.l2i1
  have n3:c ≠ TO:=by rcases hc with rfl | rfl;exact D.TOi2.symm;exact D.l2TO
  exact b3.extBut c o n3 (b2.extBut c o n2 (b1.extBut c o n1 e))
 refine wpAny_bind (a6L q2 D.l2i2 hy fun g4 p2 b4=>wpAny_pure ?_)
 have t4:IsPair g4 TO x b:=b4.extBut _ _ D.TOi2 t3
 refine wpAny_bind (wpAny_seqItems t4 rfl (wpAny_bind (wpAny_updateSeq_pair t4 fun g5 t5 b5=>?_)))
 replace t5:IsPair g5 TO x y:=t5
 refine wpAny_bind (wpAny_letGo (wpAny_pure (wpAny_pure (wpAny_bind (wpAny_seqItems t5 rfl (wpAny_bind (wpAny_newTuple ?_)))))))
 have sz:g5.objs.size=s.heap.objs.size:=by rw [b5.1,b4.1,b3.1,b2.1,b1.1]
 have z5:IsZip g5 z TI TO .ellipsis:=b5.extBut _ _ D.TOz.symm (b4.extBut _ _ D.i2z.symm (b3.extBut _ _ D.TOz.symm (b2.extBut _ _ D.i1z.symm z1)))
 have k5:∀ c o,c ≠ z->c ≠ TO->c ≠ i1->c ≠ i2->s.heap.get? c=some o->g5.get? c=some o:=fun c o c1 c2 c3 c4 e =>
  b5.extBut _ _ c2 (b4.extBut _ _ c4 (b3.extBut _ _ c2 (b2.extBut _ _ c3 (b1.extBut _ _ c1 e))))
 have p1':ItK k1 g5 i1 l1 (k + 1):=p1.at fun o e=>b5.extBut _ _ D.TOi1.symm (b4.extBut _ _ D.i12 (b3.extBut _ _ D.TOi1.symm e))
 have p2':ItK k2 g5 i2 l2 (k + 1):=p2.at fun o e=>b5.extBut _ _ D.TOi2.symm e
 show wpAny _ _ (Builtin.SmallTypes.ownedTupleHandOut (.ref z) (.ref g5.objs.size) >>= _) _ _ _
 refine wpAny_bind ?_
 unfold Builtin.SmallTypes.ownedTupleHandOut
 have z6:IsZip (g5.push { cls:=.type "tuple",data:=.seq #[x,y] }) z TI TO .ellipsis:=Heap.get?_push_of_some _ z5
 refine wpAny_bind (wpAny_setField_rec z6 (by simp) fun g7 z7 b7=>?_)
 replace z7:IsZip g7 z TI TO (rawInt g5.objs.size):=z7
 refine wpAny_setField_rec z7 (by simp) fun g8 z8 b8=>?_
 replace z8:IsZip g8 z TI TO (rawInt g5.objs.size):=z8
 have up:∀ c o,c ≠ z->g5.get? c=some o->g8.get? c=some o:=fun c o c1 e=>b8.extBut _ _ c1 (b7.extBut _ _ c1 (Heap.get?_push_of_some _ e))
 have nz:g5.objs.size ≠ z:=Nat.ne_of_gt (Heap.lt_size z5)
 have t8:IsPair g8 g5.objs.size x y:=b8.extBut _ _ nz (b7.extBut _ _ nz (Heap.get?_push_size _ rfl))
 rw [sz] at z8 t8
 refine wpAny_pure ⟨_,rfl,wpAny_pure ?_⟩
 show Q (some (.ref g5.objs.size)) _
 rw [sz]
 exact hQ g8 z8 (up _ _ D.TOz t5) (p1'.at fun o e=>up _ o D.i1z e) (p2'.at fun o e=>up _ o D.i2z e) t8 fun c o c1 c2 c3 c4 e=>up c o c1 (k5 c o c1 c2 c3 c4 e)
theorem c0Z {k1 k2:Bool} {z TI TO i1 i2 l1 l2:Addr} {k:Nat} {xs ys:Array Value} {a b:Value} {Q:Option Value->Shared->Prop} (hh:A.handled=none) (D:ZipApart z TI TO i1 i2 l1 l2)
  (hz:IsZip s.heap z TI TO .none) (hTI:IsPair s.heap TI (.ref i1) (.ref i2)) (hTO:IsPair s.heap TO a b) (h1:OfK k1 s.heap i1 l1 k xs) (h2:OfK k2 s.heap i2 l2 k ys) (hend:xs[k]? = none\/ys[k]? = none)
  (hQ:∀ h',(∀ c o,c ≠ z->c ≠ TO->c ≠ i1->c ≠ i2->s.heap.get? c=some o->h'.get? c=some o)->Q none { s with heap:=h' }) :
  wpAny (model prog w) A (pyNext (.ref z)) Q E s:=by
 have hT:s.TypeIs (.ref z) "zip":=⟨_,hz,rfl⟩
 unfold pyNext
 refine wpAny_bind (wpAny_attempt (wpAny_callSpecial?_slot (name:=(Str.ofString "__next__")) hT F.slot_zip_next (wpAny_call_entry F.slot_zip_next hT F.entry_zip_next ?_ (F.args_zip_next_1 _))))
 have fin:∀ (g:Heap) (e:Addr),(∀ c o,c ≠ z->c ≠ TO->c ≠ i1->c ≠ i2->s.heap.get? c=some o->g.get? c=some o)->(∃ o,g.get? e=some o/\o.cls=.type "StopIteration") ->
   wpAny (model prog w) A (do if <- isInstance (.ref e) (.type "StopIteration") then pure none else throw (.ref e)) Q E { s with heap:=g }:=fun g e hk ⟨o,ho,hc⟩ =>
  wpAny_bind (wpAny_isInstance (T:="StopIteration") (b:=true) ⟨o,ho,hc⟩ isSubtype_stop (wpAny_pure (hQ _ hk)))
 show wpAny _ _ (field (.ref z) 2 >>= _) _ _ _
 refine wpAny_bind (wpAny_field hz rfl (x:=.bool false) rfl ?_)
 show wpAny _ _ (field (.ref z) 3 >>= _) _ _ _
 refine wpAny_bind (wpAny_field hz rfl (x:=.ref TI) rfl (wpAny_bind (wpAny_seqItems hTI rfl ?_)))
 show wpAny _ _ (Builtin.SmallTypes.ownedTupleIsFree (.ref z) >>= _) _ _ _
 refine wpAny_bind ?_
 unfold Builtin.SmallTypes.ownedTupleIsFree
 refine wpAny_bind (wpAny_field hz rfl (x:=.none) rfl (wpAny_pure ?_))
 simp only [if_true]
 refine wpAny_bind (wpAny_rule (wpAny_bind (wpAny_field hz rfl (x:=.ref TO) rfl (wpAny_bind (wpAny_setField_rec hz (by simp) fun g1 z1 b1=>?_)))))
 replace z1:IsZip g1 z TI TO .ellipsis:=z1
 refine wpAny_bind ?_
 simp only [List.zipIdx_cons,List.zipIdx_nil,forIn_cons,List.forIn_nil]
 refine wpAny_bind (wpAny_bind (wpAny_onRaise ?_))
 show wpAny _ _ (Builtin.SmallTypes.nextOf (.ref i1) >>= _) _ _ _
 have q1:OfK k1 g1 i1 l1 k xs:=h1.kept fun c o hc e=>b1.extBut c o (by rcases hc with rfl | rfl;exact D.i1z;exact D.l1z) e
 cases hx:xs[k]? with
 | none =>
  refine wpAny_bind (b3b hh q1 hx fun g2 e b2 he=>?_)
  obtain ⟨oe,eo,ce⟩:=he
  have z2:IsZip g2 z TI TO .ellipsis:=b2 _ _ D.i1z.symm z1
  have ne:e ≠ z:=fun q=>by subst q;rw [z2] at eo;cases eo;simp at ce
  refine wpAny_setField_rec z2 (by simp) fun g3 _ b3=>fin g3 e (fun c o c1 _ c3 _ q=>b3.extBut _ _ c1 (b2 _ _ c3 (b1.extBut _ _ c1 q))) ⟨oe,b3.extBut _ _ ne eo,ce⟩
 | some x =>
  have hy:ys[k]? = none:=by
   rcases hend with h | h
   . rw [hx] at h;cases h
   . exact h
  refine wpAny_bind (a6L q1 D.l1i1 hx fun g2 p1 b2=>wpAny_pure ?_)
  have t2:IsPair g2 TO a b:=b2.extBut _ _ D.TOi1 (b1.extBut _ _ D.TOz hTO)
  refine wpAny_bind (wpAny_seqItems t2 rfl (wpAny_bind (wpAny_updateSeq_pair t2 fun g3 t3 b3=>?_)))
  refine wpAny_bind (wpAny_letGo (wpAny_pure ?_))
  refine wpAny_bind (wpAny_bind (wpAny_onRaise ?_))
  show wpAny _ _ (Builtin.SmallTypes.nextOf (.ref i2) >>= _) _ _ _
  have q2:OfK k2 g3 i2 l2 k ys:=h2.kept fun c o hc e=>by
   have n1:c ≠ z:=by rcases hc with rfl | rfl;exact D.i2z;exact D.l2z
   have n2:c ≠ i1:=by rcases hc with rfl | rfl;exact D.i12.symm;exact D.l2i1
   have n3:c ≠ TO:=by rcases hc with rfl | rfl;exact D.TOi2.symm;exact D.l2TO
   exact b3.extBut c o n3 (b2.extBut c o n2 (b1.extBut c o n1 e))
  refine wpAny_bind (b3b hh q2 hy fun g4 e b4 he=>?_)
  obtain ⟨oe,eo,ce⟩:=he
  have z4:IsZip g4 z TI TO .ellipsis:=b4 _ _ D.i2z.symm (b3.extBut _ _ D.TOz.symm (b2.extBut _ _ D.i1z.symm z1))
  have ne:e ≠ z:=fun q=>by subst q;rw [z4] at eo;cases eo;simp at ce
  refine wpAny_setField_rec z4 (by simp) fun g5 _ b5=>fin g5 e (fun c o c1 c2 c3 c4 q=>b5.extBut _ _ c1 (b4 _ _ c4 (b3.extBut _ _ c2 (b2.extBut _ _ c3 (b1.extBut _ _ c1 q))))) ⟨oe,b5.extBut _ _ ne eo,ce⟩
end
noncomputable def SqX (K:PySem.W.Frag) (H:Hp) (a:Addr) (xs:List V):Prop:=SqL K H a xs\/SqT K H a xs
theorem SqX.ne {X:Cx} {pins:List (Addr × Obj)} {σ:St} {H:Hp} {s:Shared} {a b:Addr} {xs:List V} (I:Inv X pins σ H s) (h:SqX X.K H a xs) (f:a3P X pins H b):a ≠ b:=by
 have tr:∀ {u:HO},Rd H a u->a ≠ b:=fun {u} r=>by
  rcases r with r | ⟨o,r⟩
  . exact M3 r f.1
  . exact M3 r f.1
 have kk:∀ {o:Obj},X.K.lookup a=some o->a ≠ b:=fun {o} e z=>by
  have eb:X.base.get? a=some o:=I.ok.mod.kin a o e
  rcases f.2.2.2.1 with q | q
  . exact I.ok.a8H a o eb (z ▸ q)
  . exact absurd (Nat.lt_of_lt_of_le (Heap.lt_size eb) (Nat.le_trans I.ok.bsz (by rw [z];exact q))) (Nat.lt_irrefl _)
 rcases h with (r | ⟨o,_,_,e,_⟩) | (r | ⟨o,_,_,e,_⟩)
 . exact tr r
 . exact kk e
 . exact tr r
 . exact kk e
theorem b6D {h:Heap} {a:Addr} {xs ys:Array Value} (h1:h.IsList a xs) (h2:h.IsTuple a ys):False:=by
 obtain ⟨o,e,c,_⟩:=h1
 obtain ⟨o',e',c',_⟩:=h2
 rw [e] at e';cases e'
 rw [c] at c'
 exact absurd c' (by decide)
theorem Inv.c1v {X:Cx} {pins:List (Addr × Obj)} {σ:St} {H:Hp} {s:Shared} {a:Addr} {xs ys:List V} (I:Inv X pins σ H s) (h:SqX X.K H a xs) (h':SqX X.K H a ys):xs=ys:=by
 rcases h with h | h <;> rcases h' with h' | h'
 . exact I.b4U h h'
 . obtain ⟨_,_,p,_⟩:=I.list h
   obtain ⟨_,_,q,_⟩:=I.tuple h'
   exact (b6D p.isList q).elim
 . obtain ⟨_,_,p,_⟩:=I.list h'
   obtain ⟨_,_,q,_⟩:=I.tuple h
   exact (b6D p.isList q).elim
 . exact I.b2T h h'
theorem Inv.b6r {X:Cx} {pins:List (Addr × Obj)} {σ:St} {H:Hp} {s:Shared} {h':Heap} {t':Nat} {ch:List Addr} (I:Inv X pins σ H s) (k:∀ b o,b ∉ ch->s.heap.get? b=some o->h'.get? b=some o) (hn:∀ b ∈ ch,a3P X pins H b):Inv X pins σ H { s with heap:=h',toks:=t' }:=by
 have nit:∀ b u,H b=some u->b ∉ ch:=fun b u e z=>by rw [(hn b z).1] at e;cases e
 refine I.step (g':=s.gens) (d':=s.drawn) (ch:=ch) (fun b hb=>?_) (fun b o _ _ hc e _=>k b o hc e) (fun b o _ _ hc e _=>⟨o.slots,k b o hc e⟩) (fun _ _ _ _ n=>n)
  (fun b o hc e=>⟨o,k b o hc e⟩) (fun _ _ e=>e) (fun _ _ _ e=>e) (fun b ps e=>⟨#[],by rw [e];simp⟩) (fun m hm=>?_) (fun b u e=>?_) I.bare
 . obtain ⟨_,f1,_,f3,f4,f5⟩:=hn b hb
   exact ⟨f3,f1,f4,f5⟩
 . obtain ⟨o,es,ep,ho,r⟩:=hm
   exact ⟨o,es,ep,k _ o (fun z=>(hn _ z).2.1 rfl) ho,r⟩
 . refine (I.hok b u e).a5r (fun c v hc q=>k c v ?_ q) (fun _ q=>q) fun _ _ q=>q
   rcases hc with z | z
   . rw [z];exact nit b u e
   . exact nit c _ z
noncomputable def SqK (kd:Bool) (K:PySem.W.Frag) (H:Hp) (a:Addr) (xs:List V):Prop:=match kd with
 | true=>SqT K H a xs
 | false=>SqL K H a xs
theorem SqK.x {kd:Bool} {K:PySem.W.Frag} {H:Hp} {a:Addr} {xs:List V} (h:SqK kd K H a xs):SqX K H a xs:=by
 cases kd
 . exact .inl h
 . exact .inr h
theorem Inv.sof {X:Cx} {pins:List (Addr × Obj)} {σ:St} {H:Hp} {s:Shared} {kd:Bool} {i a:Addr} {k:Nat} {xs:List V} (I:Inv X pins σ H s) (h:SqK kd X.K H a xs) (it:ItK kd s.heap i a k):∃ its:List Value,Vals xs its/\OfK kd s.heap i a k its.toArray:=by
 cases kd
 . obtain ⟨its,rv,p,hz⟩:=I.list h
   exact ⟨its,rv,it,p.isList⟩
 . obtain ⟨its,rv,p,hz⟩:=I.tuple h
   exact ⟨its,rv,it,p⟩
noncomputable def Itz (k1 k2:Bool) (K:PySem.W.Frag) (a b:Addr):It :=
 ⟨fun i H=>∃ xs ys x y,SqK k1 K H a xs/\SqK k2 K H b ys/\xs[i]? = some x/\ys[i]? = some y,
  fun i H v H'=>∃ p,v=.ref p/\H p=none/\∃ x y,H'=upd H p (.tup [x,y])/\∀ xs ys,SqK k1 K H a xs->SqK k2 K H b ys->xs[i]? = some x/\ys[i]? = some y,
  fun i H=>∃ xs ys,SqK k1 K H a xs/\SqK k2 K H b ys/\(xs.length<=i\/ys.length<=i)⟩
structure c3r (k1 k2:Bool) (z TI TO i1 i2 a b:Addr) (i:Nat) (h:Heap):Prop where
 hz:IsZip h z TI TO .none
 hTI:IsPair h TI (.ref i1) (.ref i2)
 hTO:∃ x y,IsPair h TO x y
 h1:ItK k1 h i1 a i
 h2:ItK k2 h i2 b i
structure c6L (z TI TO i1 i2:Addr):Prop where
 TIz:TI ≠ z
 TOz:TO ≠ z
 i1z:i1 ≠ z
 i2z:i2 ≠ z
 TITO:TI ≠ TO
 TIi1:TI ≠ i1
 TIi2:TI ≠ i2
 TOi1:TO ≠ i1
 TOi2:TO ≠ i2
 i12:i1 ≠ i2
theorem SqK.inj {X:Cx} {pins:List (Addr × Obj)} {σ:St} {H:Hp} {s:Shared} {kd:Bool} {a:Addr} {xs ys:List V} (I:Inv X pins σ H s) (h:SqK kd X.K H a xs) (h':SqK kd X.K H a ys):xs=ys:=I.c1v h.x h'.x
theorem c1g {P:Program} {w:World} {K:PySem.W.Frag} {es:List Expr} {k:Nat} {pos:Pos} {k1 k2:Bool} {z TI TO i1 i2 a b:Addr} (D:c6L z TI TO i1 i2) :
  Turn P w K (.Tuple es k pos) (Itz k1 k2 K a b) [z,TI,TO,i1,i2] z (fun i h=>c3r k1 k2 z TI TO i1 i2 a b i h) where
 mem:=by simp
 obj:=fun i h st c hc=>by
  have hc':c=z\/c=TI\/c=TO\/c=i1\/c=i2:=by simpa using hc
  rcases hc' with rfl | rfl | rfl | rfl | rfl
  . exact ⟨_,st.hz,fun v q=>by cases q⟩
  . exact ⟨_,st.hTI,fun v q=>by cases q⟩
  . obtain ⟨x,y,e⟩:=st.hTO
    exact ⟨_,e,fun v q=>by cases q⟩
  . exact st.h1.obj
  . exact st.h2.obj
 keep:=fun i h h' st kk=>by
  obtain ⟨x,y,e⟩:=st.hTO
  exact ⟨kk z (by simp) _ st.hz,kk TI (by simp) _ st.hTI,⟨x,y,kk TO (by simp) _ e⟩,st.h1.at fun o q=>kk i1 (by simp) o q,st.h2.at fun o q=>kk i2 (by simp) o q⟩
 item:=by
  intro X hP hw hK hc i pins s σ H E I hf st hg
  subst hP hw hK
  obtain ⟨xs,ys,x,y,sx,sy,ex,ey⟩:=hg
  obtain ⟨us,rx,ox⟩:=I.sof sx st.h1
  obtain ⟨vs,ry,oy⟩:=I.sof sy st.h2
  obtain ⟨u,hu,ru⟩:=rx.get ex
  obtain ⟨v,hv,rvv⟩:=ry.get ey
  obtain ⟨x0,y0,eTO⟩:=st.hTO
  have fz:=hf z (by simp)
  have fTO:=hf TO (by simp)
  have f1:=hf i1 (by simp)
  have f2:=hf i2 (by simp)
  have ZA:ZipApart z TI TO i1 i2 a b:=⟨D.TIz,D.TOz,D.i1z,D.i2z,D.TITO,D.TIi1,D.TIi2,D.TOi1,D.TOi2,D.i12,sx.x.ne I fz,sx.x.ne I fTO,sx.x.ne I f1,sx.x.ne I f2,sy.x.ne I fz,sy.x.ne I fTO,sy.x.ne I f1,sy.x.ne I f2⟩
  refine b8H ZA st.hz st.hTI eTO ox oy (x:=u) (y:=v) (by simpa using hu) (by simpa using hv) fun h' g1 g2 g3 g4 g5 g6=>?_
  have hT:H s.heap.objs.size=none:=I.hok.fresh (Nat.le_refl _)
  have I1:Inv X pins σ H { s with heap:=h' }:=I.b6r (t':=s.toks) (ch:=[z,TO,i1,i2]) (fun c o hc e=>g6 c o (fun q=>hc (by simp [q])) (fun q=>hc (by simp [q])) (fun q=>hc (by simp [q])) (fun q=>hc (by simp [q])) e)
   (fun c hc=>hf c (by
    have hc':c=z\/c=TO\/c=i1\/c=i2:=by simpa using hc
    rcases hc' with rfl | rfl | rfl | rfl <;> simp))
  have hTloc:s.heap.objs.size ≠ X.env.locals:=Nat.ne_of_gt I.lt
  have I2:Inv X pins σ (upd H s.heap.objs.size (.tup [x,y])) { s with heap:=h' }:=I1.b7a hT hTloc (.inr I.sz)
   (fun n c e q=>by
    obtain ⟨vv,q2⟩:=I.cell n c e
    exact absurd q2.lt (by rw [q];exact Nat.lt_irrefl _))
   (fun p hp q=>absurd (Heap.lt_size (I.pin p hp).1) (by rw [q];exact Nat.lt_irrefl _))
   ⟨by show 2<=sizeLine;rw [sizeLine_eq];decide,[u,v],.cons ru (.cons rvv .nil),⟨_,g5,rfl,_,rfl⟩⟩
  refine ⟨_,rfl,wpAny_letOwnedTupleGo_zip g1 fun h2 z2 b2=>?_⟩
  have zl:z < s.heap.objs.size:=Heap.lt_size st.hz
  have uz:∀ c,c ∈ [z,TI,TO,i1,i2]->(upd H s.heap.objs.size (.tup [x,y])) c=none:=fun c hc=>by
   have hlt:c < s.heap.objs.size:=by
    have hc':c=z\/c=TI\/c=TO\/c=i1\/c=i2:=by simpa using hc
    rcases hc' with rfl | rfl | rfl | rfl | rfl
    . exact zl
    . exact Heap.lt_size st.hTI
    . exact Heap.lt_size eTO
    . obtain ⟨o,e,_⟩:=st.h1.obj;exact Heap.lt_size e
    . obtain ⟨o,e,_⟩:=st.h2.obj;exact Heap.lt_size e
   rw [s9 (Nat.ne_of_lt hlt)]
   exact (hf c hc).1
  have I3:Inv X pins σ (upd H s.heap.objs.size (.tup [x,y])) { s with heap:=h2 }:=Inv.turned (s:={ s with heap:=h' }) I2 (t':=s.toks) (it:=z) (fun c o hc e=>b2.extBut c o hc e) (uz z (by simp)) fz.2.1 fz.2.2.2.1 fz.2.2.2.2.1 fz.2.2.2.2.2
  refine ⟨.ref s.heap.objs.size,_,I3,rfl,⟨_,rfl,hT,x,y,rfl,fun xs' ys' hx' hy'=>?_⟩,⟨z2,b2.extBut _ _ D.TIz (g6 _ _ D.TIz D.TITO D.TIi1 D.TIi2 st.hTI),⟨_,_,b2.extBut _ _ D.TOz g2⟩,?_,?_⟩,uz⟩
  . rw [hx'.inj I sx,hy'.inj I sy]
    exact ⟨ex,ey⟩
  . exact g3.at fun o q=>b2.extBut _ _ D.i1z q
  . exact g4.at fun o q=>b2.extBut _ _ D.i2z q
 done:=by
  intro X hP hw hK hc i pins s σ H E I hf st hg
  subst hP hw hK
  obtain ⟨xs,ys,sx,sy,hend⟩:=hg
  obtain ⟨us,rx,ox⟩:=I.sof sx st.h1
  obtain ⟨vs,ry,oy⟩:=I.sof sy st.h2
  obtain ⟨x0,y0,eTO⟩:=st.hTO
  have fz:=hf z (by simp)
  have fTO:=hf TO (by simp)
  have f1:=hf i1 (by simp)
  have f2:=hf i2 (by simp)
  have ZA:ZipApart z TI TO i1 i2 a b:=⟨D.TIz,D.TOz,D.i1z,D.i2z,D.TITO,D.TIi1,D.TIi2,D.TOi1,D.TOi2,D.i12,sx.x.ne I fz,sx.x.ne I fTO,sx.x.ne I f1,sx.x.ne I f2,sy.x.ne I fz,sy.x.ne I fTO,sy.x.ne I f1,sy.x.ne I f2⟩
  have lx:=rx.length
  have ly:=ry.length
  refine c0Z (I.ok.hd hc) ZA st.hz st.hTI eTO ox oy ?_ fun h' g6=>⟨rfl,?_⟩
  . rcases hend with q | q
    . exact .inl (by simp;omega)
    . exact .inr (by simp;omega)
  . exact I.b6r (t':=s.toks) (ch:=[z,TO,i1,i2]) (fun c o hc e=>g6 c o (fun q=>hc (by simp [q])) (fun q=>hc (by simp [q])) (fun q=>hc (by simp [q])) (fun q=>hc (by simp [q])) e)
      (fun c hc=>hf c (by
       have hc':c=z\/c=TO\/c=i1\/c=i2:=by simpa using hc
       rcases hc' with rfl | rfl | rfl | rfl <;> simp))
 self:=fun _ _ _ _ _ st h=>wpAny_pyIter_zip st.hz h
noncomputable def ExcAt (e C dx:Addr) (h:Heap):Prop:=∃ vs,h.get? e=some { cls:=.ref C,dict:=some dx,data:=.fields vs }
noncomputable def E4 (e C:Addr) (dx:Option Addr) (h:Heap):Prop:=∃ t,h.get? e=some { cls:=.ref C,dict:=dx,data:=.fields #[.ref t,.none,.none,.none,.bool false,.none] }
theorem E4.keep {e C:Addr} {dx:Option Addr} {h h':Heap} (x:E4 e C dx h) (k:∀ o,h.get? e=some o->h'.get? e=some o):E4 e C dx h':=let ⟨t,q⟩:=x;⟨t,k _ q⟩
noncomputable def a0d (C:Addr) (fld:Str) (d:PyData):PyData:=.dict [(.tuple [.int (C:Nat),.str fld],d)]
theorem ExcAt.keep {e C dx:Addr} {h h':Heap} (x:ExcAt e C dx h) (k:∀ o,h.get? e=some o->h'.get? e=some o):ExcAt e C dx h':=let ⟨vs,q⟩:=x;⟨vs,k _ q⟩
structure a2z (K:PySem.W.Frag) (C:Addr):Prop where
 ga:PySem.W.findIn K (.ref C) "__getattribute__" = some (some (.builtin "BaseException.__getattribute__"))
 gt:PySem.W.findIn K (.ref C) "__getattr__" = some none
 hd:PySem.W.hasDictIn K C=true
 be:PySem.W.mroIn K C (.type "BaseException")=some true
 cl:PySem.W.findIn K (.ref C) "__class__" = some (some (.builtin "object.__class__"))
 cg:PySem.W.specialIn K (.builtin "object.__class__") "__get__" = some (some (.builtin "getset_descriptor.__get__"))
 ct:PySem.W.takesIn K (.builtin "object.__class__")=some true
 ob:PySem.W.mroIn K C (.type "object")=some true
 n1:PySem.W.kitOne K (.ref C) (.type "tuple")=some false
 n2:PySem.W.kitOne K (.ref C) (.type "list")=some false
 n3:PySem.W.kitOne K (.ref C) (.type "bool")=some false
 n4:PySem.W.kitOne K (.ref C) (.type "int")=some false
 n5:PySem.W.kitOne K (.ref C) (.type "str")=some false
noncomputable def a2l (n:String):Prop:=n = "tuple"\/n = "list"\/n = "bool"\/n = "int"\/n = "str"
theorem a2z.a2l {K:PySem.W.Frag} {C:Addr} (T:a2z K C) {n:String} (h:L2.a2l n):PySem.W.kitOne K (.ref C) (.type n)=some false:=by
 rcases h with rfl | rfl | rfl | rfl | rfl
 . exact T.n1
 . exact T.n2
 . exact T.n3
 . exact T.n4
 . exact T.n5
section
variable {prog:Program} {w:World} {A:Around} {E:Value->Shared->Prop} {s:Shared} {K:PySem.W.Frag} {x C:Addr} {ox:Obj} {od:Option Obj} {name:Str}
theorem c2u {v:Value} {tk:Tok} {R:Result->Shared->Prop} (T:a2z K C) (X:K.In s.heap) (I:PySem.W.InstAt s.heap x ox C od) (hf:PySem.W.findObj K C od name=some (.value v)) (h:R (.ok (.ret v)) s) :
  codeAny (model prog w) A (.call (.builtin "BaseException.__getattribute__") ⟨[.ref x,.str name tk],[]⟩) R s:=by
 obtain ⟨hh,g,d,t,os⟩:=s
 refine codeAny_call_builtin F.excAttr_ValueError.ga.plain F.entry_bexc_ga ?_
 have L0:=I.type (M:=model prog w)
 have L1:=PySem.W.looks_find (M:=model prog w) X I hf
 have L2:=PySem.W.looks_mroIn (M:=model prog w) X T.be
 have hk:builtinKind "BaseException.__getattribute__" = some .slot:=by decide +kernel
 have hsplit:splitId "BaseException.__getattribute__" = some ("BaseException","__getattribute__"):=by decide +kernel
 have ha:=F.args_bexc_ga (.ref x) (.str name tk)
 simp only [checkBuiltinCall,hk,hsplit]
 refine wpAny_bind ?_
 unfold isInstance
 refine wpAny_bind (L0.at (L2.at ?_))
 repeat (first | wp_step)
 refine wpAny_loadPart_at I.at_ ?_
 rw [I.cls]
 refine wpAny_pure (wpAny_bind (L1.at ?_))
 exact wpAny_pure h
theorem c0v {tk:Tok} {R:Result->Shared->Prop} (T:a2z K C) (X:K.In s.heap) (I:PySem.W.InstAt s.heap x ox C od) (hf:PySem.W.findObj K C od "__class__" = some (.bind (.builtin "getset_descriptor.__get__") (.builtin "object.__class__")))
  (h:R (.ok (.ret (.ref C))) s) :
  codeAny (model prog w) A (.call (.builtin "BaseException.__getattribute__") ⟨[.ref x,.str "__class__" tk],[]⟩) R s:=by
 obtain ⟨hh,g,d,t,os⟩:=s
 refine codeAny_call_builtin F.excAttr_ValueError.ga.plain F.entry_bexc_ga ?_
 have L0:=I.type (M:=model prog w)
 have L1:=PySem.W.looks_find (M:=model prog w) X I hf
 have L2:=PySem.W.looks_mroIn (M:=model prog w) X T.be
 have hk:builtinKind "BaseException.__getattribute__" = some .slot:=by decide +kernel
 have hsplit:splitId "BaseException.__getattribute__" = some ("BaseException","__getattribute__"):=by decide +kernel
 have ha:=F.args_bexc_ga (.ref x) (.str "__class__" tk)
 simp only [checkBuiltinCall,hk,hsplit]
 refine wpAny_bind ?_
 unfold isInstance
 refine wpAny_bind (L0.at (L2.at ?_))
 repeat (first | wp_step)
 refine wpAny_loadPart_at I.at_ ?_
 rw [I.cls]
 refine wpAny_pure (wpAny_bind (L1.at ?_))
 dsimp only
 repeat (any_goals (first | assumption | wp_step))
 refine PySem.W.class_get (s:=⟨hh,g,d,t,os⟩) X I T.ob ?_
 repeat (any_goals (first | assumption | wp_step))
theorem c6C {v:Value} {tk:Tok} {fill expr:Bool} {Q:Value->Shared->Prop} (T:a2z K C) (X:K.In s.heap) (I:PySem.W.InstAt s.heap x ox C od) (hf:PySem.W.findObj K C od name=some (.value v)) (hh:PySem.W.handedIn v=true) (h:Q v s) :
  wpAny (model prog w) A (getAttrBy (.ref x) (.str name tk) fill expr) Q E s:=by
 obtain ⟨hp,g,d,t,os⟩:=s
 have L0:=I.type (M:=model prog w)
 have L1:=PySem.W.looks_findIn (M:=model prog w) X T.ga
 have L2:=PySem.W.looks_findIn (M:=model prog w) X T.gt
 have f3:=F.excAttr_ValueError.ga.bind (.ref x)
 have hx0:(expr&&onTheHeap (Value.builtin "BaseException.__getattribute__"))=false:=by cases expr <;> rfl
 have hx2:(Value.builtin "BaseException.__getattribute__"==Value.builtin "object.__getattribute__")=false:=by decide +kernel
 have hx1:(onTheHeap (Value.ref C)&&Value.builtin "BaseException.__getattribute__"==Value.builtin "object.__getattribute__")=false:=by rw [hx2];rfl
 unfold getAttrBy
 refine wpAny_holding (wpAny_bind (L0.at (wpAny_bind (L1.at ?_))))
 dsimp only
 rw [if_neg (by rw [hx1];decide)]
 unfold getAttrByItsOwn
 repeat (any_goals (first | assumption | (with_reducible refine L2.at ?_) | wp_step))
 refine c2u (s:=⟨hp,g,d,t,os⟩) T X I hf ?_
 dsimp only
 rw [PySem.W.handedOut_of hh]
 exact wpAny_pure h
theorem c2v {v:Value} {expr:Bool} {Q:Value->Shared->Prop} (T:a2z K C) (X:K.In s.heap) (I:PySem.W.InstAt s.heap x ox C od) (hf:PySem.W.findObj K C od name=some (.value v)) (hh:PySem.W.handedIn v=true) (h:Q v { s with toks:=s.toks + 1 }) :
  wpAny (model prog w) A (getAttr (.ref x) name expr) Q E s:=by
 unfold getAttr
 exact wpAny_bind (wpAny_mkText (c6C (s:={ s with toks:=s.toks + 1 }) T X I hf hh h))
theorem c4M {tk:Tok} {fill expr:Bool} {Q:Value->Shared->Prop} (T:a2z K C) (X:K.In s.heap) (I:PySem.W.InstAt s.heap x ox C od) (hf:PySem.W.findObj K C od "__class__" = some (.bind (.builtin "getset_descriptor.__get__") (.builtin "object.__class__"))) (h:Q (.ref C) s) :
  wpAny (model prog w) A (getAttrBy (.ref x) (.str "__class__" tk) fill expr) Q E s:=by
 obtain ⟨hp,g,d,t,os⟩:=s
 have L0:=I.type (M:=model prog w)
 have L1:=PySem.W.looks_findIn (M:=model prog w) X T.ga
 have L2:=PySem.W.looks_findIn (M:=model prog w) X T.gt
 have f3:=F.excAttr_ValueError.ga.bind (.ref x)
 have hx0:(expr&&onTheHeap (Value.builtin "BaseException.__getattribute__"))=false:=by cases expr <;> rfl
 have hx2:(Value.builtin "BaseException.__getattribute__"==Value.builtin "object.__getattribute__")=false:=by decide +kernel
 have hx1:(onTheHeap (Value.ref C)&&Value.builtin "BaseException.__getattribute__"==Value.builtin "object.__getattribute__")=false:=by rw [hx2];rfl
 unfold getAttrBy
 refine wpAny_holding (wpAny_bind (L0.at (wpAny_bind (L1.at ?_))))
 dsimp only
 rw [if_neg (by rw [hx1];decide)]
 unfold getAttrByItsOwn
 repeat (any_goals (first | assumption | (with_reducible refine L2.at ?_) | wp_step))
 refine c0v (s:=⟨hp,g,d,t,os⟩) T X I hf ?_
 dsimp only
 rw [PySem.W.handedOut_of rfl]
 exact wpAny_pure h
theorem c0u {Q:Option Value->Shared->Prop} {o:Obj} (T:a2z K C) (X:K.In s.heap) (I:PySem.W.InstAt s.heap x ox C (some o)) (h:Q (some (.ref C)) { s with toks:=s.toks + 1 }):wpAny (model prog w) A (getAttr? (.ref x) "__class__") Q E s:=by
 have hf:PySem.W.findObj K C (some o) "__class__" = some (.bind (.builtin "getset_descriptor.__get__") (.builtin "object.__class__")):=PySem.W.findObj_data (by obtain ⟨cd,hc,_⟩:=PySem.W.any_some T.hd;rw [hc];rfl) T.cl T.cg T.ct
 unfold getAttr? getAttrBy?
 refine wpAny_bind (wpAny_mkText (wpAny_bind (wpAny_attempt (c4M (s:={ s with toks:=s.toks + 1 }) T X I hf ?_))))
 exact wpAny_pure h
theorem b4V {dx:Addr} (T:a2z K C):PySem.W.KitX K (.ref x) (.ref C) (fun h=>ExcAt x C dx h/\∃ o,h.get? dx=some o) where
 ty:=fun _ _ _ I=>by
  obtain ⟨⟨vs,h1⟩,_⟩:=I
  exact (PySem.W.Looks.ld h1).andThen .now
 it:=fun _ _ X _=>by
  obtain ⟨cdD,hcD,_⟩:=PySem.W.any_some T.hd
  unfold PySem.W.clsIn at hcD
  split at hcD
  . rename_i c' d' cd' sl' ho
    intro A' Q' E' s' k q
    unfold isType loadHead
    exact wpAny_bind (wpAny_loadPart (k _ _ (X _ _ ho)) (wpAny_pure q))
  . cases hcD
 ne:=fun h tp dd its n sl X htp=>by
  obtain ⟨cdD,hcD,_⟩:=PySem.W.any_some T.hd
  refine Bool.eq_false_iff.mpr fun q=>?_
  have e:C=tp:=Value.ref.inj (beq_iff_eq.mp q)
  subst e
  unfold PySem.W.clsIn at hcD
  split at hcD
  . rename_i c' d' cd' sl' ho
    have z:=(X _ _ ho).symm.trans htp
    cases z
  . cases hcD
 ca:=fun X I k=>by
  obtain ⟨⟨vs,h1⟩,o,h2⟩:=I
  exact c0u T X (ox:=_) (o:=o) ⟨h1,rfl,rfl,h2⟩ k
end
noncomputable def itO (kd:Bool) (l:Addr):Obj:=match kd with
 | true=>{ cls:=.type "tuple_iterator",data:=.fields #[.ref l,.int 0 0] }
 | false=>{ cls:=.type "list_iterator",data:=.fields #[.ref l,.int 0 0] }
noncomputable def a3O (kd:Bool) (h:Heap) (l:Addr) (xs:Array Value):Prop:=match kd with
 | true=>h.IsTuple l xs
 | false=>h.IsList l xs
theorem a3O.push {kd:Bool} {h:Heap} {l:Addr} {xs:Array Value} (x:a3O kd h l xs) (o:Obj):a3O kd (h.push o) l xs:=by
 cases kd
 . exact Heap.IsList.push (show h.IsList l xs from x) o
 . exact Heap.IsTuple.push (show h.IsTuple l xs from x) o
theorem ItK.new {kd:Bool} {h:Heap} {i l:Addr} (e:h.get? i=some (itO kd l)):ItK kd h i l 0:=by
 cases kd
 . exact ⟨_,e,rfl,rfl⟩
 . exact ⟨_,e,rfl,rfl⟩
theorem c3i {prog:Program} {w:World} {A:Around} {E:Value->Shared->Prop} {s:Shared} {kd:Bool} {l:Addr} {xs:Array Value} {Q:Value->Shared->Prop} (x:a3O kd s.heap l xs)
  (hQ:Q (.ref s.heap.objs.size) { s with heap:=s.heap.push (itO kd l) }):wpAny (model prog w) A (pyIter (.ref l)) Q E s:=by
 cases kd
 . exact wpAny_pyIter_list (show s.heap.IsList l xs from x) hQ
 . exact wpAny_pyIter_tuple (show s.heap.IsTuple l xs from x) hQ
noncomputable abbrev zh1 (k1:Bool) (h:Heap) (a:Addr):Heap:=h.push (itO k1 a)
noncomputable abbrev zh2 (k1 k2:Bool) (h:Heap) (a b:Addr):Heap:=(zh1 k1 h a).push (itO k2 b)
noncomputable abbrev zh3 (k1 k2:Bool) (h:Heap) (a b:Addr):Heap:=(zh2 k1 k2 h a b).push { cls:=.type "tuple",data:=.seq #[.ref h.objs.size,.ref (zh1 k1 h a).objs.size] }
noncomputable abbrev zh4 (k1 k2:Bool) (h:Heap) (a b:Addr):Heap:=(zh3 k1 k2 h a b).push { cls:=.type "tuple",data:=.seq #[.none,.none] }
noncomputable abbrev zh5 (k1 k2:Bool) (h:Heap) (a b:Addr):Heap:=(zh4 k1 k2 h a b).push { cls:=.type "zip",data:=.fields #[.none,.bool false,.bool false,.ref (zh2 k1 k2 h a b).objs.size,.ref (zh3 k1 k2 h a b).objs.size] }
theorem b7T (k1 k2:Bool) (a b:Addr) (xs ys:Array Value) :
  Meets (Builtin.«zip.__new__» ⟨[.type "zip",.ref a,.ref b],[]⟩) (fun _ R s=>a3O k1 s.heap a xs/\a3O k2 s.heap b ys /\
   R (.ok (.ret (.ref (zh4 k1 k2 s.heap a b).objs.size))) { s with heap:=zh5 k1 k2 s.heap a b }) :=
 .of_wp fun prog w A R s h=>by
  obtain ⟨hp,g,d,tk,os⟩:=s
  obtain ⟨x1,x2,h⟩:=h
  have hsub:=sub_zip
  have y1:a3O k1 (Shared.heap ⟨hp,g,d,tk,os⟩) a xs:=x1
  have y2:a3O k2 (Shared.heap ⟨hp.push (itO k1 a),g,d,tk,os⟩) b ys:=a3O.push x2 _
  wp_walk using c3i y1,c3i y2
  exact ⟨_,rfl,h⟩
section
variable {prog:Program} {w:World} {A:Around} {E:Value->Shared->Prop} {s:Shared}
theorem c0C {k1 k2:Bool} {a b:Addr} {xs ys:Array Value} {Q:Value->Shared->Prop} (x1:a3O k1 s.heap a xs) (x2:a3O k2 s.heap b ys)
  (h:∀ h',c3r k1 k2 (s.heap.objs.size + 4) (s.heap.objs.size + 2) (s.heap.objs.size + 3) s.heap.objs.size (s.heap.objs.size + 1) a b 0 h' ->
   (∀ c o,s.heap.get? c=some o->h'.get? c=some o)->Q (.ref (s.heap.objs.size + 4)) { s with heap:=h' }) :
  wpAny (model prog w) A (call (.type "zip") [.ref a,.ref b]) Q E s:=by
 refine callType_new F.called_zip (by decide) (F.typeCall_zip_2 _ _) (F.newCall_zip_2 _ _) (fun obj=>F.args_object_init_3 obj _ _) F.entry_zip_new (b7T k1 k2 a b xs ys) ⟨x1,x2,?_⟩
 have z1:(zh1 k1 s.heap a).objs.size=s.heap.objs.size + 1:=Heap.size_push ..
 have z2:(zh2 k1 k2 s.heap a b).objs.size=s.heap.objs.size + 2:=by rw [Heap.size_push,z1]
 have z3:(zh3 k1 k2 s.heap a b).objs.size=s.heap.objs.size + 3:=by rw [Heap.size_push,z2]
 have z4:(zh4 k1 k2 s.heap a b).objs.size=s.heap.objs.size + 4:=by rw [Heap.size_push,z3]
 have g5:(zh5 k1 k2 s.heap a b).get? (zh4 k1 k2 s.heap a b).objs.size=some _:=Heap.get?_push_size _ rfl
 have g4:(zh5 k1 k2 s.heap a b).get? (zh3 k1 k2 s.heap a b).objs.size=some _:=Heap.get?_push_of_some _ (Heap.get?_push_size _ rfl)
 have g3:(zh5 k1 k2 s.heap a b).get? (zh2 k1 k2 s.heap a b).objs.size=some _:=Heap.get?_push_of_some _ (Heap.get?_push_of_some _ (Heap.get?_push_size _ rfl))
 have f2:(itO k2 b).isFreed=false:=by cases k2 <;> rfl
 have f1:(itO k1 a).isFreed=false:=by cases k1 <;> rfl
 have g2:(zh5 k1 k2 s.heap a b).get? (zh1 k1 s.heap a).objs.size=some _:=Heap.get?_push_of_some _ (Heap.get?_push_of_some _ (Heap.get?_push_of_some _ (Heap.get?_push_size _ f2)))
 have g1:(zh5 k1 k2 s.heap a b).get? s.heap.objs.size=some _:=Heap.get?_push_of_some _ (Heap.get?_push_of_some _ (Heap.get?_push_of_some _ (Heap.get?_push_of_some _ (Heap.get?_push_size _ f1))))
 show _/\_
 rw [z2,z3,z4] at g5
 rw [z1,z2] at g3
 rw [z3] at g4
 rw [z1] at g2
 rw [z4]
 exact ⟨⟨_,g5,rfl⟩,h _ ⟨g5,g3,⟨_,_,g4⟩,.new g1,.new g2⟩ fun c o x =>
  Heap.get?_push_of_some _ (Heap.get?_push_of_some _ (Heap.get?_push_of_some _ (Heap.get?_push_of_some _ (Heap.get?_push_of_some _ x))))⟩
end
theorem c1a (n:Nat):c6L (n + 4) (n + 2) (n + 3) n (n + 1):=by
 constructor <;> (show @Ne Nat _ _) <;> omega
section
variable {X:Cx} {es:List Expr} {k:Nat} {tp:Pos}
theorem Inv.R4 {pins:List (Addr × Obj)} {σ:St} {H:Hp} {s:Shared} {kd:Bool} {a:Addr} {xs:List V} (I:Inv X pins σ H s) (h:SqK kd X.K H a xs):∃ its:List Value,a3O kd s.heap a its.toArray:=by
 cases kd
 . obtain ⟨its,_,p,_⟩:=I.list h
   exact ⟨its,p.isList⟩
 . obtain ⟨its,_,p,_⟩:=I.tuple h
   exact ⟨its,p⟩
end
section
variable {bs:List Str} {g:TG} {te:TE} {σ:St} {H:Hp} {Q:VK}
end
section
variable {X:Cx}
theorem b4i:∀ {bs:List Bool} {us:List Value},Vals (bs.map V.bl) us->us=bs.map Value.bool
 | [],_,.nil=>rfl
 | b::r,_,.cons h t=>by rw [b4i t];cases h;rfl
theorem a5Y:∀ (bs:List Bool) (d:Bool),(List.range bs.length).all (fun i=>bs.getD i d)=bs.all id
 | [],_=>rfl
 | b::r,d=>by
  rw [length_cons,List.range_succ_eq_map,all_cons,List.all_map,all_cons]
  have:=a5Y r d
  simp only [List.getD_cons_zero,Function.comp_def,List.getD_cons_succ,id]
  rw [this]
theorem c2E:O4 X (.builtin "all") (fun xs H Q=>∃ (p:Addr) (bs:List Bool),xs=[.ref p]/\SqL X.K H p (bs.map V.bl)/\X.A.handled=none/\Q (.bl (bs.all id)) H):=by
 intro pins s σ H xs us Q I r h
 obtain ⟨p,bs,rfl,hq,hh,q⟩:=h
 obtain ⟨u,rfl,ru⟩:=vals1 r
 cases ru
 obtain ⟨its,rv,pl,hz⟩:=I.list hq
 have ei:its=bs.map Value.bool:=b4i rv
 refine call_all_walk (wpAny_pyIter_list pl.isList ?_)
 have lt:p < s.heap.objs.size:=by obtain ⟨o,e,_⟩:=pl.isList;exact Heap.lt_size e
 refine ⟨s.heap.objs.size,_,_,_,_,_,fun i=>bs.getD i false,rfl,Walks.list (A:=X.A.in1) hh s.heap.objs.size p (Nat.ne_of_lt lt) its.toArray,⟨⟨_,Heap.get?_push_size _ rfl,rfl,rfl⟩,pl.isList.push _⟩,?_,fun h' tk kk=>?_⟩
 . intro i v s' Q' E' hv hq'
   have e:(bs.map Value.bool)[i]? = some v:=by rw [<-ei];simpa using hv
   rw [List.getElem?_map] at e
   cases eb:bs[i]? with
   | none=>rw [eb] at e;cases e
   | some b =>
    rw [eb] at e
    cases e
    have:bs.getD i false=b:=by rw [List.getD_eq_getElem?_getD,eb];rfl
    have hq2:Q' b s':=by rw [<-this];exact hq'
    exact wpAny_truthy_bool hq2
 . have el:its.toArray.size=bs.length:=by rw [ei];simp
   rw [el,a5Y]
   refine ⟨.bl (bs.all id),H,?_,rfl,q⟩
   have I1:Inv X pins σ H { s with heap:=s.heap.push { cls:=.type "list_iterator",data:=.fields #[.ref p,.int 0 0] } }:=I.kept (t':=s.toks) fun b o e=>Heap.get?_push_of_some _ e
   have f:=I.b0I (Nat.le_refl _) (I.hok.fresh (Nat.le_refl s.heap.objs.size))
   exact Inv.turned (s:={ s with heap:=s.heap.push { cls:=.type "list_iterator",data:=.fields #[.ref p,.int 0 0] } }) I1 (it:=s.heap.objs.size) (fun b o hb e=>kk b o (by simpa using hb) e) f.1 f.2.1 f.2.2.2.1 f.2.2.2.2.1 f.2.2.2.2.2
end
structure Bt (m:Nat) (i:Int):Prop where
 lt:i.natAbs < 2 ^ m
theorem Bt.mono {m n:Nat} {i:Int} (h:Bt m i) (hl:m<=n):Bt n i:=⟨Nat.lt_of_lt_of_le h.lt (Nat.pow_le_pow_right (by decide) hl)⟩
theorem Bt.of_le {m:Nat} {i j:Int} (h:Bt m j) (hl:i.natAbs<=j.natAbs):Bt m i:=⟨Nat.lt_of_le_of_lt hl h.lt⟩
theorem Bt.neg {m:Nat} {i:Int} (h:Bt m i):Bt m (-i):=h.of_le (by omega)
theorem Bt.mul {m n:Nat} {i j:Int} (h:Bt m i) (h':Bt n j):Bt (m + n) (i * j):=⟨by
 rw [Int.natAbs_mul,Nat.pow_add]
 exact Nat.mul_lt_mul'' h.lt h'.lt⟩
theorem Bt.small {i:Int} (h1 : -(2 ^ 62) < i) (h2:i < 2 ^ 62):Bt 62 i:=⟨by omega⟩
theorem Bt.c7p {m n:Nat} {i j:Int} (h:Bt m i) (h':Bt n j) (hm:m + n<=134217728):IntMulOk i j:=IntMulOk.of_le (intBits_le_iff.mpr h.lt) (intBits_le_iff.mpr h'.lt) hm
section
variable {X:Cx}
theorem a1g:OpR X (binaryOp .Mult) (rI (fun i j=>Bt 60000 i/\Bt 60000 j) fun i j=>.int (i * j)):=opI fun i j _ _ _ _ _ hc q=>mul_int q (hc.1.c7p hc.2 (by decide))
theorem a1I:OpR X (binaryOp .FloorDiv) (rI (fun _ j=>j ≠ 0/\Bt 8000 j) fun i j=>.int (i.fdiv j)):=opI fun i j _ _ _ _ _ hc q=>floordiv_int hc.1 q (.inl (PyProof.noPylong_of_log2 (by
 have h:=hc.2.lt
 have h0:j.natAbs ≠ 0:=by have:=hc.1;omega
 have:=(Nat.log2_lt h0).mpr h
 omega)))
noncomputable def fnD (nm:Str):PyData:=.dict [(.str nm,.none)]
noncomputable def a9H:PyData->Bool
 | .dict [(.str _,.none)]=>true
 | _=>false
mutual
inductive Dt (K:PySem.W.Frag) (H:Hp):V->PyData->Prop
 | non:Dt K H .non .none
 | bl (b):Dt K H (.bl b) (.bool b)
 | int (i):Dt K H (.int i) (.int i)
 | str (x):Dt K H (.str x) (.str x)
 | tup {a xs ds}:SqT K H a xs->Dts K H xs ds->Dt K H (.ref a) (.tuple ds)
 | lst {a xs ds}:SqL K H a xs->Dts K H xs ds->Dt K H (.ref a) (.list ds)
 | exc {ea C dx fld v d}:a2z K C->PySem.W.findIn K (.ref C) fld=some none->H ea=some (.ext (ExcAt ea C dx))->H dx=some (.xd [(fld,v)])->Dt K H v d->Dt K H (.ref ea) (a0d C fld d)
 | fn {f nm}:PySem.W.nsIn K mainGlobals nm=some (some (.ref f))->Dt K H (.ref f) (fnD nm)
inductive Dts (K:PySem.W.Frag) (H:Hp):List V->List PyData->Prop
 | nil:Dts K H [] []
 | cons {x xs d ds}:Dt K H x d->Dts K H xs ds->Dts K H (x::xs) (d::ds)
end
theorem j4.a1H {K:PySem.W.Frag} {H H':Hp} {a:Addr} {xs:List V} (e:j4 H H') (h:SqT K H a xs):SqT K H' a xs:=by
 rcases h with (h | ⟨o,h⟩) | h
 . exact .inl (.inl (e _ _ h))
 . exact .inl (.inr ⟨o,e _ _ h⟩)
 . exact .inr h
theorem j4.new {H:Hp} {p:Addr} {o:HO} (h:H p=none):j4 H (upd H p o):=fun b u e=>by rw [s9 (M3 e h)];exact e
mutual
theorem Dt.same {K:PySem.W.Frag} {H H':Hp} (e:j4 H H') {x:V} {d:PyData} (h:Dt K H x d):Dt K H' x d:=by
 cases h with
 | non=>exact .non
 | bl b=>exact .bl b
 | int i=>exact .int i
 | str x=>exact .str x
 | tup h t=>exact .tup (e.a1H h) (Dts.same e t)
 | lst h t=>exact .lst (e.seq h) (Dts.same e t)
 | exc c n h1 h2 t=>exact .exc c n (e _ _ h1) (e _ _ h2) (Dt.same e t)
 | fn h=>exact .fn h
theorem Dts.same {K:PySem.W.Frag} {H H':Hp} (e:j4 H H') {xs:List V} {ds:List PyData} (h:Dts K H xs ds):Dts K H' xs ds:=by
 cases h with
 | nil=>exact .nil
 | cons h t=>exact .cons (Dt.same e h) (Dts.same e t)
end
theorem Dts.length {K:PySem.W.Frag} {H:Hp}:∀ {xs:List V} {ds:List PyData},Dts K H xs ds->xs.length=ds.length
 | _,_,.nil=>rfl
 | _,_,.cons _ t=>by rw [length_cons,length_cons,Dts.length t]
theorem Dts.get {K:PySem.W.Frag} {H:Hp}:∀ {xs:List V} {ds:List PyData} {i:Nat} {d:PyData},Dts K H xs ds->ds[i]? = some d->∃ x,xs[i]? = some x/\Dt K H x d
 | _,_,_,_,.nil,e=>by simp at e
 | _,_,0,_,.cons h _,e=>by simp at e;subst e;exact ⟨_,rfl,h⟩
 | _,_,i + 1,d,.cons _ t,e=>by
  obtain ⟨x,h1,h2⟩:=Dts.get (i:=i) (d:=d) t (by simpa using e)
  exact ⟨x,by simpa using h1,h2⟩
mutual
theorem Inv.reads {pins:List (Addr × Obj)} {σ:St} {H:Hp} {s:Shared} (I:Inv X pins σ H s) {x:V} {u:Value} {d:PyData} (h:Dt X.K H x d) (r:RelV x u) (hc:d.canLay0=true):∃ as,Reads s.heap u d as:=by
 cases h with
 | non=>cases r;exact ⟨_,.none⟩
 | bl b=>cases r;exact ⟨_,.bool b⟩
 | int i=>obtain ⟨t,rfl⟩:=r;exact ⟨_,.int i t⟩
 | str y=>obtain ⟨t,rfl⟩:=r;exact ⟨_,.str y t⟩
 | tup h t =>
  cases r
  obtain ⟨its,rv,⟨o,e,c,n,dd⟩,_⟩:=I.tuple h
  obtain ⟨as,ra⟩:=Inv.readsAll I t rv (by rw [PyData.canLay0] at hc;exact hc)
  exact ⟨_,.tuple e c dd (by simpa using ra)⟩
 | lst h t =>
  cases r
  obtain ⟨its,rv,pl,_⟩:=I.list h
  obtain ⟨o,e,c,n,dd⟩:=pl.isList
  obtain ⟨as,ra⟩:=Inv.readsAll I t rv (by rw [PyData.canLay0] at hc;exact hc)
  exact ⟨_,.list e c dd (by simpa using ra)⟩
 | exc _ _ _ _ _=>rw [a0d,PyData.canLay0] at hc;cases hc
 | fn _=>rw [fnD,PyData.canLay0] at hc;cases hc
theorem Inv.readsAll {pins:List (Addr × Obj)} {σ:St} {H:Hp} {s:Shared} (I:Inv X pins σ H s) {xs:List V} {us:List Value} {ds:List PyData} (h:Dts X.K H xs ds) (r:Vals xs us) (hc:PyData.canLayAll0 ds=true):∃ as,ReadsAll s.heap us ds as:=by
 cases h with
 | nil=>cases r;exact ⟨_,.nil⟩
 | cons h t =>
  cases r with
  | cons r rr =>
   rw [PyData.canLayAll0,Bool.and_eq_true] at hc
   obtain ⟨as,ra⟩:=Inv.reads I h r hc.1
   obtain ⟨bs,rb⟩:=Inv.readsAll I t rr hc.2
   exact ⟨_,.cons ra rb⟩
end
theorem c5Z (hu:X.A.units + 64 < cLine):OpR X (compareOp .Eq) (fun x y H Q=>∃ d e,Dt X.K H x d/\Dt X.K H y e/\SeqAt.shaped d=true/\SeqAt.shaped e=true/\Q (.bl (PyData.eqv d e)) H):=by
 intro pins s σ H x y v u Q I rx ry h
 obtain ⟨d,e,h1,h2,s1,s2,q⟩:=h
 obtain ⟨as,ra⟩:=I.reads h1 rx (SeqAt.canLay_of_shaped s1)
 obtain ⟨bs,rb⟩:=I.reads h2 ry (SeqAt.canLay_of_shaped s2)
 exact eq_dataH ra rb s1 s2 hu ⟨.bl _,H,I,rfl,q⟩
theorem c5X (hu:X.A.units + 64 < cLine):OpR X (compareOp .NotEq) (fun x y H Q=>∃ d e,Dt X.K H x d/\Dt X.K H y e/\SeqAt.shaped d=true/\SeqAt.shaped e=true/\Q (.bl (!PyData.eqv d e)) H):=by
 intro pins s σ H x y v u Q I rx ry h
 obtain ⟨d,e,h1,h2,s1,s2,q⟩:=h
 obtain ⟨as,ra⟩:=I.reads h1 rx (SeqAt.canLay_of_shaped s1)
 obtain ⟨bs,rb⟩:=I.reads h2 ry (SeqAt.canLay_of_shaped s2)
 exact ne_dataH ra rb s1 s2 hu ⟨.bl _,H,I,rfl,q⟩
end
theorem c1x (i j:Int):b4s (.int i) (.int j)=true:=rfl
theorem c1w (i j:Str):b4s (.str i) (.str j)=true:=rfl
theorem c3J (i j:Bool):b4s (.bl i) (.bl j)=true:=rfl
noncomputable def b2a:PyData->String
 | .none=>"NoneType"
 | .bool _=>"bool"
 | .int _=>"int"
 | .str _=>"str"
 | .tuple _=>"tuple"
 | .list _=>"list"
 | _=>"dict"
noncomputable def isI (d:PyData) (n:String):Bool:=b2a d==n||(b2a d=="bool"&&n=="int")
theorem a2N {K:PySem.W.Frag}:∀ {t n:String},(t = "NoneType"\/t = "bool"\/t = "int"\/t = "str"\/t = "tuple"\/t = "list")->a2l n->PySem.W.kitOne K (.type t) (.type n)=some (t==n||(t=="bool"&&n=="int")):=by
 intro t n ht hn
 rcases ht with rfl | rfl | rfl | rfl | rfl | rfl <;> rcases hn with rfl | rfl | rfl | rfl | rfl <;> first | rfl | decide +kernel
section
variable {X:Cx}
theorem c2D:O4 X (.builtin "isinstance") (fun xs H Q=>∃ x n d,xs=[x,.ty n]/\Dt X.K H x d/\a9H d=false/\a2l n/\Q (.bl (isI d n)) H):=by
 intro pins s σ H xs us Q I r h
 obtain ⟨x,n,d,rfl,hd,hfn,hn,q⟩:=h
 obtain ⟨u,c,rfl,rx,rc⟩:=vals2 r
 cases rc
 have fin:∀ tk,EP X pins σ Q (.bool (isI d n)) { s with toks:=tk }:=fun tk=>⟨.bl _,H,I.tok tk,rfl,q⟩
 cases hd with
 | non=>cases rx;exact PySem.W.kia_one PySem.W.kitx_none I.kIn True.intro (a2N (by simp) hn) (fun z=>nomatch z) fin
 | bl b=>cases rx;exact PySem.W.kia_one PySem.W.kitx_bool I.kIn True.intro (a2N (by simp) hn) (fun z=>nomatch z) fin
 | int i=>obtain ⟨t,rfl⟩:=rx;exact PySem.W.kia_one PySem.W.kitx_int I.kIn True.intro (a2N (by simp) hn) (fun z=>nomatch z) fin
 | str y=>obtain ⟨t,rfl⟩:=rx;exact PySem.W.kia_one PySem.W.kitx_str I.kIn True.intro (a2N (by simp) hn) (fun z=>nomatch z) fin
 | tup h t =>
  cases rx
  obtain ⟨its,rv,⟨o,e,c,n,dd⟩,_⟩:=I.tuple h
  exact PySem.W.kia_one PySem.W.kitx_tuple I.kIn ⟨o,e,c⟩ (a2N (by simp) hn) (fun z=>nomatch z) fin
 | lst h t =>
  cases rx
  obtain ⟨its,rv,pl,_⟩:=I.list h
  obtain ⟨o,e,c,n,dd⟩:=pl.isList
  exact PySem.W.kia_one PySem.W.kitx_list I.kIn ⟨o,e,c⟩ (a2N (by simp) hn) (fun z=>nomatch z) fin
 | exc c nf h1 h2 t =>
  rename_i ea C dx fld v d
  cases rx
  obtain ⟨mA,⟨ob,es,ep,ho,_⟩,_⟩:=I.hok _ _ h2
  have e0:isI (a0d C fld d) n=false:=by rcases hn with rfl | rfl | rfl | rfl | rfl <;> rfl
  rw [e0] at fin
  exact PySem.W.kia_one (b4V c) I.kIn ⟨(I.hok _ _ h1).1,ob,ho⟩ (c.a2l hn) (fun z=>nomatch z) fin
 | fn _=>cases hfn
end
section
variable {prog:Program} {w:World} {A:Around} {E:Value->Shared->Prop} {s:Shared}
theorem b3M {t sl:Addr} {items:Array Value} {vl vu:Value} {lo hi:Option Int} {Q:Value->Shared->Prop} (ht:IsTup s.heap t items) (hs:s.heap.IsSliceOf sl vl vu .none) (pl:IsPart vl lo) (pu:IsPart vu hi)
  (hw:HT.sIx items.size 0 lo=0/\HT.sIx items.size items.size hi=items.size) (h:Q (.ref t) s):wpAny (model prog w) A (getItem (.ref t) (.ref sl)) Q E s:=by
 obtain ⟨os,hos,hcs,hds⟩:=id hs
 have hTs:s.TypeIs (.ref sl) "slice":=⟨os,hos,hcs⟩
 unfold getItem
 try with_reducible refine wpAny_holding ?_
 first | refine wpAny_bind (wpAny_pure ?_) | skip
 refine wpAny_bind (wpAny_sequenceKey ht.typeIs (by decide) ?_)
 refine wpAny_bind (wpAny_callSpecial?_slot (name:=(Str.ofString "__getitem__")) ht.typeIs PyProof.Rows.slot_tuple_getitem (wpAny_call_entry PyProof.Rows.slot_tuple_getitem ht.typeIs entry_tuple_getitem ?_ (args_tuple_getitem _ _)))
 show wpAny _ _ (Builtin.Tuple.tupleItemsOf (.ref t) >>= _) _ _ s
 refine wpAny_bind (tupleItemsOf_ ht (wpAny_bind (wpAny_typeOf hTs ?_)))
 rw [if_pos (by decide)]
 refine wpAny_bind (HT.a4l hs pl pu ?_)
 rw [hw.1,hw.2]
 show wpAny _ _ (if ((((0:Nat):Int))==0&&(1:Int)==1&&(items.size - 0)==items.size)=true then _ else _) _ _ s
 rw [if_pos (by simp)]
 show wpAny _ _ (Builtin.Tuple.tupleIsExact (.ref t) >>= _) _ _ s
 unfold Builtin.Tuple.tupleIsExact
 refine wpAny_bind (wpAny_bind (wpAny_typeOf ht.typeIs (wpAny_pure ?_)))
 rw [if_pos (by decide)]
 first
  | exact wpAny_bind (wpAny_rule (wpAny_bind (wpAny_pure ⟨_,rfl,wpAny_pure h⟩)))
  | exact wpAny_bind (wpAny_rule (wpAny_pure ⟨_,rfl,wpAny_pure h⟩))
  | exact wpAny_bind (wpAny_rule (wpAny_bind (wpAny_pure (wpAny_pure ⟨_,rfl,wpAny_pure h⟩))))
theorem c4S {t b:Addr} {vs ws:List Value} {Q:Value->Shared->Prop} (ht:IsTup s.heap t vs.toArray) (hb:IsTup s.heap b ws.toArray) (hv:vs=[]) (h:Q (.ref b) s):wpAny (model prog w) A (binaryOp .Add (.ref t) (.ref b)) Q E s:=by
 obtain ⟨⟨cls,dd,data,sl⟩,ho,hc,n,hd⟩:=id ht
 obtain ⟨⟨cls2,dd2,data2,sl2⟩,ho2,hc2,n2,hd2⟩:=id hb
 simp only at hc hd hc2 hd2
 subst hc hd hc2 hd2
 exact concat_meets ⟨_,ho,rfl⟩ ⟨_,ho2,rfl⟩ noFill_tuple_add seq_tuple_add PySem.F.slot_tuple_add PySem.F.entry_tuple_add (PySem.F.args_tuple_add_2 _ _)
  (tuple_addW0 t b vs.toArray ws.toArray n n2 dd dd2 sl sl2 (by simp [hv])) ⟨ho,ho2,h⟩
end
section
variable {X:Cx}
end
theorem ex2 {α β:Type} {x:α} {l:β} {P:α->β->Prop}:(∃ v r,(x=v/\l=r)/\P v r) ↔ P x l:=⟨fun ⟨_,_,⟨h1,h2⟩,h⟩=>by subst h1;subst h2;exact h,fun h=>⟨x,l,⟨rfl,rfl⟩,h⟩⟩
inductive PV where
 | dat (d:PyData)
 | own (l:List PyData)
noncomputable def PV.d:PV->PyData
 | .dat d=>d
 | .own l=>.list l
@[simp] theorem PV.t9 (d:PyData):(PV.dat d).d=d:=rfl
@[simp] theorem PV.a3g (l:List PyData):(PV.own l).d=.list l:=rfl
noncomputable abbrev Ds:=List (Option PV)
noncomputable abbrev As:=List (Option Addr)
noncomputable def hid (H:Hp) (as:As) (O:List Addr):Hp:=fun b=>if b ∈ O\/some b ∈ as then none else H b
theorem M5 {H:Hp} {as:As} {O:List Addr} {b:Addr} {o:HO}:hid H as O b=some o ↔ (b ∉ O/\some b ∉ as/\H b=some o):=by
 unfold hid
 split
 . rename_i h
   constructor
   . intro z;cases z
   . rintro ⟨h1,h2,_⟩
     exact (h.elim h1 h2).elim
 . rename_i h
   constructor
   . intro z;exact ⟨fun q=>h (.inl q),fun q=>h (.inr q),z⟩
   . rintro ⟨_,_,z⟩;exact z
theorem a2g {H H':Hp} {as as':As} {O O':List Addr} (e:∀ b o,b ∉ O->some b ∉ as->H b=some o->b ∉ O'/\some b ∉ as'/\H' b=some o):j4 (hid H as O) (hid H' as' O'):=fun b o h=>by
 obtain ⟨h1,h2,h3⟩:=M5.mp h
 exact M5.mpr (e b o h1 h2 h3)
theorem P8 {H H':Hp} {as:As} {O:List Addr} (e:j4 H H'):j4 (hid H as O) (hid H' as O):=a2g fun b o h1 h2 h3=>⟨h1,h2,e b o h3⟩
theorem G7 {H H':Hp} {as as':As} {O:List Addr} (e:j4 H H') (h:∀ b,some b ∈ as'->some b ∈ as):j4 (hid H as O) (hid H' as' O):=a2g fun b o h1 h2 h3=>⟨h1,fun z=>h2 (h b z),e b o h3⟩
theorem t7 {H:Hp} {as:As} {O:List Addr}:j4 (hid H as O) H:=fun b o h=>(M5.mp h).2.2
theorem b1O {H:Hp} {as bs:As} {O:List Addr}:hid H (bs++as) O=hid H bs (O++as.filterMap id):=by
 funext b
 unfold hid
 have:(b ∈ O\/some b ∈ bs++as) ↔ (b ∈ O++as.filterMap id\/some b ∈ bs):=by
  simp only [mem_append,List.mem_filterMap,id]
  constructor
  . rintro (h | h | h)
    . exact .inl (.inl h)
    . exact .inr h
    . exact .inl (.inr ⟨_,h,rfl⟩)
  . rintro ((h | ⟨x,h,e⟩) | h)
    . exact .inl h
    . subst e;exact .inr (.inr h)
    . exact .inr (.inl h)
 by_cases c:b ∈ O\/some b ∈ bs++as
 . rw [if_pos c,if_pos (this.mp c)]
 . rw [if_neg c,if_neg (fun z=>c (this.mpr z))]
noncomputable def a2x (K:PySem.W.Frag) (O:List Addr) (as:As) (H:Hp) (si:Option (Option V)) (ai:Option (Option Addr)):PV->Prop
 | .dat d=>∃ v,si=some (some v)/\Dt K (hid H as O) v d
 | .own l=>∃ a xs,si=some (some (.ref a))/\ai=some (some a)/\H a=some (.lst xs)/\Dts K (hid H as O) xs l
structure DS (K:PySem.W.Frag) (O:List Addr) (i4:Hp) (as:As) (σ:St) (H:Hp) (ds:Ds):Prop where
 ls:σ.length=ds.length
 la:as.length=ds.length
 same:j4 i4 H
 new:∀ a,some a ∈ as->i4 a=none/\∃ xs,H a=some (.lst xs)
 dom:∀ a ∈ O,∃ o,i4 a=some o
 inj:∀ (i j:Nat) (a:Addr),as[i]? = some (some a)->as[j]? = some (some a)->i=j
 slot:∀ (i:Nat) (pv:PV),ds[i]? = some (some pv)->a2x K O as H σ[i]? as[i]? pv
noncomputable def vis (fr:Bool) (as:As):As:=if fr=true then as else []
theorem b1X {fr:Bool} {as:As} {b:Addr} (h:some b ∈ vis fr as):some b ∈ as:=by
 unfold vis at h
 split at h
 . exact h
 . simp at h
noncomputable def RX (K:PySem.W.Frag) (O:List Addr) (va:As) (H H':Hp) (v:V):PV->Prop
 | .dat d=>Dt K (hid H' va O) v d
 | .own l=>∃ a xs,v=.ref a/\H a=none/\H' a=some (.lst xs)/\Dts K (hid H' (some a::va) O) xs l
structure Dom (H:Hp) (va:As) (O:List Addr):Prop where
 o:∀ a ∈ O,∃ u,H a=some u
 a:∀ a,some a ∈ va->∃ u,H a=some u
section
variable {K:PySem.W.Frag} {O:List Addr} {i4 H H' H2:Hp} {as va:As} {σ:St} {ds:Ds} {v:V} {pv:PV} {fr:Bool}
theorem Dom.same (D:Dom H va O) (e:j4 H H'):Dom H' va O:=⟨fun a h=>let ⟨u,z⟩:=D.o a h;⟨u,e _ _ z⟩,fun a h=>let ⟨u,z⟩:=D.a a h;⟨u,e _ _ z⟩⟩
theorem DS.dm (S:DS K O i4 as σ H ds):Dom H (vis fr as) O:=⟨fun a h=>let ⟨u,z⟩:=S.dom a h;⟨u,S.same _ _ z⟩,fun a h=>let ⟨_,z⟩:=(S.new a (b1X h)).2;⟨_,z⟩⟩
theorem DS.nO (S:DS K O i4 as σ H ds) {a:Addr} (h:some a ∈ as):a ∉ O:=fun z=>by
 obtain ⟨o,e⟩:=S.dom a z
 rw [(S.new a h).1] at e
 cases e
theorem a2x.grow {si:Option (Option V)} {ai:Option (Option Addr)} (h:a2x K O as H si ai pv) (e:j4 H H'):a2x K O as H' si ai pv:=by
 cases pv with
 | dat d=>obtain ⟨v,e1,h⟩:=h;exact ⟨v,e1,h.same (P8 e)⟩
 | own l=>obtain ⟨a,xs,e1,e2,e3,h⟩:=h;exact ⟨a,xs,e1,e2,e _ _ e3,h.same (P8 e)⟩
theorem DS.grow (S:DS K O i4 as σ H ds) (e:j4 H H'):DS K O i4 as σ H' ds :=
 ⟨S.ls,S.la,S.same.trans e,fun a h=>⟨(S.new a h).1,let ⟨o,z⟩:=(S.new a h).2;⟨o,e _ _ z⟩⟩,S.dom,S.inj,fun i pv h=>(S.slot i pv h).grow e⟩
theorem RX.grow (h:RX K O va H H' v pv) (e:j4 H' H2):RX K O va H H2 v pv:=by
 cases pv with
 | dat d=>exact Dt.same (P8 e) h
 | own l=>obtain ⟨a,xs,e1,e2,e3,h⟩:=h;exact ⟨a,xs,e1,e2,e _ _ e3,h.same (P8 e)⟩
theorem RX.back (h:RX K O va H H' v pv) (e:j4 H2 H):RX K O va H2 H' v pv:=by
 cases pv with
 | dat d=>exact h
 | own l=>obtain ⟨a,xs,e1,e2,e3,h⟩:=h;exact ⟨a,xs,e1,e.free e2,e3,h⟩
theorem RX.dt (h:RX K O va H H' v pv) (D:Dom H va O):Dt K (hid H' va O) v pv.d:=by
 cases pv with
 | dat d=>exact h
 | own l =>
  obtain ⟨a,xs,rfl,e2,e3,h⟩:=h
  refine .lst (SqL.of (M5.mpr ⟨fun z=>?_,fun z=>?_,e3⟩)) (h.same (G7 (j4.refl _) fun b z=>mem_cons_of_mem _ z))
  . obtain ⟨u,z⟩:=D.o a z
    rw [e2] at z;cases z
  . obtain ⟨u,z⟩:=D.a a z
    rw [e2] at z;cases z
theorem RX.less {vb:As} (h:RX K O va H H' v pv) (s:∀ b,some b ∈ vb->some b ∈ va):RX K O vb H H' v pv:=by
 cases pv with
 | dat d=>exact Dt.same (G7 (j4.refl _) s) h
 | own l =>
  obtain ⟨a,xs,rfl,e2,e3,h⟩:=h
  refine ⟨a,xs,rfl,e2,e3,h.same (G7 (j4.refl _) fun b z=>?_)⟩
  rcases mem_cons.mp z with z | z
  . rw [z];exact mem_cons_self
  . exact mem_cons_of_mem _ (s b z)
theorem b2v:j4 (hid H as O) (hid H (vis fr as) O):=G7 (j4.refl _) fun _ h=>b1X h
noncomputable def Flat:PyData->Bool
 | .none=>true
 | .bool _=>true
 | .int _=>true
 | .str _=>true
 | _=>false
theorem Dts.append:∀ {xs ys:List V} {ds es:List PyData},Dts K H xs ds->Dts K H ys es->Dts K H (xs++ys) (ds++es)
 | _,_,_,_,.nil,h=>h
 | _,_,_,_,.cons a t,h=>.cons a (Dts.append t h)
theorem Dts.get':∀ {xs:List V} {ds:List PyData} {i:Nat} {x:V},Dts K H xs ds->xs[i]? = some x->∃ d,ds[i]? = some d/\Dt K H x d
 | _,_,_,_,.nil,e=>by simp at e
 | _,_,0,_,.cons h _,e=>by simp at e;subst e;exact ⟨_,rfl,h⟩
 | _,_,i + 1,d,.cons _ t,e=>by
  obtain ⟨x,h1,h2⟩:=Dts.get' (i:=i) (x:=d) t (by simpa using e)
  exact ⟨x,by simpa using h1,h2⟩
theorem Dts.take:∀ {xs:List V} {ds:List PyData} (n:Nat),Dts K H xs ds->Dts K H (xs.take n) (ds.take n)
 | _,_,0,_=>by simp;exact .nil
 | _,_,_ + 1,.nil=>by simp;exact .nil
 | _,_,n + 1,.cons h t=>by simp only [take_succ_cons];exact .cons h (Dts.take n t)
theorem Dts.drop:∀ {xs:List V} {ds:List PyData} (n:Nat),Dts K H xs ds->Dts K H (xs.drop n) (ds.drop n)
 | _,_,0,h=>by simpa using h
 | _,_,_ + 1,.nil=>by simp;exact .nil
 | _,_,n + 1,.cons h t=>by simp only [drop_succ_cons];exact Dts.drop n t
theorem Dts.reverse:∀ {xs:List V} {ds:List PyData},Dts K H xs ds->Dts K H xs.reverse ds.reverse
 | _,_,.nil=>by simp;exact .nil
 | _,_,.cons h t=>by simp only [List.reverse_cons];exact (Dts.reverse t).append (.cons h .nil)
theorem Dts.set:∀ {xs:List V} {ds:List PyData} (i:Nat) {x:V} {d:PyData},Dts K H xs ds->Dt K H x d->Dts K H (xs.set i x) (ds.set i d)
 | _,_,_,_,_,.nil,_=>by simp;exact .nil
 | _,_,0,_,_,.cons _ t,h=>by simp only [set_cons_zero];exact .cons h t
 | _,_,i + 1,_,_,.cons a t,h=>by simp only [set_cons_succ];exact .cons a (Dts.set i t h)
end
noncomputable def TX (K:PySem.W.Frag) (fr:Bool) (te:TE) (F:Ds->Option PV):Prop :=
 ∀ (O:List Addr) (i4:Hp) (as:As) (σ:St) (H:Hp) (ds:Ds) (pv:PV) (Q:VK),DS K O i4 as σ H ds->F ds=some pv->(∀ v H',j4 H H'->RX K O (vis fr as) H H' v pv->Q v H')->te σ H Q
structure PX (X:Cx) (fr:Bool) (e:Expr) (te:TE) (F:Ds->Option PV):Prop where
 p:PE X e te
 t:TX X.K fr te F
noncomputable def TTX (K:PySem.W.Frag) (tt:TT) (F:Ds->Option Bool):Prop :=
 ∀ (O:List Addr) (i4:Hp) (as:As) (σ:St) (H:Hp) (ds:Ds) (b:Bool) (Q:Bool->Hp->Prop),DS K O i4 as σ H ds->F ds=some b->(∀ H',j4 H H'->Q b H')->tt σ H Q
structure PTX (X:Cx) (e:Expr) (tt:TT) (F:Ds->Option Bool):Prop where
 p:PT X e tt
 t:TTX X.K tt F
structure PWX (X:Cx) (e:Expr) (tt:TT) (F:Ds->Option Bool):Prop where
 p:PW X e tt
 t:TTX X.K tt F
noncomputable def TAX (K:PySem.W.Frag) (fr:Bool) (t:TA) (F:Ds->Option (List PyData)):Prop :=
 ∀ (O:List Addr) (i4:Hp) (as:As) (σ:St) (H:Hp) (ds:Ds) (l:List PyData) (Q:List V->Hp->Prop),DS K O i4 as σ H ds->F ds=some l->(∀ vs H',j4 H H'->Dts K (hid H' (vis fr as) O) vs l->Q vs H')->t σ H Q
structure PAX (X:Cx) (fr:Bool) (es:List Expr) (t:TA) (F:Ds->Option (List PyData)):Prop where
 p:PA X es t
 t:TAX X.K fr t F
noncomputable def R2X (K:PySem.W.Frag) (r:R2) (f:PyData->PyData->Option PV):Prop :=
 ∀ (O:List Addr) (va:As) (H:Hp) (x y:V) (d e:PyData) (pv:PV) (Q:VK),Dom H va O->Dt K (hid H va O) x d->Dt K (hid H va O) y e->f d e=some pv->(∀ v H',j4 H H'->RX K O va H H' v pv->Q v H')->r x y H Q
noncomputable def R1X (K:PySem.W.Frag) (r:V->Hp->VK->Prop) (f:PyData->Option PV):Prop :=
 ∀ (O:List Addr) (va:As) (H:Hp) (x:V) (d:PyData) (pv:PV) (Q:VK),Dom H va O->Dt K (hid H va O) x d->f d=some pv->(∀ v H',j4 H H'->RX K O va H H' v pv->Q v H')->r x H Q
noncomputable def RNX (K:PySem.W.Frag) (r:List V->Hp->VK->Prop) (f:List PyData->Option PV):Prop :=
 ∀ (O:List Addr) (va:As) (H:Hp) (xs:List V) (ds:List PyData) (pv:PV) (Q:VK),Dom H va O->Dts K (hid H va O) xs ds->f ds=some pv->(∀ v H',j4 H H'->RX K O va H H' v pv->Q v H')->r xs H Q
noncomputable def d5 (i:Nat):Ds->Option PV:=fun ds=>match ds[i]? with
 | some (some (.dat d))=>some (.dat d)
 | _=>none
noncomputable def c7v (i:Nat):Ds->Option PV:=fun ds=>match ds[i]? with
 | some (some pv)=>some (.dat pv.d)
 | _=>none
noncomputable def fC (d:PyData):Ds->Option PV:=fun _=>some (.dat d)
section
variable {X:Cx} {fr:Bool} {e a b c:Expr} {es rest:List Expr} {te ta tb tc:TE} {tt tu:TT} {t:TA} {Fa Fb Fc F:Ds->Option PV} {Ft Fu:Ds->Option Bool} {Fl:Ds->Option (List PyData)} {pos:Pos}
theorem b9 (i:Nat) (h:PE X e (Z5 i)):PX X fr e (Z5 i) (d5 i):=⟨h,by
 intro O i4 as σ H ds pv Q S hf q
 unfold d5 at hf
 split at hf
 . rename_i d hd
   cases hf
   obtain ⟨v,e1,h⟩:=S.slot i _ hd
   exact ⟨v,e1,q v H (j4.refl H) (h.same b2v)⟩
 . cases hf⟩
theorem b4B {v:V} {d:PyData} (h:PE X e (tC v)) (hd:∀ H,Dt X.K H v d):PX X fr e (tC v) (fC d):=⟨h,by
 intro O i4 as σ H ds pv Q S hf q
 cases hf
 exact q v H (j4.refl H) (hd _)⟩
theorem e7 {i:Int} {j}:PX X fr (.Constant (.int i) j pos) (tC (.int i)) (fC (.int i)):=b4B c5Q fun _=>.int i
theorem c2Z {i:Bool} {j}:PX X fr (.Constant (.bool i) j pos) (tC (.bl i)) (fC (.bool i)):=b4B c7i fun _=>.bl i
theorem i9 {i:Str} {j}:PX X fr (.Constant (.str i) j pos) (tC (.str i)) (fC (.str i)):=b4B c5M fun _=>.str i
theorem u6 {j}:PX X fr (.Constant .none j pos) (tC .non) (fC .none):=b4B c5O fun _=>.non
noncomputable def b8m (F:Ds->Option PV):Ds->Option PV:=fun ds=>(F ds).bind fun pv=>if Flat pv.d=true then some (.dat pv.d) else none
noncomputable def fOp (f:PyData->PyData->Option PV) (Fa Fb:Ds->Option PV):Ds->Option PV:=fun ds=>(Fa ds).bind fun x=>(Fb ds).bind fun y=>f x.d y.d
theorem b3W {r:R2} {f:PyData->PyData->Option PV} (hr:R2X X.K r f) (ha:PX X fr a ta Fa) (hb:PX X fr b tb Fb):TX X.K fr (tOp r ta tb) (fOp f Fa Fb):=by
 intro O i4 as σ H ds pv Q S hf q
 unfold fOp at hf
 cases h1:Fa ds with
 | none=>rw [h1] at hf;cases hf
 | some x =>
  rw [h1] at hf
  simp only [Option.bind_some] at hf
  cases h2:Fb ds with
  | none=>rw [h2] at hf;cases hf
  | some y =>
   rw [h2] at hf
   simp only [Option.bind_some] at hf
   refine ha.t O i4 as σ H ds x _ S h1 fun v H1 e1 r1=>?_
   refine hb.t O i4 as σ H1 ds y _ (S.grow e1) h2 fun u H2 e2 r2=>?_
   have S2:=(S.grow e1).grow e2
   refine hr O (vis fr as) H2 v u x.d y.d pv Q S2.dm ((r1.grow e2).dt S.dm) (r2.dt (S.grow e1).dm) hf fun w H3 e3 r3=>?_
   exact q w H3 ((e1.trans e2).trans e3) (r3.back (e1.trans e2))
theorem j1 {op:Operator} {r:R2} {f:PyData->PyData->Option PV} (ho:OpR X (binaryOp op) r) (hr:R2X X.K r f) (ha:PX X fr a ta Fa) (hb:PX X fr b tb Fb):PX X fr (.BinOp a op b pos) (tOp r ta tb) (fOp f Fa Fb) :=
 ⟨c7h ho ha.p hb.p,b3W hr ha hb⟩
theorem a8C {op:CmpOp} {r:R2} {f:PyData->PyData->Option PV} (ho:OpR X (compareOp op) r) (hr:R2X X.K r f) (hm:behindInMarks op b=false) (ha:PX X fr a ta Fa) (hb:PX X fr b tb Fb):PX X fr (.Compare a [op] [b] pos) (tOp r ta tb) (fOp f Fa Fb) :=
 ⟨c4d ho ha.p hb.p hm,b3W hr ha hb⟩
theorem r9 {r:R2} {f:PyData->PyData->Option PV} (ho:IxR X r) (hr:R2X X.K r f) (ha:PX X fr a ta Fa) (hb:PX X fr b tb Fb) (hs:b2H b):PX X fr (.Subscript a b pos) (tOp r ta tb) (fOp f Fa Fb) :=
 ⟨c3a ho ha.p hb.p hs,b3W hr ha hb⟩
noncomputable def fUn (f:PyData->Option PV) (Fa:Ds->Option PV):Ds->Option PV:=fun ds=>(Fa ds).bind fun x=>f x.d
theorem a6C {op:UnaryOp} {r:V->Hp->VK->Prop} {f:PyData->Option PV} (ho:UnR X (unaryOp op) r) (hr:R1X X.K r f) (ha:PX X fr a ta Fa):PX X fr (.UnaryOp op a pos) (tUn r ta) (fUn f Fa):=⟨c7g ho ha.p,by
 intro O i4 as σ H ds pv Q S hf q
 unfold fUn at hf
 cases h1:Fa ds with
 | none=>rw [h1] at hf;cases hf
 | some x =>
  rw [h1] at hf
  simp only [Option.bind_some] at hf
  refine ha.t O i4 as σ H ds x _ S h1 fun v H1 e1 r1=>?_
  refine hr O (vis fr as) H1 v x.d pv Q (S.grow e1).dm (r1.dt S.dm) hf fun w H3 e3 r3=>?_
  exact q w H3 (e1.trans e3) (r3.back e1)⟩
noncomputable def asB:PyData->Option Bool
 | .bool b=>some b
 | _=>none
noncomputable def m4 (F:Ds->Option PV):Ds->Option Bool:=fun ds=>(F ds).bind fun x=>asB x.d
theorem b6Z {te:TE} (h:TX X.K fr te F):TTX X.K (tB te) (m4 F):=by
 intro O i4 as σ H ds b Q S hf q
 unfold m4 at hf
 cases h1:F ds with
 | none=>rw [h1] at hf;cases hf
 | some x =>
  rw [h1] at hf
  simp only [Option.bind_some] at hf
  refine h O i4 as σ H ds x _ S h1 fun v H1 e1 r1=>?_
  have d:=r1.dt S.dm
  generalize x.d=z at d hf
  cases z with
  | bool c=>cases hf;cases d;exact ⟨_,rfl,q H1 e1⟩
  | _=>cases hf
theorem U9 (h:PX X fr e te F) (he:∀ whole,isTrue e X.env whole=(do let v <- whole;standAt e.pos;holding [v] (truthy v)):=by intro _;rfl):PTX X e (tB te) (m4 F):=⟨c5E h.p he,b6Z h.t⟩
theorem j7 {op:CmpOp} {r:R2} {f:PyData->PyData->Option PV} (ho:OpR X (compareOp op) r) (hr:R2X X.K r f) (hm:behindInMarks op b=false) (ha:PX X fr a ta Fa) (hb:PX X fr b tb Fb):PTX X (.Compare a [op] [b] pos) (b7b (tOp r ta tb)) (m4 (fOp f Fa Fb)) :=
 ⟨c3Q ho ha.p hb.p hm,b6Z (b3W hr ha hb)⟩
noncomputable def a5J (F:Ds->Option Bool):Ds->Option Bool:=fun ds=>(F ds).bind fun b=>some (!b)
noncomputable def c2I (F G:Ds->Option Bool):Ds->Option Bool:=fun ds=>(F ds).bind fun b=>if b=true then G ds else some false
noncomputable def bOr (F G:Ds->Option Bool):Ds->Option Bool:=fun ds=>(F ds).bind fun b=>if b=true then some true else G ds
theorem c3x (h:TTX X.K tt Ft):TTX X.K (b7e tt) (a5J Ft):=by
 intro O i4 as σ H ds b Q S hf q
 unfold a5J at hf
 cases h1:Ft ds with
 | none=>rw [h1] at hf;cases hf
 | some x =>
  rw [h1] at hf
  cases hf
  exact h O i4 as σ H ds x _ S h1 q
theorem c5k (h:TTX X.K tt Ft) (k:TTX X.K tu Fu):TTX X.K (tOr tt tu) (bOr Ft Fu):=by
 intro O i4 as σ H ds b Q S hf q
 unfold bOr at hf
 cases h1:Ft ds with
 | none=>rw [h1] at hf;cases hf
 | some x =>
  rw [h1] at hf
  simp only [Option.bind_some] at hf
  refine h O i4 as σ H ds x _ S h1 fun H1 e1=>?_
  cases x with
  | false=>exact k O i4 as σ H1 ds b Q (S.grow e1) hf fun H2 e2=>q H2 (e1.trans e2)
  | true=>cases hf;exact q H1 e1
theorem a9z (h:PTX X a tt Ft):PTX X (.UnaryOp .Not a pos) (b7e tt) (a5J Ft):=⟨c5F h.p,c3x h.t⟩
theorem L3 (h:PTX X a tt Ft):PWX X (.BoolOp .Or [a] pos) tt Ft:=⟨pw_or1 h.p,h.t⟩
theorem G0 (h:PTX X a tt Ft) (k:PWX X (.BoolOp .Or (b::rest) pos) tu Fu):PWX X (.BoolOp .Or (a::b::rest) pos) (tOr tt tu) (bOr Ft Fu):=⟨pw_or h.p k.p,c5k h.t k.t⟩
theorem PWX.pt (h:PWX X a tt Ft):PTX X a tt Ft:=⟨PW.pt h.p,h.t⟩
noncomputable def a5H (Fa Fb:Ds->Option PV):Ds->Option PV:=fun ds=>(m4 Fa ds).bind fun b=>if b=true then Fb ds else some (.dat (.bool false))
noncomputable def fOr (Fa Fb:Ds->Option PV):Ds->Option PV:=fun ds=>(m4 Fa ds).bind fun b=>if b=true then some (.dat (.bool true)) else Fb ds
noncomputable def c2t (Fa:Ds->Option PV):Ds->Option PV:=fun ds=>(m4 Fa ds).bind fun b=>some (.dat (.bool !b))
theorem b1t {op} (h:PX X fr a ta Fa):PX X fr (.BoolOp op [a] pos) ta Fa:=⟨c5N h.p,h.t⟩
theorem a8D (h:PX X fr a ta Fa) (k:PX X fr (.BoolOp .And (b::rest) pos) tb Fb):PX X fr (.BoolOp .And (a::b::rest) pos) (b7h ta tb) (a5H Fa Fb):=⟨c5S h.p k.p,by
 intro O i4 as σ H ds pv Q S hf q
 unfold a5H at hf
 cases h1:m4 Fa ds with
 | none=>rw [h1] at hf;cases hf
 | some x =>
  rw [h1] at hf
  simp only [Option.bind_some] at hf
  refine b6Z h.t O i4 as σ H ds x _ S h1 fun H1 e1=>?_
  cases x with
  | true=>exact k.t O i4 as σ H1 ds pv Q (S.grow e1) hf fun v H2 e2 r=>q v H2 (e1.trans e2) (r.back e1)
  | false=>cases hf;exact q _ H1 e1 (Dt.bl _)⟩
noncomputable def fIf (Ft:Ds->Option Bool) (Fa Fb:Ds->Option PV):Ds->Option PV:=fun ds=>(Ft ds).bind fun b=>if b=true then Fa ds else Fb ds
theorem c2Y (hc:PTX X c tt Ft) (h:PX X fr a ta Fa) (k:PX X fr b tb Fb):PX X fr (.IfExp c a b pos) (tIf tt ta tb) (fIf Ft Fa Fb):=⟨c1P hc.p h.p k.p,by
 intro O i4 as σ H ds pv Q S hf q
 unfold fIf at hf
 cases h1:Ft ds with
 | none=>rw [h1] at hf;cases hf
 | some x =>
  rw [h1] at hf
  simp only [Option.bind_some] at hf
  refine hc.t O i4 as σ H ds x _ S h1 fun H1 e1=>?_
  cases x with
  | true=>exact h.t O i4 as σ H1 ds pv Q (S.grow e1) hf fun v H2 e2 r=>q v H2 (e1.trans e2) (r.back e1)
  | false=>exact k.t O i4 as σ H1 ds pv Q (S.grow e1) hf fun v H2 e2 r=>q v H2 (e1.trans e2) (r.back e1)⟩
noncomputable def b5m (f g:PyData->PyData->Option PV) (Fa Fb Fc:Ds->Option PV):Ds->Option PV:=fun ds=>(Fa ds).bind fun x=>(Fb ds).bind fun y=>(f x.d y.d).bind fun r=>(asB r.d).bind fun k =>
 if k=true then (Fc ds).bind fun z=>g y.d z.d else some (.dat (.bool false))
noncomputable def e8:Ds->Option (List PyData):=fun _=>some []
noncomputable def d4 (F:Ds->Option PV) (G:Ds->Option (List PyData)):Ds->Option (List PyData):=fun ds=>(F ds).bind fun x=>(G ds).bind fun l=>some (x.d::l)
theorem d8:PAX X fr [] a8j e8:=⟨a6b,by
 intro O i4 as σ H ds l Q S hf q
 cases hf
 exact q [] H (j4.refl H) .nil⟩
theorem b6 (h:PX X fr e te F) (k:PAX X fr es t Fl) (hs:starEach (e::es) X.env=(false,eval e X.env)::starEach es X.env:=by rfl):PAX X fr (e::es) (a1w te t) (d4 F Fl):=⟨a0I h.p k.p hs,by
 intro O i4 as σ H ds l Q S hf q
 unfold d4 at hf
 cases h1:F ds with
 | none=>rw [h1] at hf;cases hf
 | some x =>
  cases h2:Fl ds with
  | none=>rw [h1,h2] at hf;cases hf
  | some m =>
   rw [h1,h2] at hf
   cases hf
   refine h.t O i4 as σ H ds x _ S h1 fun v H1 e1 r1=>?_
   refine k.t O i4 as σ H1 ds m _ (S.grow e1) h2 fun vs H2 e2 r2=>?_
   exact q (v::vs) H2 (e1.trans e2) (.cons ((r1.grow e2).dt S.dm) r2)⟩
theorem Dom.fresh {H:Hp} {va:As} {O:List Addr} (D:Dom H va O) {p:Addr} (h:H p=none):p ∉ O/\some p ∉ va:=by
 refine ⟨fun z=>?_,fun z=>?_⟩
 . obtain ⟨u,z⟩:=D.o p z
   rw [h] at z;cases z
 . obtain ⟨u,z⟩:=D.a p z
   rw [h] at z;cases z
theorem a8w {K:PySem.W.Frag} {H:Hp} {va:As} {O:List Addr} {p:Addr} {vs:List V} {l:List PyData} (D:Dom H va O) (h:H p=none) (hd:Dts K (hid H va O) vs l):RX K O va H (upd H p (.tup vs)) (.ref p) (.dat (.tuple l)):=by
 obtain ⟨h1,h2⟩:=D.fresh h
 exact Dt.tup (SqT.of (M5.mpr ⟨h1,h2,E7⟩)) (hd.same (P8 (j4.new h)))
theorem a4o {K:PySem.W.Frag} {H:Hp} {va:As} {O:List Addr} {p:Addr} {vs:List V} {l:List PyData} (h:H p=none) (hd:Dts K (hid H va O) vs l):RX K O va H (upd H p (.lst vs)) (.ref p) (.own l):=by
 refine ⟨p,vs,rfl,h,E7,hd.same (a2g fun b o h1 h2 h3=>⟨h1,fun z=>?_,?_⟩)⟩
 . rcases mem_cons.mp z with z | z
   . cases z;rw [h] at h3;cases h3
   . exact h2 z
 . exact j4.new h _ _ h3
noncomputable def R6 (Fl:Ds->Option (List PyData)):Ds->Option PV:=fun ds=>(Fl ds).bind fun l=>if l.length<=1000000 then some (.dat (.tuple l)) else none
noncomputable def B1 (Fl:Ds->Option (List PyData)):Ds->Option PV:=fun ds=>(Fl ds).bind fun l=>if l.length<=1000000 then some (.own l) else none
theorem szM {n:Nat} (h:n<=1000000):n<=sizeLine:=Nat.le_trans h (by rw [sizeLine_eq];decide)
theorem L6 {x1} (h:PAX X fr es t Fl):PX X fr (.Tuple es x1 pos) (c1i t) (R6 Fl):=⟨c5L h.p,by
 intro O i4 as σ H ds pv Q S hf q
 unfold R6 at hf
 cases h1:Fl ds with
 | none=>rw [h1] at hf;cases hf
 | some l =>
  rw [h1] at hf
  simp only [Option.bind_some] at hf
  split at hf
  . rename_i hl
    cases hf
    refine h.t O i4 as σ H ds l _ S h1 fun vs H1 e1 r1=>⟨by rw [r1.length];exact szM hl,fun p hp=>?_⟩
    exact q _ _ (e1.trans (j4.new hp)) (RX.back (a8w (S.grow e1).dm hp r1) e1)
  . cases hf⟩
theorem u9 (h:PAX X fr es t Fl):PX X fr (.List es pos) (c1l t) (B1 Fl):=⟨c5P h.p,by
 intro O i4 as σ H ds pv Q S hf q
 unfold B1 at hf
 cases h1:Fl ds with
 | none=>rw [h1] at hf;cases hf
 | some l =>
  rw [h1] at hf
  simp only [Option.bind_some] at hf
  split at hf
  . rename_i hl
    cases hf
    refine h.t O i4 as σ H ds l _ S h1 fun vs H1 e1 r1=>⟨by rw [r1.length];exact szM hl,fun p hp=>?_⟩
    exact q _ _ (e1.trans (j4.new hp)) (RX.back (a4o hp r1) e1)
  . cases hf⟩
noncomputable def g0 (F:List PyData->Option PV) (Fl:Ds->Option (List PyData)):Ds->Option PV:=fun ds=>(Fl ds).bind F
theorem c2Q {r:List V->Hp->VK->Prop} {f:List PyData->Option PV} (hr:RNX X.K r f) (h:PAX X fr es t Fl):TX X.K fr (tCB r t) (g0 f Fl):=by
 intro O i4 as σ H ds pv Q S hf q
 unfold g0 at hf
 cases h1:Fl ds with
 | none=>rw [h1] at hf;cases hf
 | some l =>
  rw [h1] at hf
  simp only [Option.bind_some] at hf
  refine h.t O i4 as σ H ds l _ S h1 fun vs H1 e1 r1=>?_
  refine hr O (vis fr as) H1 vs l pv Q (S.grow e1).dm r1 hf fun w H3 e3 r3=>?_
  exact q w H3 (e1.trans e3) (r3.back e1)
theorem u3 {id:String} {x:Str} {p:Pos} {r:List V->Hp->VK->Prop} {f:List PyData->Option PV} (hc:O4 X (.builtin id) r) (hr:RNX X.K r f) (hg:Gl X x) (hm:X.mg x=none) (hv:bootBuiltins x=some (.builtin id)) (ha:PAX X fr (e::es) t Fl) (hn:x ≠ "__name__":=by decide) (hdb:(x==("__debug__" : Str))=false:=by decide)
  (he:starEach (e::es) X.env=(false,eval e X.env)::starEach es X.env:=by rfl) (hpl:(backTo pos (starEach es X.env)).any (·.1)=false:=by rfl):PX X fr (.Call (.Name x p) (e::es) [] pos) (tCB r t) (g0 f Fl):=⟨b0v hc hg hm hv ha.p hn hdb he hpl,c2Q hr ha⟩
theorem G9 {T:String} {x:Str} {p:Pos} {r:List V->Hp->VK->Prop} {f:List PyData->Option PV} (hc:O4 X (.type T) r) (hr:RNX X.K r f) (hg:Gl X x) (hm:X.mg x=none) (hv:bootBuiltins x=some (.type T)) (ha:PAX X fr (e::es) t Fl) (hn:x ≠ "__name__":=by decide) (hdb:(x==("__debug__" : Str))=false:=by decide)
  (he:starEach (e::es) X.env=(false,eval e X.env)::starEach es X.env:=by rfl) (hpl:(backTo pos (starEach es X.env)).any (·.1)=false:=by rfl):PX X fr (.Call (.Name x p) (e::es) [] pos) (tCB r t) (g0 f Fl):=⟨b9s hc hg hm hv ha.p hn hdb he hpl,c2Q hr ha⟩
noncomputable def spF (K:PySem.W.Frag) (F:List PyData->Option PV):Sp:=fun vs H Q _=>∃ (O:List Addr) (ds:List PyData) (pv:PV),(∀ a ∈ O,∃ u,H a=some u)/\Dts K (hid H [] O) vs ds/\F ds=some pv/\∀ v H',j4 H H'->RX K O [] H H' v pv->Q v H'
theorem b6q {E:XK} {f:List PyData->Option PV} (h:PAX X fr es t Fl):TX X.K fr (a4W (spF X.K f) [] E t) (g0 f Fl):=by
 intro O i4 as σ H ds pv Q S hf q
 unfold g0 at hf
 cases h1:Fl ds with
 | none=>rw [h1] at hf;cases hf
 | some l =>
  rw [h1] at hf
  simp only [Option.bind_some] at hf
  refine h.t O i4 as σ H ds l _ S h1 fun vs H1 e1 r1=>?_
  have D:=(S.grow e1).dm (fr:=fr)
  rw [append_nil]
  have hh:∀ H,hid H (vis fr as) O=hid H [] (O++(vis fr as).filterMap id):=fun H=>b1O (bs:=[])
  refine ⟨O++(vis fr as).filterMap id,l,pv,fun a ha=>?_,by rw [<-hh];exact r1,hf,fun v H2 e2 r2=>q v H2 (e1.trans e2) ?_⟩
  . rcases mem_append.mp ha with ha | ha
    . exact D.o a ha
    . obtain ⟨x,hx,e⟩:=List.mem_filterMap.mp ha
      have e':x=some a:=e
      subst e'
      exact D.a a hx
  . cases pv with
    | dat d =>
     have r2':Dt X.K (hid H2 [] (O++(vis fr as).filterMap id)) v d:=r2
     rw [<-hh] at r2'
     exact r2'
    | own l =>
     obtain ⟨a,xs,e3,e4,e5,r3⟩:=r2
     refine ⟨a,xs,e3,e1.free e4,e5,?_⟩
     rw [show (some a::vis fr as:As)=[some a]++vis fr as from rfl,b1O]
     exact r3
theorem c3P {CX:CXT} {E:XK} {k:Nat} {f:Addr} {fd:FuncData} {ps:List Str} {x:Str} {p:Pos} {f':List PyData->Option PV} (G:m6 X.prog X.w X.K X.mg X.base CX k f fd ps (spF X.K f')) (hr:M7 k X.A) (hg:Gl X x) (hm:X.mg x=some (.ref f)) (hk:PySem.W.keepIn X.K (.ref f)=true) (hb:Binds X.K fd ps []) (hx:Passes CX X E)
  (ha:PAX X fr (e::es) t Fl) (hdb:(x==("__debug__" : Str))=false:=by decide) (he:starEach (e::es) X.env=(false,eval e X.env)::starEach es X.env:=by rfl) (hpl:(backTo pos (starEach es X.env)).any (·.1)=false:=by rfl) :
  PX X fr (.Call (.Name x p) (e::es) [] pos) (a4W (spF X.K f') [] E t) (g0 f' Fl):=⟨c4e G hr hg hm hk hb .nil hx ha.p hdb he hpl,b6q ha⟩
end
noncomputable def frz (ds:Ds):Ds:=ds.map (Option.map fun pv=>.dat pv.d)
theorem a0G {b:Addr} {n:Nat}:some b ∉ (List.replicate n none:As):=fun z=>by simp [List.mem_replicate] at z
theorem c4H {H:Hp} {n:Nat} {O:List Addr}:hid H (List.replicate n none) O=hid H [] O:=by
 funext b
 unfold hid
 have h1:=a0G (b:=b) (n:=n)
 by_cases c:b ∈ O
 . rw [if_pos (.inl c),if_pos (.inl c)]
 . rw [if_neg (fun z=>z.elim c h1),if_neg (fun z=>z.elim c (by simp))]
section
variable {K:PySem.W.Frag} {O:List Addr} {i4 H H':Hp} {as:As} {σ:St} {ds:Ds} {v:V} {pv:PV} {fr:Bool}
theorem a2x.frz {si:Option (Option V)} {ai bi:Option (Option Addr)} {bs:As} (S:DS K O i4 as σ H ds) (hi:∀ a,ai=some (some a)->some a ∈ as) (h:a2x K O as H si ai pv) (hb:∀ b,some b ∈ bs->some b ∈ as)
  (ho:∀ a,ai=some (some a)->some a ∉ bs):a2x K O bs H si bi (.dat pv.d):=by
 cases pv with
 | dat d=>obtain ⟨v,e1,h⟩:=h;exact ⟨v,e1,h.same (G7 (j4.refl _) hb)⟩
 | own l =>
  obtain ⟨a,xs,e1,e2,e3,h⟩:=h
  exact ⟨_,e1,.lst (SqL.of (M5.mpr ⟨S.nO (hi a e2),ho a e2,e3⟩)) (h.same (G7 (j4.refl _) hb))⟩
theorem DS.frz (S:DS K O i4 as σ H ds):DS K O i4 (List.replicate ds.length none) σ H (frz ds) where
 ls:=by simp [L2.frz,S.ls]
 la:=by simp [L2.frz]
 same:=S.same
 new:=fun a h=>absurd h a0G
 dom:=S.dom
 inj:=fun i j a h _=>absurd (List.mem_of_getElem? h) a0G
 slot:=fun i pv h=>by
  unfold L2.frz at h
  rw [List.getElem?_map] at h
  cases hd:ds[i]? with
  | none=>rw [hd] at h;cases h
  | some x =>
   cases x with
   | none=>rw [hd] at h;cases h
   | some w =>
    rw [hd] at h
    cases h
    exact (S.slot i w hd).frz S (fun a e=>List.mem_of_getElem? e) (fun b z=>absurd z a0G) (fun a _=>a0G)
noncomputable def a8V (i:Nat) (ds:Ds):Ds:=match ds[i]? with
 | some (some (.own l))=>ds.set i (some (.dat (.list l)))
 | _=>ds
theorem DS.a8V (S:DS K O i4 as σ H ds) (i:Nat):∃ as',DS K O i4 as' σ H (a8V i ds):=by
 unfold L2.a8V
 split
 . rename_i l hd
   refine ⟨as.set i none,?_⟩
   have sub:∀ b,some b ∈ as.set i none->some b ∈ as:=fun b z=>by
    rcases mem_or_eq_of_mem_set z with z | z
    . exact z
    . cases z
   refine ⟨by simp [S.ls],by simp [S.la],S.same,fun a h=>S.new a (sub a h),S.dom,fun j k a h1 h2=>?_,fun j pv h=>?_⟩
   . have f:∀ j,(as.set i none)[j]? = some (some a)->as[j]? = some (some a):=fun j z=>by
       rw [List.getElem?_set] at z
       split at z
       . split at z <;> cases z
       . exact z
     exact S.inj j k a (f j h1) (f k h2)
   . rw [List.getElem?_set] at h
     by_cases hij:i=j
     . subst hij
       rw [if_pos rfl] at h
       split at h
       . cases h
         have sl:=S.slot i _ hd
         refine a2x.frz S (fun a e=>List.mem_of_getElem? e) sl sub fun a e z=>?_
         obtain ⟨k,hk⟩:=List.mem_iff_getElem?.mp z
         rw [List.getElem?_set] at hk
         by_cases hik:i=k
         . subst hik
           rw [if_pos rfl] at hk
           split at hk <;> cases hk
         . rw [if_neg hik] at hk
           exact hik (S.inj i k a e hk)
       . cases h
     . rw [if_neg hij] at h
       have sl:=S.slot j pv h
       rw [List.getElem?_set_ne hij]
       cases pv with
       | dat d=>obtain ⟨v,e1,h⟩:=sl;exact ⟨v,e1,h.same (G7 (j4.refl _) sub)⟩
       | own l'=>obtain ⟨a,xs,e1,e2,e3,h⟩:=sl;exact ⟨a,xs,e1,e2,e3,h.same (G7 (j4.refl _) sub)⟩
 . exact ⟨as,S⟩
end
section
variable {X:Cx} {fr:Bool} {e:Expr} {te:TE} {F:Ds->Option PV}
noncomputable def U1 (F:Ds->Option PV):Ds->Option PV:=fun ds=>F (frz ds)
theorem a1p (h:PX X true e te F):PX X false e te (U1 F):=⟨h.p,by
 intro O i4 as σ H ds pv Q S hf q
 refine h.t O i4 _ σ H _ pv Q S.frz hf fun v H' e r=>q v H' e ?_
 exact r.less fun b z=>by simp [vis] at z⟩
end
noncomputable def b8C (K:PySem.W.Frag) (O:List Addr) (Hb:Hp) (J:It) (items:List PyData):Prop :=
 ∀ H',j4 Hb H'->∀ i,(i < items.length->J.go i H')/\(items.length<=i->J.stop i H') /\
  ∀ x H'',J.yld i H' x H''->i < items.length->j4 H' H''/\∃ d,items[i]? = some d/\∀ vb:As,(∀ b,some b ∈ vb->Hb b=none/\∃ o,H' b=some o)->(∀ b ∈ O,∃ o,Hb b=some o)->Dt K (hid H'' vb O) x d
noncomputable def TIX (K:PySem.W.Frag) (fr:Bool) (wi:TI) (Fi:Ds->Option (List PyData)):Prop :=
 ∀ (O:List Addr) (i4:Hp) (as:As) (σ:St) (H:Hp) (ds:Ds) (items:List PyData) (R:It->Hp->Prop),DS K O i4 as σ H ds->Fi ds=some items->(∀ J H1,j4 H H1->b8C K O (hid H1 (vis fr as) []) J items->R J H1)->wi σ H R
structure PIX (X:Cx) (fr:Bool) (tg e:Expr) (wi:TI) (Fi:Ds->Option (List PyData)):Prop where
 p:PI X tg e wi
 t:TIX X.K fr wi Fi
noncomputable def W9:PyData->Option (List PyData)
 | .list l=>some l
 | .tuple l=>some l
 | _=>none
noncomputable def iSq (F:Ds->Option PV):Ds->Option (List PyData):=fun ds=>(F ds).bind fun pv=>W9 pv.d
theorem b1H {K:PySem.W.Frag} {O:List Addr} {H1 H' H'':Hp} {va vb:As} {x:V} {d:PyData} (h:Dt K (hid H1 va O) x d) (e:j4 (hid H1 va []) H') (e2:j4 H' H'') (hv:∀ b,some b ∈ vb->hid H1 va [] b=none/\∃ o,H' b=some o):Dt K (hid H'' vb O) x d :=
 h.same (a2g fun b o h1 h2 h3=>by
  have hb:hid H1 va [] b=some o:=M5.mpr ⟨by simp,h2,h3⟩
  refine ⟨h1,fun z=>?_,e2 _ _ (e _ _ hb)⟩
  rw [(hv b z).1] at hb
  cases hb)
theorem b4c {H1:Hp} {va:As} {O:List Addr}:j4 (hid H1 va O) (hid H1 va []):=a2g fun b o _ h2 h3=>⟨by simp,h2,h3⟩
section
variable {X:Cx} {fr:Bool} {tg e a b:Expr} {te:TE} {ta:TA} {F:Ds->Option PV} {Fl:Ds->Option (List PyData)} {p pos:Pos}
noncomputable def W4 (lo:Int) (n:Nat):List PyData:=(List.range n).map fun k=>.int (lo + (k:Nat))
theorem c0o {K:PySem.W.Frag} {O:List Addr} {Hb:Hp} {lo:Int} {n:Nat}:b8C K O Hb (Itr lo n) (W4 lo n):=by
 intro H' e i
 have hl:(W4 lo n).length=n:=by simp [W4]
 refine ⟨fun hi=>(by rw [hl] at hi;exact hi),fun hi=>(by rw [hl] at hi;exact hi),fun x H'' y hi=>?_⟩
 obtain ⟨e1,e2⟩:=y
 subst e1
 subst e2
 rw [hl] at hi
 refine ⟨j4.refl _,.int (lo + i),?_,fun vb _ _=>.int _⟩
 simp [W4,List.getElem?_range hi]
noncomputable def a4p:List PyData->Option (List PyData)
 | [.int j]=>@ite _ (-(4611686018427387904)<=j/\j < 4611686018427387904) (Classical.propDecidable _) (some (W4 0 j.toNat)) none
 | _=>none
noncomputable def b7r:List PyData->Option (List PyData)
 | [.int i,.int j]=>@ite _ ((-(4611686018427387904)<=i/\i < 4611686018427387904)/\-(4611686018427387904)<=j/\j < 4611686018427387904) (Classical.propDecidable _) (some (W4 i (j - i).toNat)) none
 | _=>none
noncomputable def iFn (f:List PyData->Option (List PyData)) (Fl:Ds->Option (List PyData)):Ds->Option (List PyData):=fun ds=>(Fl ds).bind f
theorem a1e (hg:Gl X "range") (hm:X.mg "range" = none) (ha:PAX X fr [a] ta Fl) (hs:starEach [a] X.env=[(false,eval a X.env)]:=by rfl):PIX X fr tg (.Call (.Name "range" p) [a] [] pos) (c3l ta) (iFn a4p Fl):=⟨b9r hg hm ha.p hs,by
 intro O i4 as σ H ds items R S hf q
 unfold iFn at hf
 cases h1:Fl ds with
 | none=>rw [h1] at hf;cases hf
 | some l =>
  rw [h1] at hf
  simp only [Option.bind_some] at hf
  refine ha.t O i4 as σ H ds l _ S h1 fun vs H1 e1 r1=>?_
  unfold a4p at hf
  split at hf
  . rename_i j
    split at hf
    . rename_i hj
      cases hf
      cases r1 with
      | cons r rr =>
       cases r
       cases rr
       exact ⟨j,rfl,hj.1,hj.2,q _ H1 e1 c0o⟩
    . cases hf
  . cases hf⟩
theorem b7y (hg:Gl X "range") (hm:X.mg "range" = none) (ha:PAX X fr [a,b] ta Fl) (hs:starEach [a,b] X.env=[(false,eval a X.env),(false,eval b X.env)]:=by rfl) (hs2:starEach [b] X.env=[(false,eval b X.env)]:=by rfl):PIX X fr tg (.Call (.Name "range" p) [a,b] [] pos) (c3k ta) (iFn b7r Fl):=⟨b9q hg hm ha.p hs hs2,by
 intro O i4 as σ H ds items R S hf q
 unfold iFn at hf
 cases h1:Fl ds with
 | none=>rw [h1] at hf;cases hf
 | some l =>
  rw [h1] at hf
  simp only [Option.bind_some] at hf
  refine ha.t O i4 as σ H ds l _ S h1 fun vs H1 e1 r1=>?_
  unfold b7r at hf
  split at hf
  . rename_i i j
    split at hf
    . rename_i hj
      cases hf
      cases r1 with
      | cons r rr =>
       cases r
       cases rr with
       | cons r rr =>
        cases r
        cases rr
        exact ⟨i,j,rfl,⟨hj.1.1,hj.1.2,hj.2.1,hj.2.2⟩,q _ H1 e1 c0o⟩
    . cases hf
  . cases hf⟩
noncomputable def c3j (K:PySem.W.Frag) (ta:TA):TI:=fun σ H R=>ta σ H fun vs H1=>∃ a b k1 k2,vs=[.ref a,.ref b]/\(∃ xs,SqK k1 K H1 a xs)/\(∃ ys,SqK k2 K H1 b ys)/\R (Itz k1 k2 K a b) H1
theorem c3Z {es:List Expr} {k:Nat} {tp:Pos} (hg:Gl X "zip") (hm:X.mg "zip" = none) (ha:PA X [a,b] ta) (hs:starEach [a,b] X.env=[(false,eval a X.env),(false,eval b X.env)]:=by rfl) (hs2:starEach [b] X.env=[(false,eval b X.env)]:=by rfl) :
  PI X (.Tuple es k tp) (.Call (.Name "zip" p) [a,b] [] pos) (c3j X.K ta):=by
 intro pins s σ H R I h
 refine Call_ (a6i I hg hm boot_zip (PyProof.Rows.callWith_type1 (thn (ha pos pins s σ H _ I h) fun us s1 ⟨vs,H1,I1,r1,q1⟩=>?_) (by rw [hs,hs2]) (by rw [hs2];rfl)))
 obtain ⟨x,y,k1,k2,e,⟨xs,hx⟩,⟨ys,hy⟩,q⟩:=q1
 subst e
 obtain ⟨u,v,e,r2,r3⟩:=vals2 r1
 subst e
 cases r2
 cases r3
 obtain ⟨us,sx⟩:=I1.R4 hx
 obtain ⟨vs,sy⟩:=I1.R4 hy
 refine c0C sx sy fun h' Z kk=>?_
 refine wpAny_pyIter_zip Z.hz ?_
 have I2:Inv X pins σ H1 { s1 with heap:=h' }:=I1.kept (t':=s1.toks) kk
 refine ⟨s1.heap.objs.size + 4,_,_,_,H1,rfl,I2,c1g (c1a _),Z,fun b hb=>?_,q⟩
 have hb':b=s1.heap.objs.size + 4\/b=s1.heap.objs.size + 2\/b=s1.heap.objs.size + 3\/b=s1.heap.objs.size\/b=s1.heap.objs.size + 1:=by simpa using hb
 have hge:s1.heap.objs.size<=b:=by
  rcases hb' with e | e | e | e | e <;> rw [e]
  . exact Nat.le_add_right _ _
  . exact Nat.le_add_right _ _
  . exact Nat.le_add_right _ _
  . exact Nat.le_refl _
  . exact Nat.le_add_right _ _
 exact I1.b0I hge (I1.hok.fresh hge)
theorem j4.R4 {kd:Bool} {K:PySem.W.Frag} {H H':Hp} {a:Addr} {xs:List V} (e:j4 H H') (h:SqK kd K H a xs):SqK kd K H' a xs:=by
 cases kd
 . exact e.seq h
 . exact e.a1H h
theorem Dt.R4 {K:PySem.W.Frag} {H:Hp} {v:V} {d:PyData} {l:List PyData} (h:Dt K H v d) (hd:W9 d=some l):∃ a kd xs,v=.ref a/\SqK kd K H a xs/\Dts K H xs l:=by
 cases h with
 | lst hs ht=>cases hd;exact ⟨_,false,_,rfl,hs,ht⟩
 | tup hs ht=>cases hd;exact ⟨_,true,_,rfl,hs,ht⟩
 | _=>cases hd
noncomputable def a6p:List PyData->Option (List PyData)
 | [d,e]=>(W9 d).bind fun l=>(W9 e).bind fun m=>some (List.zipWith (fun x y=>.tuple [x,y]) l m)
 | _=>none
theorem b6C {es:List Expr} {k:Nat} {tp:Pos} (hg:Gl X "zip") (hm:X.mg "zip" = none) (ha:PAX X fr [a,b] ta Fl) (hs:starEach [a,b] X.env=[(false,eval a X.env),(false,eval b X.env)]:=by rfl) (hs2:starEach [b] X.env=[(false,eval b X.env)]:=by rfl) :
  PIX X fr (.Tuple es k tp) (.Call (.Name "zip" p) [a,b] [] pos) (c3j X.K ta) (iFn a6p Fl):=⟨c3Z hg hm ha.p hs hs2,by
 intro O i4 as σ H ds items R S hf q
 unfold iFn at hf
 cases h1:Fl ds with
 | none=>rw [h1] at hf;cases hf
 | some l =>
  rw [h1] at hf
  simp only [Option.bind_some] at hf
  refine ha.t O i4 as σ H ds l _ S h1 fun vs H1 e1 r1=>?_
  unfold a6p at hf
  split at hf
  . rename_i d1 d2
    cases hl:W9 d1 with
    | none=>rw [hl] at hf;cases hf
    | some l1 =>
     cases hl2:W9 d2 with
     | none=>rw [hl,hl2] at hf;cases hf
     | some l2 =>
      rw [hl,hl2] at hf
      cases hf
      cases r1 with
      | cons r rr =>
       cases rr with
       | cons r' rr =>
        cases rr
        obtain ⟨a,k1,xs,rfl,s1,t1⟩:=r.R4 hl
        obtain ⟨b,k2,ys,rfl,s2,t2⟩:=r'.R4 hl2
        refine ⟨a,b,k1,k2,rfl,⟨xs,t7.R4 s1⟩,⟨ys,t7.R4 s2⟩,q _ H1 e1 fun H' e' i=>?_⟩
        have s1':SqK k1 X.K H' a xs:=e'.R4 (b4c.R4 s1)
        have s2':SqK k2 X.K H' b ys:=e'.R4 (b4c.R4 s2)
        have g1:=t1.length
        have g2:=t2.length
        rw [length_zipWith]
        refine ⟨fun hi=>⟨xs,ys,xs[i]'(by omega),ys[i]'(by omega),s1',s2',List.getElem?_eq_getElem _,List.getElem?_eq_getElem _⟩,fun hi=>⟨xs,ys,s1',s2',by omega⟩,fun x H'' y hi=>?_⟩
        obtain ⟨pp,z1,z2,x',y',z3,z4⟩:=y
        obtain ⟨z5,z6⟩:=z4 xs ys s1' s2'
        subst z1
        subst z3
        obtain ⟨dx,ex,hx⟩:=t1.get' z5
        obtain ⟨dy,ey,hy⟩:=t2.get' z6
        refine ⟨j4.new z2,.tuple [dx,dy],by rw [List.getElem?_zipWith,ex,ey],fun vb hv hO=>?_⟩
        refine .tup (SqT.of (M5.mpr ⟨fun z=>?_,fun z=>?_,E7⟩)) (.cons (b1H hx e' (j4.new z2) hv) (.cons (b1H hy e' (j4.new z2) hv) .nil))
        . obtain ⟨o,z⟩:=hO _ z
          rw [e' _ _ z] at z2
          cases z2
        . obtain ⟨_,o,z⟩:=hv _ z
          rw [z] at z2
          cases z2
  . cases hf⟩
end
noncomputable def TGB (K:PySem.W.Frag) (n:Nat) (g:TG) (gt:PyData->Option (List PyData)):Prop :=
 ∀ (O:List Addr) (va:As) (H:Hp) (v:V) (d:PyData) (σ:St) (bs:List PyData) (Q:St->Hp->Prop),Dt K (hid H va O) v d->gt d=some bs->(∀ vs,Dts K (hid H va O) vs bs->vs.length=n->Q (vs.map some++σ) H)->g v (List.replicate n none++σ) H Q
noncomputable def C1:PyData->Option (List PyData):=fun d=>some [d]
noncomputable def a1C (n:Nat):PyData->Option (List PyData)
 | .tuple l=>if l.length=n then some l else none
 | _=>none
theorem a0R {K:PySem.W.Frag}:TGB K 1 (a0u 0) C1:=by
 intro O va H v d σ bs Q hd hg q
 cases hg
 exact q [v] (.cons hd .nil) rfl
theorem c7P {α:Type}:∀ {l:List α},l.length=2->∃ x y,l=[x,y]
 | [x,y],_=>⟨x,y,rfl⟩
theorem c7O {α:Type}:∀ {l:List α},l.length=3->∃ x y z,l=[x,y,z]
 | [x,y,z],_=>⟨x,y,z,rfl⟩
theorem b4p {K:PySem.W.Frag}:TGB K 2 (b5e K 2 (a9L (a0u 0) (a9L (a0u 1) b5f))) (a1C 2):=by
 intro O va H v d σ bs Q hd hg q
 cases hd with
 | tup hs ht =>
  rename_i a xs l
  have hg':(if l.length=2 then some l else none)=some bs:=hg
  split at hg'
  . rename_i hl
    have e:l=bs:=Option.some.inj hg'
    rw [e] at ht hl
    have hx:xs.length=2:=ht.length.trans hl
    obtain ⟨x,y,rfl⟩:=c7P hx
    exact ⟨a,[x,y],rfl,t7.a1H hs,rfl,x,[y],rfl,y,[],rfl,rfl,q [x,y] ht rfl⟩
  . cases hg'
 | _=>cases hg
noncomputable def V3 (l:List PyData):Ds:=l.map fun d=>some (.dat d)
@[simp] theorem a0Y:V3 []=[]:=rfl
@[simp] theorem a0j (d:PyData) (l:List PyData):V3 (d::l)=some (.dat d)::V3 l:=rfl
theorem Dts.slots {K:PySem.W.Frag} {H:Hp} {vs:List V} {l:List PyData} (h:Dts K H vs l) {i:Nat} {pv:PV} (e:(V3 l)[i]? = some (some pv)):∃ d v,pv=.dat d/\vs[i]? = some v/\Dt K H v d:=by
 unfold V3 at e
 rw [List.getElem?_map] at e
 cases hd:l[i]? with
 | none=>rw [hd] at e;cases e
 | some d =>
  rw [hd] at e
  cases e
  obtain ⟨x,h1,h2⟩:=h.get hd
  exact ⟨d,x,rfl,h1,h2⟩
theorem a9I {H:Hp} {n:Nat} {as:As} {O:List Addr}:hid H (List.replicate n none++as) O=hid H as O:=by
 funext b
 unfold hid
 have:some b ∈ List.replicate n none++as ↔ some b ∈ as:=by
  rw [mem_append]
  exact ⟨fun z=>z.elim (fun z=>absurd z a0G) id,.inr⟩
 by_cases c:b ∈ O\/some b ∈ as
 . rw [if_pos (c.imp id this.mpr),if_pos c]
 . rw [if_neg (fun z=>c (z.imp id this.mp)),if_neg c]
theorem DS.pre {K:PySem.W.Frag} {O:List Addr} {i4 H:Hp} {as:As} {σ:St} {ds:Ds} {vs:List V} {l:List PyData} (S:DS K O i4 as σ H ds) (h:Dts K (hid H as O) vs l) :
  DS K O i4 (List.replicate l.length none++as) (vs.map some++σ) H (V3 l++ds) where
 ls:=by simp [V3,S.ls,h.length]
 la:=by simp [V3,S.la]
 same:=S.same
 new:=fun a z=>S.new a ((mem_append.mp z).elim (fun z=>absurd z a0G) id)
 dom:=S.dom
 inj:=fun i j a h1 h2=>by
  have f:∀ i,(List.replicate l.length none++as)[i]? = some (some a)->l.length<=i/\as[i - l.length]? = some (some a):=fun i z=>by
   rw [List.getElem?_append] at z
   split at z
   . exact absurd (List.mem_of_getElem? z) a0G
   . rename_i hi
     rw [length_replicate] at hi z
     exact ⟨by omega,z⟩
  obtain ⟨h3,h4⟩:=f i h1
  obtain ⟨h5,h6⟩:=f j h2
  have:=S.inj _ _ a h4 h6
  omega
 slot:=fun i pv e=>by
  have hl:=h.length
  have ld:(V3 l).length=l.length:=by simp [V3]
  rw [List.getElem?_append] at e
  split at e
  . rename_i hi
    rw [ld] at hi
    obtain ⟨d,v,rfl,h1,h2⟩:=h.slots e
    refine ⟨v,?_,by rw [a9I];exact h2⟩
    rw [List.getElem?_append_left (by simp;omega),List.getElem?_map,h1]
    rfl
  . rename_i hi
    rw [ld] at hi e
    have sl:=S.slot _ pv e
    rw [List.getElem?_append_right (by simp;omega),List.getElem?_append_right (by simp;omega)]
    simp only [length_map,length_replicate,hl]
    cases pv with
    | dat d=>obtain ⟨v,e1,h⟩:=sl;exact ⟨v,e1,by rw [a9I];exact h⟩
    | own l'=>obtain ⟨a,xs,e1,e2,e3,h⟩:=sl;exact ⟨a,xs,e1,e2,e3,by rw [a9I];exact h⟩
noncomputable def D9 (gt:PyData->Option (List PyData)) (Fc:Ds->Option Bool) (Fe:Ds->Option PV) (ds:Ds):List PyData->Option (List PyData)
 | []=>some []
 | x::r=>(gt x).bind fun bs=>(Fc (V3 bs++ds)).bind fun b=>if b=true then (Fe (V3 bs++ds)).bind fun y=>(D9 gt Fc Fe ds r).bind fun l=>some (y.d::l) else D9 gt Fc Fe ds r
noncomputable def O2 (Fi:Ds->Option (List PyData)) (gt:PyData->Option (List PyData)) (Fc:Ds->Option Bool) (Fe:Ds->Option PV):Ds->Option PV:=fun ds=>(Fi ds).bind fun items=>if items.length<=1000000 then (D9 gt Fc Fe ds items).bind fun l=>some (.own l) else none
structure b1U (X:Cx) (ifs:List Expr) (t:TT) (F:Ds->Option Bool):Prop where
 p:b1d X ifs t
 t:TTX X.K t F
noncomputable def G4:Ds->Option Bool:=fun _=>some true
theorem a0h {X:Cx}:b1U X [] b7g G4:=⟨c1M,by
 intro O i4 as σ H ds b Q S hf q
 cases hf
 exact q H (j4.refl H)⟩
theorem b2X {X:Cx} {c:Expr} {t:TT} {F:Ds->Option Bool} (h:PTX X c t F):b1U X [c] t F:=⟨c1L h.p,h.t⟩
theorem a4d {X:Cx} {bs nb:List Str} {elt tg iter:Expr} {ifs:List Expr} {scope:Scope} {pos:Pos} {wi:TI} {g:TG} {tt:TT} {te:TE} {Fi:Ds->Option (List PyData)} {gt:PyData->Option (List PyData)} {Fc:Ds->Option Bool} {Fe:Ds->Option PV}
  (hc:X.calm=true) (B:a4b X bs nb scope) (hi:PIX X true tg iter wi Fi) (go:a9t bs.length g) (hg:∀ cl C fp s H pins,PG (blk X bs nb scope cl C fp s H pins) tg g) (hgt:TGB X.K bs.length g gt) (ht:∀ cl C fp s H pins,b1U (blk X bs nb scope cl C fp s H pins) ifs tt Fc) (he:∀ cl C fp s H pins,PX (blk X bs nb scope cl C fp s H pins) true elt te Fe)
  (hs:∀ x,foldedSetIterable iter X.env x=pure x:=by intro _;rfl):PX X true (.ListComp elt [⟨tg,iter,ifs,0⟩] scope pos) (a9x bs wi g tt te) (O2 Fi gt Fc Fe):=⟨c4c hc B hi.p go hg (fun _ _ _ _ _ _=>(ht _ _ _ _ _ _).p) (fun _ _ _ _ _ _=>(he _ _ _ _ _ _).p) hs,by
 intro O i4 as σ H ds pv Q S hf q
 have tE:TX X.K true te Fe:=(he [] 0 [] X.L5 X.i4 []).t
 have tC:TTX X.K tt Fc:=(ht [] 0 [] X.L5 X.i4 []).t
 unfold O2 at hf
 cases h1:Fi ds with
 | none=>rw [h1] at hf;cases hf
 | some items =>
  rw [h1] at hf
  simp only [Option.bind_some] at hf
  split at hf
  . rename_i hn
    cases h2:D9 gt Fc Fe ds items with
    | none=>rw [h2] at hf;cases hf
    | some l =>
     rw [h2] at hf
     cases hf
     refine hi.t O i4 as σ H ds items _ S h1 fun J H1 e1 it=>?_
     have S1:=S.grow e1
     have it':b8C X.K O (hid H1 as []) J items:=it
     refine ⟨items.length,fun i ys H'=>i<=items.length/\j4 H1 H'/\∃ l1 l2,Dts X.K (hid H' as O) ys l1/\D9 gt Fc Fe ds (items.drop i)=some l2/\l1++l2=l,szM hn,⟨Nat.zero_le _,j4.refl _,[],l,.nil,h2,rfl⟩,?_⟩
     rintro i ys H' ⟨hi',e2,l1,l2,d1,c2,el⟩
     have S2:=S1.grow e2
     obtain ⟨go',st',yl'⟩:=it' H' (t7.trans e2) i
     by_cases hlt:i < items.length
     . refine .inr ⟨go' hlt,hlt,fun x H'' y=>?_⟩
       obtain ⟨e3,d,ed,dt⟩:=yl' x H'' y hlt
       have S3:=S2.grow e3
       have dx:Dt X.K (hid H'' as O) x d:=dt as (fun b hb=>⟨by unfold hid;rw [if_pos (.inr hb)],let ⟨_,z⟩:=(S2.new b hb).2;⟨_,z⟩⟩) fun b hb=>by
        obtain ⟨o,z⟩:=S.dom b hb
        refine ⟨o,M5.mpr ⟨by simp,fun z2=>?_,S1.same _ _ z⟩⟩
        rw [(S.new b z2).1] at z
        cases z
       have ed':items.drop i=d::items.drop (i + 1):=by
        rw [List.drop_eq_getElem_cons hlt]
        have:items[i]=d:=by
         have z:=List.getElem?_eq_getElem hlt
         rw [ed] at z
         exact (Option.some.inj z).symm
        rw [this]
       rw [ed'] at c2
       unfold D9 at c2
       cases h3:gt d with
       | none=>rw [h3] at c2;cases c2
       | some bs' =>
        rw [h3] at c2
        simp only [Option.bind_some] at c2
        cases h4:Fc (V3 bs'++ds) with
        | none=>rw [h4] at c2;cases c2
        | some b =>
         rw [h4] at c2
         simp only [Option.bind_some] at c2
         refine hgt O as H'' x d σ bs' _ dx h3 fun vs dv lv=>?_
         have S4:=S3.pre dv
         refine tC O i4 _ _ H'' _ b _ S4 h4 fun H5 e5=>?_
         cases b with
         | false =>
          rw [if_neg (by decide)] at c2
          rw [if_neg (by decide)]
          exact ⟨hlt,(e2.trans e3).trans e5,l1,l2,d1.same (P8 (e3.trans e5)),c2,el⟩
         | true =>
          rw [if_pos rfl] at c2
          rw [if_pos rfl]
          cases h5:Fe (V3 bs'++ds) with
          | none=>rw [h5] at c2;cases c2
          | some yv =>
           rw [h5] at c2
           simp only [Option.bind_some] at c2
           cases h6:D9 gt Fc Fe ds (items.drop (i + 1)) with
           | none=>rw [h6] at c2;cases c2
           | some l3 =>
            rw [h6] at c2
            cases c2
            refine tE O i4 _ _ H5 _ yv _ (S4.grow e5) h5 fun u H6 e6 r6=>?_
            have d6:=r6.dt (S4.grow e5).dm
            have d7:Dt X.K (hid H6 as O) u yv.d:=by
             have z:Dt X.K (hid H6 (List.replicate bs'.length none++as) O) u yv.d:=d6
             rw [a9I] at z
             exact z
            exact ⟨hlt,((e2.trans e3).trans e5).trans e6,l1++[yv.d],l3,(d1.same (P8 ((e3.trans e5).trans e6))).append (.cons d7 .nil),h6,by rw [<-el];simp⟩
     . have hi2:i=items.length:=by omega
       subst hi2
       rw [drop_length] at c2
       cases c2
       rw [append_nil] at el
       subst el
       exact .inl ⟨st' (Nat.le_refl _),fun p hp=>q _ _ ((e1.trans e2).trans (j4.new hp)) (RX.back (a4o hp d1) (e1.trans e2))⟩
  . cases hf⟩
inductive Out where
 | next (ds:Ds)
 | ret (pv:PV)
 | brk (ds:Ds)
 | cont (ds:Ds)
 | up (x:PyData)
noncomputable def c7T (K:PySem.W.Frag) (O:List Addr) (H:Hp) (ea:Addr) (x:PyData):Prop:=∃ C dx fld v d,x=a0d C fld d/\a2z K C/\PySem.W.findIn K (.ref C) fld=some none/\H ea=some (.ext (E4 ea C (some dx)))/\H dx=some (.xd [(fld,v)])/\dx ∉ O/\Dt K (hid H [] (ea::O)) v d
noncomputable def a4T (X:Cx) (O:List Addr) (i4:Hp) (D:Ends):Out->Prop
 | .next ds=>∀ as σ H,DS X.K O i4 as σ H ds->D.nx σ H
 | .brk ds=>∀ as σ H,DS X.K O i4 as σ H ds->D.bk σ H
 | .cont ds=>∀ as σ H,DS X.K O i4 as σ H ds->D.ct σ H
 | .ret pv=>∀ v H,j4 i4 H->RX X.K O [] i4 H v pv->D.rt v H
 | .up x=>∀ ea H,j4 i4 H->i4 ea=none->c7T X.K O H ea x->∀ pins σ s,Inv X pins σ H s->X.xe (.ref ea) s
noncomputable def TSX (X:Cx) (t:TS) (G:Ds->Option Out):Prop :=
 ∀ (O:List Addr) (i4:Hp) (as:As) (σ:St) (H:Hp) (ds:Ds) (D:Ends) (o:Out),DS X.K O i4 as σ H ds->G ds=some o->a4T X O i4 D o->t D σ H
structure PSX (X:Cx) (st:Stmt) (t:TS) (G:Ds->Option Out):Prop where
 p:PS X st t
 t:TSX X t G
structure a4N (X:Cx) (st:List Stmt) (t:TS) (G:Ds->Option Out):Prop where
 p:PSs X st t
 t:TSX X t G
noncomputable def o8:Ds->Option Out:=fun ds=>some (.next ds)
noncomputable def i8 (G1 G2:Ds->Option Out):Ds->Option Out:=fun ds=>(G1 ds).bind fun o=>match o with
 | .next ds'=>G2 ds'
 | o=>some o
section
variable {X:Cx} {st:Stmt} {rest sa sb:List Stmt} {t u:TS} {G G1 G2:Ds->Option Out} {fr:Bool} {e c:Expr} {te:TE} {tt:TT} {F:Ds->Option PV} {Ft:Ds->Option Bool} {pos:Pos}
theorem n8:a4N X [] b7f o8:=⟨c3U,by
 intro O i4 as σ H ds D o S hf q
 cases hf
 exact q as σ H S⟩
theorem i3 (h:PSX X st t G):a4N X [st] t G:=⟨b6A h.p,h.t⟩
theorem d9 (h1:PSX X st t G1) (h2:a4N X rest u G2):a4N X (st::rest) (c1j t u) (i8 G1 G2):=⟨b4E h1.p h2.p,by
 intro O i4 as σ H ds D o S hf q
 unfold i8 at hf
 cases e1:G1 ds with
 | none=>rw [e1] at hf;cases hf
 | some o1 =>
  rw [e1] at hf
  simp only [Option.bind_some] at hf
  refine h1.t O i4 as σ H ds { D with nx:=u D } o1 S e1 ?_
  cases o1 with
  | next ds1=>exact fun as' σ' H' S'=>h2.t O i4 as' σ' H' ds1 D o S' hf q
  | ret pv=>cases hf;exact q
  | brk ds1=>cases hf;exact q
  | cont ds1=>cases hf;exact q
  | up x=>cases hf;exact q⟩
noncomputable def a6X (i:Nat) (G:Ds->Option Out):Ds->Option Out:=fun ds=>G (a8V i ds)
theorem b4D (i:Nat) (h:PSX X st t G):PSX X st t (a6X i G):=⟨h.p,by
 intro O i4 as σ H ds D o S hf q
 obtain ⟨as',S'⟩:=S.a8V i
 exact h.t O i4 as' σ H _ D o S' hf q⟩
theorem DS.set {K:PySem.W.Frag} {O:List Addr} {i4 H:Hp} {as:As} {σ:St} {ds:Ds} {v:V} {d:PyData} (S:DS K O i4 as σ H ds) (i:Nat) (h:Dt K (hid H as O) v d):DS K O i4 (as.set i none) (σ.set i (some v)) H (ds.set i (some (.dat d))):=by
 have sub:∀ b,some b ∈ as.set i none->some b ∈ as:=fun b z=>by
  rcases mem_or_eq_of_mem_set z with z | z
  . exact z
  . cases z
 refine ⟨by simp [S.ls],by simp [S.la],S.same,fun a h=>S.new a (sub a h),S.dom,fun j k a h1 h2=>?_,fun j pv hj=>?_⟩
 . have f:∀ j,(as.set i none)[j]? = some (some a)->as[j]? = some (some a):=fun j z=>by
     rw [List.getElem?_set] at z
     split at z
     . split at z <;> cases z
     . exact z
   exact S.inj j k a (f j h1) (f k h2)
 . by_cases hij:i=j
   . subst hij
     rw [List.getElem?_set] at hj
     rw [if_pos rfl] at hj
     split at hj
     . rename_i hl
       cases hj
       exact ⟨v,by rw [List.getElem?_set_self (by rw [S.ls];exact hl)],h.same (G7 (j4.refl _) sub)⟩
     . cases hj
   . rw [List.getElem?_set_ne hij] at hj
     have sl:=S.slot j pv hj
     rw [List.getElem?_set_ne hij,List.getElem?_set_ne hij]
     cases pv with
     | dat d=>obtain ⟨v,e1,h⟩:=sl;exact ⟨v,e1,h.same (G7 (j4.refl _) sub)⟩
     | own l'=>obtain ⟨a,xs,e1,e2,e3,h⟩:=sl;exact ⟨a,xs,e1,e2,e3,h.same (G7 (j4.refl _) sub)⟩
theorem DS.c7J {K:PySem.W.Frag} {O:List Addr} {i4 H:Hp} {as:As} {σ:St} {ds:Ds} {l:List PyData} (S:DS K O i4 as σ H ds) (i:Nat) {a:Addr} {xs:List V} (hn:i4 a=none) (ha:some a ∉ as) (hH:H a=some (.lst xs))
  (hv:∀ j pv,ds[j]? = some (some pv)->j ≠ i->a2x K O (some a::as) H σ[j]? as[j]? pv) (h:Dts K (hid H (some a::as) O) xs l):DS K O i4 (as.set i (some a)) (σ.set i (some (.ref a))) H (ds.set i (some (.own l))):=by
 have sub:∀ b,some b ∈ as.set i (some a)->some b ∈ some a::as:=fun b z=>by
  rcases mem_or_eq_of_mem_set z with z | z
  . exact mem_cons_of_mem _ z
  . rw [z];exact mem_cons_self
 refine ⟨by simp [S.ls],by simp [S.la],S.same,fun b hb=>?_,S.dom,fun j k b h1 h2=>?_,fun j pv hj=>?_⟩
 . rcases mem_cons.mp (sub b hb) with z | z
   . cases z;exact ⟨hn,_,hH⟩
   . exact S.new b z
 . have f:∀ j,(as.set i (some a))[j]? = some (some b)->(j=i/\b=a)\/(j ≠ i/\as[j]? = some (some b)):=fun j z=>by
     rw [List.getElem?_set] at z
     split at z
     . rename_i e
       split at z
       . cases z;exact .inl ⟨e.symm,rfl⟩
       . cases z
     . rename_i e
       exact .inr ⟨fun q=>e q.symm,z⟩
   rcases f j h1 with ⟨e1,e2⟩ | ⟨e1,e2⟩ <;> rcases f k h2 with ⟨e3,e4⟩ | ⟨e3,e4⟩
   . rw [e1,e3]
   . subst e2;exact absurd (List.mem_of_getElem? e4) ha
   . subst e4;exact absurd (List.mem_of_getElem? e2) ha
   . exact S.inj j k b e2 e4
 . by_cases hij:i=j
   . subst hij
     rw [List.getElem?_set] at hj
     rw [if_pos rfl] at hj
     split at hj
     . rename_i hl
       cases hj
       exact ⟨a,xs,by rw [List.getElem?_set_self (by rw [S.ls];exact hl)],by rw [List.getElem?_set_self (by rw [S.la];exact hl)],hH,h.same (G7 (j4.refl _) sub)⟩
     . cases hj
   . rw [List.getElem?_set_ne hij] at hj
     have sl:=hv j pv hj (fun z=>hij z.symm)
     rw [List.getElem?_set_ne hij,List.getElem?_set_ne hij]
     cases pv with
     | dat d=>obtain ⟨v,e1,h⟩:=sl;exact ⟨v,e1,h.same (G7 (j4.refl _) sub)⟩
     | own l'=>obtain ⟨a,xs,e1,e2,e3,h⟩:=sl;exact ⟨a,xs,e1,e2,e3,h.same (G7 (j4.refl _) sub)⟩
theorem DS.store {K:PySem.W.Frag} {O:List Addr} {i4 H H1:Hp} {as:As} {σ:St} {ds:Ds} {v:V} {pv:PV} (S:DS K O i4 as σ H ds) (e1:j4 H H1) (i:Nat) (r:RX K O as H H1 v pv):∃ as',DS K O i4 as' (σ.set i (some v)) H1 (ds.set i (some pv)):=by
 have S1:=S.grow e1
 cases pv with
 | dat d=>exact ⟨_,S1.set i r⟩
 | own l =>
  obtain ⟨a,xs,rfl,e2,e3,h⟩:=r
  have na:some a ∉ as:=fun z=>by
   obtain ⟨_,o,z⟩:=S.new a z
   rw [e2] at z;cases z
  have sm:j4 (hid H as O) (hid H1 (some a::as) O):=a2g fun b o h1 h2 h3=>⟨h1,fun z=>by
   rcases mem_cons.mp z with z | z
   . cases z;rw [e2] at h3;cases h3
   . exact h2 z,e1 _ _ h3⟩
  refine ⟨_,S1.c7J i (S.same.free e2) na e3 (fun j pv hj _=>?_) h⟩
  have sl:=S.slot j pv hj
  cases pv with
  | dat d=>obtain ⟨v,z1,z⟩:=sl;exact ⟨v,z1,z.same sm⟩
  | own l'=>obtain ⟨a',xs',z1,z2,z3,z⟩:=sl;exact ⟨a',xs',z1,z2,e1 _ _ z3,z.same sm⟩
noncomputable def a0t (i:Nat) (F:Ds->Option PV):Ds->Option Out:=fun ds=>(F ds).bind fun pv=>some (.next (ds.set i (some pv)))
noncomputable def j6 (i:Nat) (F:Ds->Option PV):Ds->Option Out:=fun ds=>(F ds).bind fun pv=>some (.next (ds.set i (some (.dat pv.d))))
theorem Z6 {i:Nat} {x:Str} {pos':Pos} (hN:X.N.Nodup) (hi:X.N[i]? = some x) (hx:Loc X.env.scope x) (he:PX X true e te F) (hs:swapsWith e (some (.Name x pos')) pos.line X.env=pure false:=by rfl) (hf:X.fn x=true\/X.env.scope.names.lookup x=some .local:=by first | exact .inl rfl | exact .inr rfl | assumption) :
  PSX X (.Assign [.Name x pos'] e pos) (a5q te (a0u i)) (a0t i F):=⟨b9k hN hi hx he.p hs hf,by
 intro O i4 as σ H ds D o S h q
 unfold a0t at h
 cases e1:F ds with
 | none=>rw [e1] at h;cases h
 | some pv =>
  rw [e1] at h
  cases h
  refine he.t O i4 as σ H ds pv _ S e1 fun v H1 s1 r1=>?_
  obtain ⟨as',S'⟩:=S.store s1 i r1
  exact q as' _ _ S'⟩
theorem i7 {i:Nat} {x:Str} {pos':Pos} (hN:X.N.Nodup) (hi:X.N[i]? = some x) (hx:Loc X.env.scope x) (he:PX X true e te F) (hs:swapsWith e (some (.Name x pos')) pos.line X.env=pure false:=by rfl) (hf:X.fn x=true\/X.env.scope.names.lookup x=some .local:=by first | exact .inl rfl | exact .inr rfl | assumption) :
  PSX X (.Assign [.Name x pos'] e pos) (a5q te (a0u i)) (j6 i F):=⟨b9k hN hi hx he.p hs hf,by
 intro O i4 as σ H ds D o S h q
 unfold j6 at h
 cases e1:F ds with
 | none=>rw [e1] at h;cases h
 | some pv =>
  rw [e1] at h
  cases h
  refine he.t O i4 as σ H ds pv _ S e1 fun v H1 s1 r1=>?_
  exact q _ _ _ ((S.grow s1).set i (r1.dt S.dm))⟩
noncomputable def b2A (i j:Nat) (Fl:Ds->Option (List PyData)):Ds->Option Out:=fun ds=>(Fl ds).bind fun l=>match l with
 | [a,b]=>some (.next ((ds.set i (some (.dat a))).set j (some (.dat b))))
 | _=>none
theorem c3T {i j:Nat} {x y:Str} {a b:Expr} {ta:TA} {Fl:Ds->Option (List PyData)} {px py pt:Pos} {kt k2 pt2} (hc:X.calm=true) (hN:X.N.Nodup) (hi:X.N[i]? = some x) (hj:X.N[j]? = some y) (hij:i ≠ j)
  (hx:X.env.scope.names.lookup x=some .local) (hy:X.env.scope.names.lookup y=some .local) (ha:PAX X true [a,b] ta Fl)
  (hw:swappedStores [.Tuple [.Name x px,.Name y py] kt pt] (.Tuple [a,b] k2 pt2) X.env=pure (some [x,y]))
  (hs:swapsWithSole [.Tuple [.Name x px,.Name y py] kt pt] (.Tuple [a,b] k2 pt2) pos.line X.env=pure false:=by rfl) :
  PSX X (.Assign [.Tuple [.Name x px,.Name y py] kt pt] (.Tuple [a,b] k2 pt2) pos) (c1k i j ta) (b2A i j Fl):=⟨c5G hc hN hi hj hij hx hy ha.p hw hs,by
 intro O i4 as σ H ds D o S h q
 unfold b2A at h
 cases e1:Fl ds with
 | none=>rw [e1] at h;cases h
 | some l =>
  rw [e1] at h
  simp only [Option.bind_some] at h
  refine ha.t O i4 as σ H ds l _ S e1 fun vs H1 s1 r1=>?_
  split at h
  . rename_i da db
    cases h
    cases r1 with
    | cons r rr =>
     cases rr with
     | cons r' rr =>
      cases rr
      refine ⟨_,_,rfl,q _ _ _ (((S.grow s1).set i r).set j (r'.same (G7 (j4.refl _) fun b z=>?_)))⟩
      rcases mem_or_eq_of_mem_set z with z | z
      . exact z
      . cases z
  . cases h⟩
noncomputable def p8 (F:Ds->Option PV):Ds->Option Out:=fun ds=>(F ds).bind fun pv=>some (.ret pv)
theorem n6 (he:PX X fr e te F):PSX X (.Return (some e) pos) (b7c te) (p8 F):=⟨b9l he.p,by
 intro O i4 as σ H ds D o S h q
 unfold p8 at h
 cases e1:F ds with
 | none=>rw [e1] at h;cases h
 | some pv =>
  rw [e1] at h
  cases h
  refine he.t O i4 as σ H ds pv _ S e1 fun v H1 s1 r1=>?_
  exact q v H1 (S.same.trans s1) ((r1.back S.same).less fun b z=>by simp at z)⟩
noncomputable def R9 (i:Nat):Ds->Option Out:=fun ds=>match ds[i]? with
 | some (some pv)=>some (.ret pv)
 | _=>none
theorem P7 (i:Nat) (h:PE X e (Z5 i)):PSX X (.Return (some e) pos) (b7c (Z5 i)) (R9 i):=⟨b9l h,by
 intro O i4 as σ H ds D o S h q
 unfold R9 at h
 split at h
 . rename_i pv hd
   cases h
   have sl:=S.slot i pv hd
   cases pv with
   | dat d =>
    obtain ⟨v,e1,h⟩:=sl
    exact ⟨v,e1,q v H S.same (Dt.same (G7 (j4.refl _) fun b z=>by simp at z) h)⟩
   | own l =>
    obtain ⟨a,xs,e1,e2,e3,h⟩:=sl
    have ha:=List.mem_of_getElem? e2
    refine ⟨_,e1,q _ H S.same ⟨a,xs,rfl,(S.new a ha).1,e3,h.same (G7 (j4.refl _) fun b z=>?_)⟩⟩
    have z':b=a:=by simpa using z
    rw [z'];exact ha
 . cases h⟩
noncomputable def b8h:Ds->Option Out:=fun _=>some (.ret (.dat .none))
noncomputable def gIf (Ft:Ds->Option Bool) (G1 G2:Ds->Option Out):Ds->Option Out:=fun ds=>(Ft ds).bind fun b=>if b=true then G1 ds else G2 ds
theorem n9 (hc:PTX X c tt Ft) (ha:a4N X sa t G1) (hb:a4N X sb u G2):PSX X (.If c sa sb pos) (c1m tt t u) (gIf Ft G1 G2):=⟨c7f hc.p ha.p hb.p,by
 intro O i4 as σ H ds D o S h q
 unfold gIf at h
 cases e1:Ft ds with
 | none=>rw [e1] at h;cases h
 | some b =>
  rw [e1] at h
  simp only [Option.bind_some] at h
  refine hc.t O i4 as σ H ds b _ S e1 fun H1 s1=>?_
  cases b with
  | true=>exact ha.t O i4 as σ H1 ds D o (S.grow s1) h q
  | false=>exact hb.t O i4 as σ H1 ds D o (S.grow s1) h q⟩
noncomputable def b8i:Ds->Option Out:=fun ds=>some (.next ds)
noncomputable def b5g:Ds->Option Out:=fun ds=>some (.brk ds)
noncomputable def b8k:Ds->Option Out:=fun ds=>some (.cont ds)
noncomputable def a8T:Ds->Option Out:=fun _=>none
theorem a5c:PSX X st b8R a8T:=⟨c1I,by
 intro O i4 as σ H ds D o S h q
 cases h⟩
noncomputable def b8j (F:Ds->Option PV):Ds->Option Out:=fun ds=>(F ds).bind fun _=>some (.next ds)
end
theorem DS.turn {K:PySem.W.Frag} {O:List Addr} {i4 H:Hp} {as:As} {σ:St} {ds:Ds} {l l':List PyData} {xs xs':List V} {i:Nat} {a:Addr} (S:DS K O i4 as σ H ds) (hd:ds[i]? = some (some (.own l))) (e1:σ[i]? = some (some (.ref a))) (e2:as[i]? = some (some a)) (hv:Dts K (hid H as O) xs' l') :
  DS K O i4 as σ (upd H a (.lst xs')) (ds.set i (some (.own l'))):=by
 have ha:=List.mem_of_getElem? e2
 have sm:j4 (hid H as O) (hid (upd H a (.lst xs')) as O):=a2g fun b o h1 h2 h3=>⟨h1,h2,by
  rw [s9 (fun z=>h2 (by rw [z];exact ha))];exact h3⟩
 have hl:i < ds.length:=(List.getElem?_eq_some_iff.mp hd).1
 refine ⟨by simp [S.ls],by simp [S.la],fun b o h=>?_,fun b hb=>⟨(S.new b hb).1,?_⟩,S.dom,S.inj,fun j pv hj=>?_⟩
 . rw [s9 (fun z=>?_)]
   . exact S.same _ _ h
   . rw [z,(S.new a ha).1] at h;cases h
 . by_cases z:b=a
   . exact ⟨_,by rw [z];exact E7⟩
   . obtain ⟨_,o,h⟩:=S.new b hb
     exact ⟨o,by rw [s9 z];exact h⟩
 . by_cases hij:i=j
   . subst hij
     rw [List.getElem?_set_self hl] at hj
     cases hj
     exact ⟨a,xs',e1,e2,E7,hv.same sm⟩
   . rw [List.getElem?_set_ne hij] at hj
     have sl:=S.slot j pv hj
     cases pv with
     | dat d=>obtain ⟨v,z1,z⟩:=sl;exact ⟨v,z1,z.same sm⟩
     | own l' =>
      obtain ⟨a',xs',z1,z2,z3,z⟩:=sl
      refine ⟨a',xs',z1,z2,?_,z.same sm⟩
      rw [s9 (fun w=>hij ?_)]
      . exact z3
      . rw [w] at z2;exact S.inj i j a e2 z2
noncomputable def a2j (i:Nat) (F:Ds->Option PV):Ds->Option Out:=fun ds=>(F ds).bind fun pv=>match ds[i]? with
 | some (some (.own l))=>if l.length < 1000000 then some (.next (ds.set i (some (.own (l++[pv.d]))))) else none
 | _=>none
section
variable {X:Cx} {e o:Expr} {te:TE} {F:Ds->Option PV} {pos cpos apos:Pos}
theorem a0H (i:Nat) (ho:PE X o (Z5 i)) (he:PX X true e te F) (hst:starEach [e] X.env=(false,eval e X.env)::starEach [] X.env:=by rfl)
  (hbase:attributeBase o "append" X.env (eval o X.env)=eval o X.env:=by rfl)
  (hfew:((backTo cpos (starEach [e] X.env)).all (fun x=>!x.1)&&(backToKw cpos (keywordEach [] X.env)).all (fun x=>x.1.isSome)
   && decide ([e].length + ([]:List Keyword).length + (if ([]:List Keyword).isEmpty then 0 else 1) < 30))=true:=by rfl)
  (hline:(apos.endLine==cpos.line)=true:=by rfl) (hplain:(backTo cpos (starEach [] X.env)).any (·.1)=false:=by rfl)
  (hs:swapsWith (.Call (.Attribute o "append" apos) [e] [] cpos) none pos.line X.env=pure false:=by rfl) :
  PSX X (.Expr (.Call (.Attribute o "append" apos) [e] [] cpos) pos) (b3Y (tBM X.K "list" b6y (Z5 i) (a1w te a8j))) (a2j i F) :=
 ⟨a9A (b7z PySem.F.plainAttrs_list PySem.F.slot_list_append PySem.F.type_list_append b9U ho (a0I he.p a6b hst) hbase hfew hline hst hplain) hs,by
 intro O i4 as σ H ds D o S h q
 unfold a2j at h
 cases e1:F ds with
 | none=>rw [e1] at h;cases h
 | some pv =>
  rw [e1] at h
  simp only [Option.bind_some] at h
  split at h
  . rename_i l hd
    split at h
    . rename_i hl
      cases h
      obtain ⟨a,xs,z1,z2,z3,z4⟩:=S.slot i _ hd
      refine ⟨_,z1,.inl ⟨rfl,xs,SqL.of z3⟩,?_⟩
      refine he.t O i4 as σ H ds pv _ S e1 fun v H1 s1 r1=>?_
      have hx:=z4.length
      refine ⟨a,xs,v,rfl,rfl,s1 _ _ z3,Nat.lt_of_lt_of_le (by omega) (szM (Nat.le_refl _)),q as σ _ ?_⟩
      exact (S.grow s1).turn (xs:=xs) hd z1 z2 ((z4.same (P8 s1)).append (.cons (r1.dt S.dm) .nil))
    . cases h
  . cases h⟩
end
theorem DS.rebase {K:PySem.W.Frag} {O:List Addr} {i4 H:Hp} {as:As} {σ:St} {ds:Ds} (S:DS K O i4 as σ H ds):DS K O (hid H as []) as σ H ds where
 ls:=S.ls
 la:=S.la
 same:=t7
 new:=fun a h=>⟨by unfold hid;rw [if_pos (.inr h)],(S.new a h).2⟩
 dom:=fun a h=>by
  obtain ⟨o,z⟩:=S.dom a h
  refine ⟨o,M5.mpr ⟨by simp,fun q=>?_,S.same _ _ z⟩⟩
  rw [(S.new a q).1] at z
  cases z
 inj:=S.inj
 slot:=S.slot
theorem DS.a8c {K:PySem.W.Frag} {O:List Addr} {i4 Hb H:Hp} {as:As} {σ:St} {ds:Ds} (S:DS K O Hb as σ H ds) (e:j4 i4 Hb) (hd:∀ a ∈ O,∃ o,i4 a=some o):DS K O i4 as σ H ds :=
 ⟨S.ls,S.la,e.trans S.same,fun a h=>⟨e.free (S.new a h).1,(S.new a h).2⟩,hd,S.inj,S.slot⟩
theorem DS.c5l {K:PySem.W.Frag} {O:List Addr} {i4 H:Hp} {as:As} {σ:St} {ds:Ds} (S:DS K O i4 as σ H ds):j4 i4 (hid H as []):=fun b o h=>by
 refine M5.mpr ⟨by simp,fun q=>?_,S.same _ _ h⟩
 rw [(S.new b q).1] at h
 cases h
theorem a4T.a8c {X:Cx} {O:List Addr} {i4 Hb:Hp} {D:Ends} {o:Out} (h:a4T X O i4 D o) (e:j4 i4 Hb) (hd:∀ a ∈ O,∃ u,i4 a=some u):a4T X O Hb D o:=by
 cases o with
 | next ds=>exact fun as σ H S=>h as σ H (S.a8c e hd)
 | brk ds=>exact fun as σ H S=>h as σ H (S.a8c e hd)
 | cont ds=>exact fun as σ H S=>h as σ H (S.a8c e hd)
 | ret pv=>exact fun v H s r=>h v H (e.trans s) (r.back e)
 | up x=>exact fun ea H s n u=>h ea H (e.trans s) (e.free n) u
noncomputable def TGX (K:PySem.W.Frag) (g:TG) (gt:PyData->Ds->Option Ds):Prop :=
 ∀ (O:List Addr) (i4:Hp) (as:As) (σ:St) (H:Hp) (ds ds':Ds) (v:V) (d:PyData) (Q:St->Hp->Prop),DS K O i4 as σ H ds->Dt K (hid H as O) v d->gt d ds=some ds'->(∀ as' σ',DS K O i4 as' σ' H ds'->Q σ' H)->g v σ H Q
noncomputable def G3 (i:Nat):PyData->Ds->Option Ds:=fun d ds=>some (ds.set i (some (.dat d)))
theorem a1G {K:PySem.W.Frag} {i:Nat}:TGX K (a0u i) (G3 i):=by
 intro O i4 as σ H ds ds' v d Q S h e q
 cases e
 exact q _ _ (S.set i h)
noncomputable def b8A (K:PySem.W.Frag) (g:TGs) (gt:List PyData->Ds->Option Ds):Prop :=
 ∀ (O:List Addr) (i4:Hp) (as:As) (σ:St) (H:Hp) (ds ds':Ds) (vs:List V) (l:List PyData) (Q:St->Hp->Prop),DS K O i4 as σ H ds->Dts K (hid H as O) vs l->gt l ds=some ds'->(∀ as' σ',DS K O i4 as' σ' H ds'->Q σ' H)->g vs σ H Q
noncomputable def b0r:List PyData->Ds->Option Ds
 | [],ds=>some ds
 | _,_=>none
noncomputable def a1d (i:Nat) (r:List PyData->Ds->Option Ds):List PyData->Ds->Option Ds
 | d::l,ds=>r l (ds.set i (some (.dat d)))
 | [],_=>none
noncomputable def b0q (n:Nat) (r:List PyData->Ds->Option Ds):PyData->Ds->Option Ds
 | .tuple l,ds=>if l.length=n then r l ds else none
 | _,_=>none
theorem b4o {K:PySem.W.Frag}:b8A K b5f b0r:=by
 intro O i4 as σ H ds ds' vs l Q S h e q
 cases h with
 | nil=>cases e;exact ⟨rfl,q _ _ S⟩
 | cons _ _=>cases e
theorem a1P {K:PySem.W.Frag} {i:Nat} {g:TGs} {r:List PyData->Ds->Option Ds} (hg:b8A K g r):b8A K (a9L (a0u i) g) (a1d i r):=by
 intro O i4 as σ H ds ds' vs l Q S h e q
 cases h with
 | nil=>cases e
 | cons h t =>
  refine ⟨_,_,rfl,hg O i4 _ _ H _ ds' _ _ Q (S.set i h) (t.same (G7 (j4.refl _) fun b z=>?_)) e q⟩
  rcases mem_or_eq_of_mem_set z with z | z
  . exact z
  . cases z
theorem b6s {K:PySem.W.Frag} {n:Nat} {g:TGs} {r:List PyData->Ds->Option Ds} (hg:b8A K g r):TGX K (b5e K n g) (b0q n r):=by
 intro O i4 as σ H ds ds' v d Q S h e q
 cases h with
 | tup hs ht =>
  rename_i a xs l
  have e':(if l.length=n then r l ds else none)=some ds':=e
  split at e'
  . rename_i hl
    exact ⟨a,xs,rfl,t7.a1H hs,by rw [ht.length];exact hl,hg O i4 as σ H ds ds' xs l Q S ht e' q⟩
  . cases e'
 | _=>cases e
noncomputable def K6 (gt:PyData->Ds->Option Ds) (G:Ds->Option Out):List PyData->Ds->Option Out
 | [],ds=>some (.next ds)
 | x::r,ds=>(gt x ds).bind fun ds1=>(G ds1).bind fun o=>match o with
  | .next ds2=>K6 gt G r ds2
  | .cont ds2=>K6 gt G r ds2
  | .brk ds2=>some (.next ds2)
  | .ret pv=>some (.ret pv)
  | .up x=>some (.up x)
noncomputable def a2i (Fi:Ds->Option (List PyData)) (gt:PyData->Ds->Option Ds) (G:Ds->Option Out):Ds->Option Out:=fun ds=>(Fi ds).bind fun items=>K6 gt G items ds
section
variable {X:Cx} {tg iter c:Expr} {body:List Stmt} {wi:TI} {g:TG} {tb:TS} {tt:TT} {pos:Pos} {Fi:Ds->Option (List PyData)} {gt:PyData->Ds->Option Ds} {G:Ds->Option Out} {Fc:Ds->Option Bool}
theorem a1R (hp:PassesOwn (model X.prog X.w) X.A X.env X.xe) (hc:X.calm=true) (hi:PIX X true tg iter wi Fi) (hg:PG X tg g) (hgt:TGX X.K g gt) (hb:a4N X body tb G)
  (hs:∀ x,foldedSetIterable iter X.env x=pure x:=by intro _;rfl):PSX X (.For tg iter body [] pos) (c5n wi g tb) (a2i Fi gt G):=⟨c5H hp hc hi.p hg hb.p hs,by
 intro O i4 as σ H ds D o S h q
 unfold a2i at h
 cases e1:Fi ds with
 | none=>rw [e1] at h;cases h
 | some items =>
  rw [e1] at h
  simp only [Option.bind_some] at h
  refine hi.t O i4 as σ H ds items _ S e1 fun J H1 s1 it=>?_
  have S1:=S.grow s1
  have it':b8C X.K O (hid H1 as []) J items:=it
  have Sb:=S1.rebase
  have eb:=S1.c5l
  have qb:=q.a8c (Hb:=hid H1 as []) eb S.dom
  refine ⟨fun i m σ' H'=>i<=items.length/\m=items.length - i/\∃ as' ds',DS X.K O (hid H1 as []) as' σ' H' ds'/\K6 gt G (items.drop i) ds'=some o,⟨_,Nat.zero_le _,rfl,as,ds,Sb,h⟩,?_⟩
  rintro i m σ2 H2 ⟨hi',em,as2,ds2,S2,f2⟩
  obtain ⟨go',st',yl'⟩:=it' H2 S2.same i
  by_cases hlt:i < items.length
  . have ed':items.drop i=items[i]::items.drop (i + 1):=List.drop_eq_getElem_cons hlt
    rw [ed'] at f2
    unfold K6 at f2
    cases e3:gt items[i] ds2 with
    | none=>rw [e3] at f2;cases f2
    | some ds3 =>
     rw [e3] at f2
     simp only [Option.bind_some] at f2
     cases e4:G ds3 with
     | none=>rw [e4] at f2;cases f2
     | some o4 =>
      rw [e4] at f2
      simp only [Option.bind_some] at f2
      refine .inr ⟨go' hlt,fun σ' H'=>∃ as' ds',DS X.K O (hid H1 as []) as' σ' H' ds'/\K6 gt G (items.drop (i + 1)) ds'=some o,fun σ' H' z=>⟨items.length - (i + 1),by omega,hlt,rfl,z⟩,fun x H' y=>?_⟩
      obtain ⟨e5,d,ed,dt⟩:=yl' x H' y hlt
      have edd:items[i]=d:=by
       rw [List.getElem?_eq_getElem hlt] at ed
       exact Option.some.inj ed
      have S3:=S2.grow e5
      have dx:Dt X.K (hid H' as2 O) x d:=dt as2 (fun b hb=>⟨(S2.new b hb).1,let ⟨_,z⟩:=(S2.new b hb).2;⟨_,z⟩⟩) S2.dom
      rw [edd] at e3
      refine hgt O _ as2 σ2 H' ds2 ds3 x d _ S3 dx e3 fun as4 σ4 S4=>?_
      refine hb.t O _ as4 σ4 H' ds3 _ o4 S4 e4 ?_
      cases o4 with
      | next ds5=>exact fun as5 σ5 H5 S5=>⟨as5,ds5,S5,f2⟩
      | cont ds5=>exact fun as5 σ5 H5 S5=>⟨as5,ds5,S5,f2⟩
      | brk ds5=>cases f2;exact fun as5 σ5 H5 S5=>qb as5 σ5 H5 S5
      | ret pv=>cases f2;exact qb
      | up x=>cases f2;exact qb
  . have hi2:i=items.length:=by omega
    subst hi2
    rw [drop_length] at f2
    cases f2
    exact .inl ⟨st' (Nat.le_refl _),qb as2 σ2 H2 S2⟩⟩
noncomputable def a0w (Fc:Ds->Option Bool) (G:Ds->Option Out):Nat->Ds->Option Out
 | 0,_=>none
 | n + 1,ds=>(Fc ds).bind fun b=>if b=true then (G ds).bind fun o=>match o with
   | .next ds2=>a0w Fc G n ds2
   | .cont ds2=>a0w Fc G n ds2
   | .brk ds2=>some (.next ds2)
   | .ret pv=>some (.ret pv)
   | .up x=>some (.up x)
  else some (.next ds)
noncomputable def a3r (μ:Ds->Nat) (Fc:Ds->Option Bool) (G:Ds->Option Out):Ds->Option Out:=fun ds=>a0w Fc G (μ ds) ds
theorem a8E (μ:Ds->Nat) (hp:PassesOwn (model X.prog X.w) X.A X.env X.xe) (hc:PTX X c tt Fc) (hb:a4N X body tb G):PSX X (.While c body [] pos) (b8Q tt tb) (a3r μ Fc G):=⟨c1H hp hc.p hb.p,by
 intro O i4 as σ H ds D o S h q
 unfold a3r at h
 refine ⟨fun m σ' H'=>∃ as' ds',DS X.K O i4 as' σ' H' ds'/\a0w Fc G m ds'=some o,⟨_,as,ds,S,h⟩,?_⟩
 rintro m σ2 H2 ⟨as2,ds2,S2,f2⟩
 cases m with
 | zero=>cases f2
 | succ m =>
  unfold a0w at f2
  cases e1:Fc ds2 with
  | none=>rw [e1] at f2;cases f2
  | some b =>
   rw [e1] at f2
   simp only [Option.bind_some] at f2
   refine hc.t O i4 as2 σ2 H2 ds2 b _ S2 e1 fun H3 s3=>?_
   cases b with
   | false =>
    cases f2
    exact q as2 σ2 H3 (S2.grow s3)
   | true =>
    rw [if_pos rfl] at f2
    rw [if_pos rfl]
    cases e4:G ds2 with
    | none=>rw [e4] at f2;cases f2
    | some o4 =>
     rw [e4] at f2
     simp only [Option.bind_some] at f2
     refine ⟨fun σ' H'=>∃ as' ds',DS X.K O i4 as' σ' H' ds'/\a0w Fc G m ds'=some o,fun σ' H' z=>⟨m,Nat.lt_succ_self _,z⟩,?_⟩
     refine hb.t O i4 as2 σ2 H3 ds2 _ o4 (S2.grow s3) e4 ?_
     cases o4 with
     | next ds5=>exact fun as5 σ5 H5 S5=>⟨as5,ds5,S5,f2⟩
     | cont ds5=>exact fun as5 σ5 H5 S5=>⟨as5,ds5,S5,f2⟩
     | brk ds5=>cases f2;exact q
     | ret pv=>cases f2;exact q
     | up x=>cases f2;exact q⟩
end
noncomputable def a6G:Out->Option PV
 | .ret pv=>some pv
 | .next _=>some (.dat .none)
 | _=>none
noncomputable def fnF (n N:Nat) (G:Ds->Option Out):List PyData->Option PV:=fun l=>if l.length=n then (G (V3 l++List.replicate (N - n) none)).bind a6G else none
section
variable {P:Program} {w:World} {K:PySem.W.Frag} {mg:Str->Option Value} {base:Heap}
theorem DS.start {O:List Addr} {H:Hp} {vs:List V} {l:List PyData} {N:List Str} (hO:∀ a ∈ O,∃ u,H a=some u) (h:Dts K (hid H [] O) vs l):DS K O H (List.replicate (V3 l++List.replicate (N.length - l.length) none).length none) (start N vs) H (V3 l++List.replicate (N.length - l.length) none):=by
 have hl:=h.length
 have S0:DS K O H (List.replicate (N.length - l.length) none) (List.replicate (N.length - l.length) none) H (List.replicate (N.length - l.length) none) :=
  ⟨by simp,by simp,j4.refl H,fun a z=>absurd z a0G,hO,fun i j a z _=>absurd (List.mem_of_getElem? z) a0G,fun i pv z=>by
   have:=List.mem_of_getElem? z
   simp [List.mem_replicate] at this⟩
 have S1:=S0.pre (vs:=vs) (l:=l) (by rw [c4H];exact h)
 have e1:(List.replicate (V3 l++List.replicate (N.length - l.length) none).length none:As)=List.replicate l.length none++List.replicate (N.length - l.length) none:=by
  rw [List.replicate_append_replicate,length_append,length_replicate]
  congr 1
  simp [V3]
 rw [e1]
 unfold L2.start
 rw [hl]
 exact S1
theorem Fun.okF {x qual:Str} {st:Stmt} {f:Addr} {fd:FuncData} {N ps:List Str} {k:Nat} {G:Ds->Option Out} (F:Fun K x qual st f fd) (S:o9 N ps (e9 st)) (hN:ps.length<=N.length)
  (hbody:∀ (cdv:Value) (A:Around) (outer:List Env) (s:Shared) (H:Hp) (E:XK),M7 k (A.deeper (envOfC qual (e9 st) s.heap.objs.size f cdv)) ->
   ∃ t,a4N (a5I CX0 P w K mg base N qual (e9 st) f cdv A outer s H E).nox (j3 st) t G):m6 P w K mg base CX0 (k + 1) f fd ps (spF K (fnF ps.length N.length G)):=by
 have ln:∀ vs H Q E,spF K (fnF ps.length N.length G) vs H Q E->vs.length=ps.length:=fun vs H Q E h=>by
  obtain ⟨O,ds,pv,h1,h2,h3,h4⟩:=h
  unfold fnF at h3
  split at h3
  . rename_i hl
    rw [h2.length];exact hl
  . cases h3
 refine F.ok S ln fun cdv A outer s H vs Q E hr h=>?_
 obtain ⟨O,ds,pv,h1,h2,h3,h4⟩:=h
 obtain ⟨t,ht⟩:=hbody cdv A outer s H E hr
 refine ⟨t,ht.p,?_⟩
 unfold fnF at h3
 split at h3
 . rename_i hl
   rw [<-hl] at h3
   cases e1:G (V3 ds++List.replicate (N.length - ds.length) none) with
   | none=>rw [e1] at h3;cases h3
   | some o =>
    rw [e1] at h3
    simp only [Option.bind_some] at h3
    refine ht.t O H _ (L2.start N vs) H _ _ o (DS.start h1 h2) e1 ?_
    cases o with
    | next ds'=>cases h3;exact fun as σ H' S'=>h4 _ H' S'.same Dt.non
    | ret pv'=>cases h3;exact fun v H' s r=>h4 v H' s r
    | brk ds'=>cases h3
    | cont ds'=>cases h3
    | up x=>cases h3
 . cases h3
end
noncomputable instance {m:Nat} {i:Int}:Decidable (Bt m i):=decidable_of_iff (i.natAbs < 2 ^ m) ⟨fun h=>⟨h⟩,fun h=>h.lt⟩
noncomputable instance {i j:Int}:Decidable (a9v i j):=by unfold a9v;infer_instance
noncomputable def iiD (g:Int->Int->PyData):PyData->PyData->Option PV
 | .int i,.int j=>some (.dat (g i j))
 | _,_=>none
noncomputable def a8Q (C:Int->Int->Prop) [∀ i j,Decidable (C i j)] (g:Int->Int->PyData):PyData->PyData->Option PV
 | .int i,.int j=>if C i j then some (.dat (g i j)) else none
 | _,_=>none
section
variable {K:PySem.W.Frag}
theorem a8B {g:Int->Int->V} {g':Int->Int->PyData} (hg:∀ i j H,Dt K H (g i j) (g' i j)):R2X K (rI0 g) (iiD g'):=by
 intro O va H x y d e pv Q D hx hy hf q
 cases hx with
 | int i =>
  cases hy with
  | int j =>
   cases hf
   exact ⟨i,j,rfl,rfl,q _ H (j4.refl H) (hg i j _)⟩
  | _=>cases hf
 | _=>cases hf
theorem a8A {C C':Int->Int->Prop} [∀ i j,Decidable (C i j)] {g:Int->Int->V} {g':Int->Int->PyData} (hC:∀ i j,C i j->C' i j) (hg:∀ i j H,Dt K H (g i j) (g' i j)):R2X K (rI C' g) (a8Q C g'):=by
 intro O va H x y d e pv Q D hx hy hf q
 cases hx with
 | int i =>
  cases hy with
  | int j =>
   have hf':(if C i j then some (PV.dat (g' i j)) else none)=some pv:=hf
   split at hf'
   . rename_i hc
     cases hf'
     exact ⟨i,j,rfl,rfl,hC i j hc,q _ H (j4.refl H) (hg i j _)⟩
   . cases hf'
  | _=>cases hf
 | _=>cases hf
noncomputable def c1p:=iiD fun i j=>.int (i - j)
noncomputable def a1l:=a8Q (fun i j=>Bt 60000 i/\Bt 60000 j) fun i j=>.int (i * j)
noncomputable def a3e:=a8Q (fun _ j=>j ≠ 0/\Bt 8000 j) fun i j=>.int (i.fdiv j)
noncomputable def Z1:=a8Q (fun _ j=>j ≠ 0) fun i j=>.int (i.fmod j)
noncomputable def c1K:=a8Q a9v fun i j=>.int (i ^ j.toNat)
noncomputable def c1u:=a8Q (fun _ j=>0<=j) fun i j=>.int (i / 2 ^ j.toNat)
noncomputable def ltD:=iiD fun i j=>.bool (decide (i < j))
noncomputable def leD:=iiD fun i j=>.bool (decide (i<=j))
noncomputable def gtD:=iiD fun i j=>.bool (decide (j < i))
noncomputable def geD:=iiD fun i j=>.bool (decide (j<=i))
theorem c6P:R2X K (rI0 fun i j=>.int (i - j)) c1p:=a8B fun i j H=>.int _
theorem a3R:R2X K (rI (fun i j=>Bt 60000 i/\Bt 60000 j) fun i j=>.int (i * j)) a1l:=a8A (fun _ _ h=>h) fun i j H=>.int _
theorem a4g:R2X K (rI (fun _ j=>j ≠ 0/\Bt 8000 j) fun i j=>.int (i.fdiv j)) a3e:=a8A (fun _ _ h=>h) fun i j H=>.int _
theorem a1a:R2X K (rI (fun _ j=>j ≠ 0) fun i j=>.int (i.fmod j)) Z1:=a8A (fun _ _ h=>h) fun i j H=>.int _
theorem c6R:R2X K (rI a9v fun i j=>.int (i ^ j.toNat)) c1K:=a8A (fun _ _ h=>h) fun i j H=>.int _
theorem c6Q:R2X K (rI (fun _ j=>0<=j) fun i j=>.int (i / 2 ^ j.toNat)) c1u:=a8A (fun _ _ h=>h) fun i j H=>.int _
theorem b0h:R2X K (rI0 fun i j=>.bl (decide (i < j))) ltD:=a8B fun i j H=>.bl _
theorem c7C:R2X K (rI0 fun i j=>.bl (decide (i<=j))) leD:=a8B fun i j H=>.bl _
theorem a7T:R2X K (rI0 fun i j=>.bl (decide (j < i))) gtD:=a8B fun i j H=>.bl _
theorem c5g:R2X K (rI0 fun i j=>.bl (decide (j<=i))) geD:=a8B fun i j H=>.bl _
noncomputable def a6M:PyData->Option PV
 | .int i=>some (.dat (.int (-i)))
 | _=>none
theorem a6q:R1X K (rU fun i=>.int (-i)) a6M:=by
 intro O va H x d pv Q D hx hf q
 cases hx with
 | int i=>cases hf;exact ⟨i,rfl,q _ H (j4.refl H) (Dt.int _)⟩
 | _=>cases hf
noncomputable def v5:PyData->PyData->Option PV
 | .str i,.str j=>some (.dat (.bool (decide (i=j))))
 | d,e=>if SeqAt.shaped d=true/\SeqAt.shaped e=true then some (.dat (.bool (PyData.eqv d e))) else none
noncomputable def W6:PyData->PyData->Option PV
 | .str i,.str j=>some (.dat (.bool (!decide (i=j))))
 | d,e=>if SeqAt.shaped d=true/\SeqAt.shaped e=true then some (.dat (.bool (!PyData.eqv d e))) else none
noncomputable def K1 (K:PySem.W.Frag):R2:=fun x y H Q=>rEq x y H Q\/∃ d e,Dt K H x d/\Dt K H y e/\SeqAt.shaped d=true/\SeqAt.shaped e=true/\Q (.bl (PyData.eqv d e)) H
noncomputable def a1W (K:PySem.W.Frag):R2:=fun x y H Q=>rNe x y H Q\/∃ d e,Dt K H x d/\Dt K H y e/\SeqAt.shaped d=true/\SeqAt.shaped e=true/\Q (.bl (!PyData.eqv d e)) H
theorem B3 {X:Cx} (hu:X.A.units + 64 < cLine):OpR X (compareOp .Eq) (K1 X.K):=c7l.or (c5Z hu)
theorem a0B {X:Cx} (hu:X.A.units + 64 < cLine):OpR X (compareOp .NotEq) (a1W X.K):=c7j.or (c5X hu)
theorem L4:R2X K (K1 K) v5:=by
 intro O va H x y d e pv Q D hx hy hf q
 unfold v5 at hf
 split at hf
 . cases hf
   cases hx
   cases hy
   rename_i i j
   exact .inl ⟨rfl,q _ H (j4.refl H) (by rw [show decide (V.str i=V.str j)=decide (i=j) by simp];exact Dt.bl _)⟩
 . split at hf
   . rename_i hs
     cases hf
     exact .inr ⟨d,e,hx.same t7,hy.same t7,hs.1,hs.2,q _ H (j4.refl H) (Dt.bl _)⟩
   . cases hf
theorem a3u:R2X K (a1W K) W6:=by
 intro O va H x y d e pv Q D hx hy hf q
 unfold W6 at hf
 split at hf
 . cases hf
   cases hx
   cases hy
   rename_i i j
   exact .inl ⟨rfl,q _ H (j4.refl H) (by rw [show decide (V.str i=V.str j)=decide (i=j) by simp];exact Dt.bl _)⟩
 . split at hf
   . rename_i hs
     cases hf
     exact .inr ⟨d,e,hx.same t7,hy.same t7,hs.1,hs.2,q _ H (j4.refl H) (Dt.bl _)⟩
   . cases hf
noncomputable def q9:PyData->Bool
 | .none=>true
 | _=>false
theorem Dt.c4s {H:Hp} {x:V} {d:PyData} (h:Dt K H x d):decide (x=.non)=q9 d:=by
 cases h <;> simp [q9,a0d,fnD]
noncomputable def isD:PyData->PyData->Option PV
 | d,.none=>some (.dat (.bool (q9 d)))
 | _,_=>none
noncomputable def c6x:PyData->PyData->Option PV
 | d,.none=>some (.dat (.bool (!q9 d)))
 | _,_=>none
theorem a0P:R2X K (fun x y H Q=>y=.non/\Q (.bl (decide (x=.non))) H) isD:=by
 intro O va H x y d e pv Q D hx hy hf q
 cases hy with
 | non=>cases hf;exact ⟨rfl,q _ H (j4.refl H) (by rw [hx.c4s];exact Dt.bl _)⟩
 | _=>cases hf
noncomputable def ixD:PyData->PyData->Option PV
 | .list l,.int i=>(atI l i).bind fun d=>some (.dat d)
 | .tuple l,.int i=>(atI l i).bind fun d=>some (.dat d)
 | .str z,.int i=>if z.length<=1000000 then (atI z.cps.toList i).bind fun c=>some (.dat (.str ⟨#[c]⟩)) else none
 | _,_=>none
theorem Dts.atI {H:Hp} {xs:List V} {l:List PyData} {i:Int} {d:PyData} (h:Dts K H xs l) (e:L2.atI l i=some d):∃ x,L2.atI xs i=some x/\Dt K H x d:=by
 unfold L2.atI at e ⊢
 rw [h.length]
 cases hi:ixN l.length i with
 | none=>rw [hi] at e;cases e
 | some j =>
  rw [hi] at e
  exact h.get e
theorem z0:R2X K (rIx K) ixD:=by
 intro O va H x y d e pv Q D hx hy hf q
 cases hx with
 | lst hs ht =>
  cases hy with
  | int i =>
   rename_i a xs l
   have hf':((L2.atI l i).bind fun d=>some (PV.dat d))=some pv:=hf
   cases h1:L2.atI l i with
   | none=>rw [h1] at hf';cases hf'
   | some d =>
    rw [h1] at hf'
    cases hf'
    obtain ⟨v,h2,h3⟩:=ht.atI h1
    exact .inl ⟨a,xs,i,v,rfl,rfl,t7.seq hs,h2,q v H (j4.refl H) h3⟩
  | _=>cases hf
 | tup hs ht =>
  cases hy with
  | int i =>
   rename_i a xs l
   have hf':((L2.atI l i).bind fun d=>some (PV.dat d))=some pv:=hf
   cases h1:L2.atI l i with
   | none=>rw [h1] at hf';cases hf'
   | some d =>
    rw [h1] at hf'
    cases hf'
    obtain ⟨v,h2,h3⟩:=ht.atI h1
    exact .inr (.inl ⟨a,xs,i,v,rfl,rfl,t7.a1H hs,h2,q v H (j4.refl H) h3⟩)
  | _=>cases hf
 | str z =>
  cases hy with
  | int i =>
   have hf':(if z.length<=1000000 then (L2.atI z.cps.toList i).bind fun c=>some (PV.dat (.str ⟨#[c]⟩)) else none)=some pv:=hf
   split at hf'
   . rename_i hz
     cases h1:L2.atI z.cps.toList i with
     | none=>rw [h1] at hf';cases hf'
     | some c =>
      rw [h1] at hf'
      cases hf'
      exact .inr (.inr ⟨z,i,c,rfl,rfl,szM hz,h1,q _ H (j4.refl H) (Dt.str _)⟩)
   . cases hf'
  | _=>cases hf
 | _=>cases hf
end
noncomputable def c2V (K:PySem.W.Frag):R2:=fun x y H Q=>∃ a b xs ys,x=.ref a/\y=.ref b/\SqT K H a xs/\SqT K H b ys/\xs.length + ys.length<=sizeLine /\
 (xs=[]->Q (.ref b) H)/\(xs ≠ []->ys=[]->Q (.ref a) H)/\(xs ≠ []->ys ≠ []->∀ p,H p=none->Q (.ref p) (upd H p (.tup (xs++ys))))
noncomputable def c2W (K:PySem.W.Frag):R2:=fun x y H Q=>∃ a b xs ys,x=.ref a/\y=.ref b/\SqL K H a xs/\SqL K H b ys/\xs.length + ys.length<=sizeLine/\∀ p,H p=none->Q (.ref p) (upd H p (.lst (xs++ys)))
section
variable {X:Cx}
theorem c4f:OpR X (binaryOp .Add) (c2V X.K):=by
 intro pins s σ H x y v u Q I rx ry h
 obtain ⟨a,b,xs,ys,rfl,rfl,ha,hb,hz,q1,q2,q3⟩:=h
 by_cases hx:xs=[]
 . subst hx
   cases rx
   cases ry
   obtain ⟨its,r1,p1,_⟩:=I.tuple ha
   obtain ⟨its2,r2,p2,_⟩:=I.tuple hb
   exact c4S p1 p2 (r1.a9D.mpr rfl) ⟨.ref b,H,I,rfl,q1 rfl⟩
 . exact c4g pins s σ H (.ref a) (.ref b) v u Q I rx ry ⟨a,b,xs,ys,rfl,rfl,ha,hb,hx,hz,fun e=>q2 hx e,fun e p hp=>q3 hx e p hp⟩
theorem c4h:OpR X (binaryOp .Add) (c2W X.K):=by
 intro pins s σ H x y v u Q I rx ry h
 obtain ⟨l,b,xs,zs,rfl,rfl,hH,hB,hz,q⟩:=h
 cases rx
 cases ry
 obtain ⟨its,r,p1,z1⟩:=I.list hH
 obtain ⟨its2,r2,p2,z2⟩:=I.list hB
 obtain ⟨⟨cls,dd,data,sl⟩,ho,hc,n,hd⟩:=p1.isList
 obtain ⟨⟨cls2,dd2,data2,sl2⟩,ho2,hc2,n2,hd2⟩:=p2.isList
 simp only at hc hd hc2 hd2
 subst hc hd hc2 hd2
 have e:its.toArray++its2.toArray=(its++its2).toArray:=by simp
 have h1:=r.length
 have h2:=r2.length
 refine concat_meets ⟨_,ho,rfl⟩ ⟨_,ho2,rfl⟩ noFill_list_add seq_list_add PySem.F.slot_list_add PySem.F.entry_list_add (PySem.F.args_list_add_2 _ _) (list_addW l b its.toArray its2.toArray n n2 dd dd2 sl sl2 (by simp;omega)) ⟨ho,ho2,?_⟩
 rw [e]
 exact ⟨.ref _,_,I.c7N (t':=s.toks) (r.append r2) (by rw [length_append];omega),rfl,q _ I.fresh⟩
noncomputable def m7 (K:PySem.W.Frag):R2:=fun x y H Q=>(rI0 fun i j=>.int (i + j)) x y H Q\/(∃ i j,x=.str i/\y=.str j/\i.length + j.length<=sizeLine/\Q (.str (i++j)) H)\/c2V K x y H Q\/c2W K x y H Q
theorem j0:OpR X (binaryOp .Add) (m7 X.K):=c6a.or (b7A.or (c4f.or c4h))
end
noncomputable def m5:PyData->PyData->Option PV
 | .int i,.int j=>some (.dat (.int (i + j)))
 | .str i,.str j=>if i.length + j.length<=1000000 then some (.dat (.str (i++j))) else none
 | .tuple l,.tuple m=>if l.length + m.length<=1000000 then some (.dat (.tuple (l++m))) else none
 | .list l,.list m=>if l.length + m.length<=1000000 then some (.own (l++m)) else none
 | _,_=>none
theorem m9 {K:PySem.W.Frag}:R2X K (m7 K) m5:=by
 intro O va H x y d e pv Q D hx hy hf q
 cases hx with
 | int i =>
  cases hy with
  | int j=>cases hf;exact .inl ⟨i,j,rfl,rfl,q _ H (j4.refl H) (Dt.int _)⟩
  | _=>cases hf
 | str i =>
  cases hy with
  | str j =>
   have hf':(if i.length + j.length<=1000000 then some (PV.dat (.str (i++j))) else none)=some pv:=hf
   split at hf'
   . rename_i hz
     cases hf'
     exact .inr (.inl ⟨i,j,rfl,rfl,szM hz,q _ H (j4.refl H) (Dt.str _)⟩)
   . cases hf'
  | _=>cases hf
 | tup hs ht =>
  cases hy with
  | tup hs2 ht2 =>
   rename_i a xs l b ys m
   have hf':(if l.length + m.length<=1000000 then some (PV.dat (.tuple (l++m))) else none)=some pv:=hf
   split at hf'
   . rename_i hz
     cases hf'
     have g1:=ht.length
     have g2:=ht2.length
     refine .inr (.inr (.inl ⟨a,b,xs,ys,rfl,rfl,t7.a1H hs,t7.a1H hs2,by rw [g1,g2];exact szM hz,fun e=>?_,fun e1 e2=>?_,fun e1 e2 p hp=>?_⟩))
     . subst e
       cases ht
       exact q _ H (j4.refl H) (Dt.tup hs2 ht2)
     . subst e2
       cases ht2
       rw [append_nil] at q
       exact q _ H (j4.refl H) (Dt.tup hs ht)
     . exact q _ _ (j4.new hp) (a8w D hp (ht.append ht2))
   . cases hf'
  | _=>cases hf
 | lst hs ht =>
  cases hy with
  | lst hs2 ht2 =>
   rename_i a xs l b ys m
   have hf':(if l.length + m.length<=1000000 then some (PV.own (l++m)) else none)=some pv:=hf
   split at hf'
   . rename_i hz
     cases hf'
     have g1:=ht.length
     have g2:=ht2.length
     exact .inr (.inr (.inr ⟨a,b,xs,ys,rfl,rfl,t7.seq hs,t7.seq hs2,by rw [g1,g2];exact szM hz,fun p hp=>q _ _ (j4.new hp) (a4o hp (ht.append ht2))⟩))
   . cases hf'
  | _=>cases hf
 | _=>cases hf
noncomputable def cutD {α:Type} (xs:List α) (lo hi:Option Int):List α:=(xs.drop (HT.sIx xs.length 0 lo)).take (HT.sIx xs.length xs.length hi - HT.sIx xs.length 0 lo)
theorem Dts.cut {K:PySem.W.Frag} {H:Hp} {xs:List V} {l:List PyData} (h:Dts K H xs l) (lo hi:Option Int):Dts K H (a4K xs lo hi) (cutD l lo hi):=by
 unfold a4K cutD
 rw [h.length]
 exact (h.drop _).take _
noncomputable def c5x (K:PySem.W.Frag):V->Option Int->Option Int->Hp->VK->Prop:=fun x lo hi H Q=>∃ a xs,x=.ref a/\SqT K H a xs/\(a4K xs lo hi=xs->Q (.ref a) H)/\∀ p,H p=none->Q (.ref p) (upd H p (.tup (a4K xs lo hi)))
section
variable {X:Cx}
theorem c3C:SlR X (c5x X.K):=by
 intro pins s σ H x v vl vu lo hi sl Q I rx hs pl pu h
 obtain ⟨a,xs,rfl,hx,q1,q2⟩:=h
 by_cases hw:HT.sIx xs.length 0 lo=0/\HT.sIx xs.length xs.length hi=xs.length
 . cases rx
   obtain ⟨its,r,ht,hz⟩:=I.tuple hx
   have hlen:its.toArray.size=xs.length:=by rw [size_toArray];exact r.length.symm
   refine ⟨"tuple",_,PyProof.Rows.slot_tuple_getitem.lookup,ht.typeIs,?_⟩
   refine b3M ht hs pl pu (by rw [hlen];exact hw) ⟨.ref a,H,I,rfl,q1 ?_⟩
   unfold a4K;rw [hw.1,hw.2];simp
 . exact c5r pins s σ H (.ref a) v vl vu lo hi sl Q I rx hs pl pu ⟨a,xs,rfl,hx,hw,q2⟩
end
noncomputable def rSl (K:PySem.W.Frag):V->Option Int->Option Int->Hp->VK->Prop:=fun x lo hi H Q=>c5x K x lo hi H Q\/c5z K x lo hi H Q
theorem c5t {X:Cx}:SlR X (rSl X.K):=c3C.or c3D
noncomputable def slD:PyData->Option Int->Option Int->Option PV
 | .tuple l,lo,hi=>some (.dat (.tuple (cutD l lo hi)))
 | .list l,lo,hi=>some (.own (cutD l lo hi))
 | _,_,_=>none
noncomputable def R3X (K:PySem.W.Frag) (r:V->Option Int->Option Int->Hp->VK->Prop) (f:PyData->Option Int->Option Int->Option PV):Prop :=
 ∀ (O:List Addr) (va:As) (H:Hp) (x:V) (lo hi:Option Int) (d:PyData) (pv:PV) (Q:VK),Dom H va O->Dt K (hid H va O) x d->f d lo hi=some pv->(∀ v H',j4 H H'->RX K O va H H' v pv->Q v H')->r x lo hi H Q
theorem c7B {K:PySem.W.Frag}:R3X K (rSl K) slD:=by
 intro O va H x lo hi d pv Q D hx hf q
 cases hx with
 | tup hs ht =>
  cases hf
  refine .inl ⟨_,_,rfl,t7.a1H hs,fun e=>?_,fun p hp=>q _ _ (j4.new hp) (a8w D hp (ht.cut lo hi))⟩
  have h2:=ht.cut lo hi
  rw [e] at h2
  exact q _ H (j4.refl H) (Dt.tup hs h2)
 | lst hs ht =>
  cases hf
  exact .inr ⟨_,_,rfl,t7.seq hs,fun p hp=>q _ _ (j4.new hp) (a4o hp (ht.cut lo hi))⟩
 | _=>cases hf
noncomputable def TOX (K:PySem.W.Frag) (to:TO) (F:Ds->Option (Option Int)):Prop :=
 ∀ (O:List Addr) (i4:Hp) (as:As) (σ:St) (H:Hp) (ds:Ds) (b:Option Int) (Q:Option Int->Hp->Prop),DS K O i4 as σ H ds->F ds=some b->(∀ H',j4 H H'->Q b H')->to σ H Q
structure POX (X:Cx) (e:Option Expr) (to:TO) (F:Ds->Option (Option Int)):Prop where
 p:PO X e to
 t:TOX X.K to F
noncomputable def D8:Ds->Option (Option Int):=fun _=>some none
noncomputable def asI:PyData->Option Int
 | .int i=>some i
 | _=>none
noncomputable def A5 (F:Ds->Option PV):Ds->Option (Option Int):=fun ds=>(F ds).bind fun pv=>(asI pv.d).bind fun i=>some (some i)
section
variable {X:Cx} {fr:Bool} {e:Expr} {te:TE} {F:Ds->Option PV} {p2 pos:Pos}
theorem B8:POX X none b2b D8:=⟨c3Y,by
 intro O i4 as σ H ds b Q S hf q
 cases hf
 exact q H (j4.refl H)⟩
theorem v8 (h:PX X fr e te F):POX X (some e) (b7d te) (A5 F):=⟨c3X h.p,by
 intro O i4 as σ H ds b Q S hf q
 unfold A5 at hf
 cases h1:F ds with
 | none=>rw [h1] at hf;cases hf
 | some pv =>
  rw [h1] at hf
  simp only [Option.bind_some] at hf
  refine h.t O i4 as σ H ds pv _ S h1 fun v H1 e1 r1=>?_
  have d:=r1.dt S.dm
  generalize pv.d=z at d hf
  cases d with
  | int i=>cases hf;exact ⟨i,rfl,q H1 e1⟩
  | _=>cases hf⟩
noncomputable def fSl (f:PyData->Option Int->Option Int->Option PV) (F:Ds->Option PV) (Fl Fh:Ds->Option (Option Int)):Ds->Option PV:=fun ds=>(F ds).bind fun x=>(Fl ds).bind fun lo=>(Fh ds).bind fun hi=>f x.d lo hi
theorem A0 {r:V->Option Int->Option Int->Hp->VK->Prop} {f:PyData->Option Int->Option Int->Option PV} {lo hi:Option Expr} {tl th:TO} {Fl Fh:Ds->Option (Option Int)} (ho:SlR X r) (hr:R3X X.K r f) (he:PX X fr e te F) (hl:POX X lo tl Fl) (hh:POX X hi th Fh) :
  PX X fr (.Subscript e (.Slice lo hi none p2) pos) (tSl r te tl th) (fSl f F Fl Fh):=⟨c1O ho he.p hl.p hh.p,by
 intro O i4 as σ H ds pv Q S hf q
 unfold fSl at hf
 cases h1:F ds with
 | none=>rw [h1] at hf;cases hf
 | some x =>
  cases h2:Fl ds with
  | none=>rw [h1,h2] at hf;cases hf
  | some l =>
   cases h3:Fh ds with
   | none=>rw [h1,h2,h3] at hf;cases hf
   | some h =>
    rw [h1,h2,h3] at hf
    simp only [Option.bind_some] at hf
    refine he.t O i4 as σ H ds x _ S h1 fun v H1 e1 r1=>?_
    refine hl.t O i4 as σ H1 ds l _ (S.grow e1) h2 fun H2 e2=>?_
    refine hh.t O i4 as σ H2 ds h _ ((S.grow e1).grow e2) h3 fun H3 e3=>?_
    refine hr O (vis fr as) H3 v l h x.d pv Q (((S.grow e1).grow e2).grow e3).dm ((r1.grow (e2.trans e3)).dt S.dm) hf fun w H4 e4 r4=>?_
    exact q w H4 (((e1.trans e2).trans e3).trans e4) (r4.back ((e1.trans e2).trans e3))⟩
end
section
variable {X:Cx}
theorem RNX.one {K:PySem.W.Frag} {r:List V->Hp->VK->Prop} {f:PyData->Option PV} (h:R1X K (fun x=>r [x]) f):RNX K r (fun l=>match l with
  | [d]=>f d
  | _=>none):=by
 intro O va H xs ds pv Q D hx hf q
 cases hx with
 | nil=>cases hf
 | cons h1 t =>
  cases t with
  | nil=>exact h O va H _ _ pv Q D h1 hf q
  | cons _ _=>cases hf
noncomputable def P1 (K:PySem.W.Frag):List V->Hp->VK->Prop:=fun xs H Q=>(∃ p ys,xs=[.ref p]/\(SqL K H p ys\/SqT K H p ys)/\Q (.int ys.length) H)\/(∃ z,xs=[.str z]/\z.length<=sizeLine/\Q (.int z.length) H)
theorem v7:O4 X (.builtin "len") (P1 X.K):=b5u.or b5t
noncomputable def H0:List PyData->Option PV
 | [.list l]=>some (.dat (.int (l.length:Nat)))
 | [.tuple l]=>some (.dat (.int (l.length:Nat)))
 | [.str z]=>if z.length<=1000000 then some (.dat (.int (z.length:Nat))) else none
 | _=>none
theorem Dts.inv1 {K:PySem.W.Frag} {H:Hp} {xs:List V} {d:PyData} (h:Dts K H xs [d]):∃ x,xs=[x]/\Dt K H x d:=by
 cases h with
 | cons h t=>cases t;exact ⟨_,rfl,h⟩
theorem Dts.inv2 {K:PySem.W.Frag} {H:Hp} {xs:List V} {d e:PyData} (h:Dts K H xs [d,e]):∃ x y,xs=[x,y]/\Dt K H x d/\Dt K H y e:=by
 cases h with
 | cons h t =>
  cases t with
  | cons h2 t=>cases t;exact ⟨_,_,rfl,h,h2⟩
theorem K8 {K:PySem.W.Frag}:RNX K (P1 K) H0:=by
 intro O va H xs ds pv Q D hx hf q
 unfold H0 at hf
 split at hf
 . cases hf
   obtain ⟨x,rfl,h⟩:=hx.inv1
   cases h with
   | lst hs ht=>exact .inl ⟨_,_,rfl,.inl (t7.seq hs),q _ H (j4.refl H) (by rw [ht.length];exact Dt.int _)⟩
 . cases hf
   obtain ⟨x,rfl,h⟩:=hx.inv1
   cases h with
   | tup hs ht=>exact .inl ⟨_,_,rfl,.inr (t7.a1H hs),q _ H (j4.refl H) (by rw [ht.length];exact Dt.int _)⟩
 . split at hf
   . rename_i hz
     cases hf
     obtain ⟨x,rfl,h⟩:=hx.inv1
     cases h
     exact .inr ⟨_,rfl,szM hz,q _ H (j4.refl H) (Dt.int _)⟩
   . cases hf
 . cases hf
noncomputable def b1c:List PyData->Option PV
 | [.int i]=>some (.dat (.int (if i < 0 then -i else i)))
 | _=>none
theorem b3U {K:PySem.W.Frag}:RNX K (fun xs H Q=>∃ i,xs=[.int i]/\Q (.int (if i < 0 then -i else i)) H) b1c:=by
 intro O va H xs ds pv Q D hx hf q
 unfold b1c at hf
 split at hf
 . cases hf
   obtain ⟨x,rfl,h⟩:=hx.inv1
   cases h
   exact ⟨_,rfl,q _ H (j4.refl H) (Dt.int _)⟩
 . cases hf
noncomputable def minD:List PyData->Option PV
 | [.int i,.int j]=>some (.dat (.int (if j < i then j else i)))
 | _=>none
theorem c6S {K:PySem.W.Frag}:RNX K (fun xs H Q=>∃ i j,xs=[.int i,.int j]/\Q (.int (if j < i then j else i)) H) minD:=by
 intro O va H xs ds pv Q D hx hf q
 unfold minD at hf
 split at hf
 . cases hf
   obtain ⟨x,y,rfl,h,h2⟩:=hx.inv2
   cases h;cases h2
   exact ⟨_,_,rfl,q _ H (j4.refl H) (Dt.int _)⟩
 . cases hf
noncomputable def a4i:List PyData->Option PV
 | [.list l]=>some (.dat (.tuple l))
 | [.tuple l]=>some (.dat (.tuple l))
 | _=>none
theorem a2C {K:PySem.W.Frag}:RNX K (fun xs H Q=>∃ p ys,xs=[.ref p]/\((SqL K H p ys/\∀ l,H l=none->Q (.ref l) (upd H l (.tup ys)))\/(SqT K H p ys/\Q (.ref p) H))) a4i:=by
 intro O va H xs ds pv Q D hx hf q
 unfold a4i at hf
 split at hf
 . cases hf
   obtain ⟨x,rfl,h⟩:=hx.inv1
   cases h with
   | lst hs ht=>exact ⟨_,_,rfl,.inl ⟨t7.seq hs,fun p hp=>q _ _ (j4.new hp) (a8w D hp ht)⟩⟩
 . cases hf
   obtain ⟨x,rfl,h⟩:=hx.inv1
   cases h with
   | tup hs ht=>exact ⟨_,_,rfl,.inr ⟨t7.a1H hs,q _ H (j4.refl H) (Dt.tup hs ht)⟩⟩
 . cases hf
noncomputable def a9G:List PyData->Option PV
 | [.list l]=>some (.own l)
 | [.tuple l]=>some (.own l)
 | _=>none
theorem c5e {K:PySem.W.Frag}:RNX K (fun xs H Q=>∃ p ys,xs=[.ref p]/\(SqL K H p ys\/SqT K H p ys)/\∀ l,H l=none->Q (.ref l) (upd H l (.lst ys))) a9G:=by
 intro O va H xs ds pv Q D hx hf q
 unfold a9G at hf
 split at hf
 . cases hf
   obtain ⟨x,rfl,h⟩:=hx.inv1
   cases h with
   | lst hs ht=>exact ⟨_,_,rfl,.inl (t7.seq hs),fun p hp=>q _ _ (j4.new hp) (a4o hp ht)⟩
 . cases hf
   obtain ⟨x,rfl,h⟩:=hx.inv1
   cases h with
   | tup hs ht=>exact ⟨_,_,rfl,.inr (t7.a1H hs),fun p hp=>q _ _ (j4.new hp) (a4o hp ht)⟩
 . cases hf
noncomputable def intD:List PyData->Option PV
 | [.int i]=>some (.dat (.int i))
 | [.bool k]=>some (.dat (.int (if k then 1 else 0)))
 | _=>none
theorem c6T {K:PySem.W.Frag}:RNX K (fun xs H Q=>(∃ i,xs=[.int i]/\Q (.int i) H)\/∃ k,xs=[.bl k]/\Q (.int (if k then 1 else 0)) H) intD:=by
 intro O va H xs ds pv Q D hx hf q
 unfold intD at hf
 split at hf
 . cases hf
   obtain ⟨x,rfl,h⟩:=hx.inv1
   cases h
   exact .inl ⟨_,rfl,q _ H (j4.refl H) (Dt.int _)⟩
 . cases hf
   obtain ⟨x,rfl,h⟩:=hx.inv1
   cases h
   exact .inr ⟨_,rfl,q _ H (j4.refl H) (Dt.int _)⟩
 . cases hf
noncomputable def a4j:List PyData->Option PV
 | [.int i]=>if i.natAbs.log2 < 1920 then some (.dat (.str (toString i))) else none
 | _=>none
theorem a9w {K:PySem.W.Frag}:RNX K (fun xs H Q=>∃ i,xs=[.int i]/\i.natAbs.log2 < 1920/\Q (.str (toString i)) H) a4j:=by
 intro O va H xs ds pv Q D hx hf q
 unfold a4j at hf
 split at hf
 . split at hf
   . rename_i hz
     cases hf
     obtain ⟨x,rfl,h⟩:=hx.inv1
     cases h
     exact ⟨_,rfl,hz,q _ H (j4.refl H) (Dt.str _)⟩
   . cases hf
 . cases hf
noncomputable def boolsOf:List PyData->Option (List Bool)
 | []=>some []
 | .bool b::r=>(boolsOf r).bind fun l=>some (b::l)
 | _=>none
noncomputable def b5C:List PyData->Option PV
 | [.list l]=>(boolsOf l).bind fun bs=>some (.dat (.bool (bs.all id)))
 | _=>none
theorem Dts.bools {K:PySem.W.Frag} {H:Hp}:∀ {l:List PyData} {xs:List V} {bs:List Bool},Dts K H xs l->boolsOf l=some bs->xs=bs.map V.bl
 | [],_,_,h,e=>by cases e;cases h;rfl
 | d::r,xs,bs,h,e=>by
  cases h with
  | cons h t =>
   cases h with
   | bl b =>
    have e':((boolsOf r).bind fun l=>some (b::l))=some bs:=e
    cases h1:boolsOf r with
    | none=>rw [h1] at e';cases e'
    | some l =>
     rw [h1] at e'
     cases e'
     rw [t.bools h1]
     rfl
   | _=>cases e
theorem c6V {K:PySem.W.Frag} {A:Around} (hh:A.handled=none):RNX K (fun xs H Q=>∃ (p:Addr) (bs:List Bool),xs=[.ref p]/\SqL K H p (bs.map V.bl)/\A.handled=none/\Q (.bl (bs.all id)) H) b5C:=by
 intro O va H xs ds pv Q D hx hf q
 unfold b5C at hf
 split at hf
 . rename_i l
   cases h1:boolsOf l with
   | none=>rw [h1] at hf;cases hf
   | some bs =>
    rw [h1] at hf
    cases hf
    obtain ⟨x,rfl,h⟩:=hx.inv1
    cases h with
    | lst hs ht =>
     have e:=ht.bools h1
     subst e
     exact ⟨_,bs,rfl,t7.seq hs,hh,q _ H (j4.refl H) (Dt.bl _)⟩
 . cases hf
noncomputable def U0 (n:String) (F:Ds->Option PV):Ds->Option PV:=fun ds=>(F ds).bind fun x=>if a9H x.d=true then none else some (.dat (.bool (isI x.d n)))
theorem c3N {fr:Bool} {e c:Expr} {te:TE} {F:Ds->Option PV} {x:Str} {p pos:Pos} {n:String} (h5:a2l n) (hg:Gl X x) (hm:X.mg x=none) (hv:bootBuiltins x=some (.builtin "isinstance")) (h:PX X fr e te F) (hc:PE X c (tC (.ty n))) (hn:x ≠ "__name__":=by decide) (hdb:(x==("__debug__" : Str))=false:=by decide)
  (hs1:starEach [e,c] X.env=(false,eval e X.env)::starEach [c] X.env:=by rfl) (hs2:starEach [c] X.env=(false,eval c X.env)::starEach [] X.env:=by rfl) (hpl:(backTo pos (starEach [c] X.env)).any (·.1)=false:=by rfl) :
  PX X fr (.Call (.Name x p) [e,c] [] pos) (tCB (fun xs H Q=>∃ x n d,xs=[x,.ty n]/\Dt X.K H x d/\a9H d=false/\a2l n/\Q (.bl (isI d n)) H) (a1w te (a1w (tC (.ty n)) a8j))) (U0 n F) :=
 ⟨b0v c2D hg hm hv (a0I h.p (a0I hc a6b hs2) hs1) hn hdb hs1 hpl,by
 intro O i4 as σ H ds pv Q S hf q
 unfold U0 at hf
 cases h1:F ds with
 | none=>rw [h1] at hf;cases hf
 | some w =>
  rw [h1] at hf
  simp only [Option.bind_some] at hf
  split at hf
  . cases hf
  . rename_i hfn
    cases hf
    refine h.t O i4 as σ H ds w _ S h1 fun v H1 e1 r1=>?_
    exact ⟨v,n,w.d,rfl,(r1.dt S.dm).same t7,by simpa using hfn,h5,q _ H1 e1 (Dt.bl _)⟩⟩
end
noncomputable abbrev a6B (K:PySem.W.Frag):List V->Hp->VK->Prop:=fun xs H Q=>∃ p ys,xs=[.ref p]/\((SqL K H p ys/\∀ l,H l=none->Q (.ref l) (upd H l (.tup ys)))\/(SqT K H p ys/\Q (.ref p) H))
noncomputable abbrev c5A (K:PySem.W.Frag):List V->Hp->VK->Prop:=fun xs H Q=>∃ p ys,xs=[.ref p]/\(SqL K H p ys\/SqT K H p ys)/\∀ l,H l=none->Q (.ref l) (upd H l (.lst ys))
noncomputable def b7w (K:PySem.W.Frag):List V->Hp->VK->Prop:=fun xs H Q=>∃ (p:Addr) (bs:List Bool),xs=[.ref p]/\SqL K H p (bs.map V.bl)/\Q (.bl (bs.all id)) H
theorem c0H {X:Cx} (hh:X.A.handled=none):O4 X (.builtin "all") (b7w X.K):=fun pins s σ H xs us Q I r h=>by
 obtain ⟨p,bs,e,hs,q⟩:=h
 exact c2E pins s σ H xs us Q I r ⟨p,bs,e,hs,hh,q⟩
theorem c5h {K:PySem.W.Frag}:RNX K (b7w K) b5C:=by
 intro O va H xs ds pv Q D hx hf q
 obtain ⟨p,bs,e,hs,_,z⟩:=c6V (A:=callerA) rfl O va H xs ds pv Q D hx hf q
 exact ⟨p,bs,e,hs,z⟩
theorem i6 {X:Cx} {K':PySem.W.Frag} {fr:Bool} {e:Expr} {es:List Expr} {t:TA} {Fl:Ds->Option (List PyData)} {pos:Pos} {CX:CXT} {E:XK} {k:Nat} {f:Addr} {fd:FuncData} {ps:List Str} {x:Str} {p:Pos} {f':List PyData->Option PV} (eK:X.K=K') (G:m6 X.prog X.w K' X.mg X.base CX k f fd ps (spF K' f')) (hr:M7 k X.A) (hg:Gl X x) (hm:X.mg x=some (.ref f)) (hk:PySem.W.keepIn K' (.ref f)=true) (hb:Binds K' fd ps []) (hx:Passes CX X E)
  (ha:PAX X fr (e::es) t Fl) (hdb:(x==("__debug__" : Str))=false:=by decide) (he:starEach (e::es) X.env=(false,eval e X.env)::starEach es X.env:=by rfl) (hpl:(backTo pos (starEach es X.env)).any (·.1)=false:=by rfl) :
  PX X fr (.Call (.Name x p) (e::es) [] pos) (a4W (spF K' f') [] E t) (g0 f' Fl):=by
 subst eK
 exact c3P G hr hg hm hk hb hx ha hdb he hpl
noncomputable def c7c (K:PySem.W.Frag):List V->Hp->VK->Prop:=fun xs H Q=>∃ x n d,xs=[x,.ty n]/\Dt K H x d/\a9H d=false/\a2l n/\Q (.bl (isI d n)) H
theorem P5 {X:Cx} {K':PySem.W.Frag} (eK:X.K=K') {fr:Bool} {e c:Expr} {te:TE} {F:Ds->Option PV} {x:Str} {p pos:Pos} {n:String} (h5:a2l n) (hg:Gl X x) (hm:X.mg x=none) (hv:bootBuiltins x=some (.builtin "isinstance")) (h:PX X fr e te F) (hc:PE X c (tC (.ty n))) (hn:x ≠ "__name__":=by decide) (hdb:(x==("__debug__" : Str))=false:=by decide)
  (hs1:starEach [e,c] X.env=(false,eval e X.env)::starEach [c] X.env:=by rfl) (hs2:starEach [c] X.env=(false,eval c X.env)::starEach [] X.env:=by rfl) (hpl:(backTo pos (starEach [c] X.env)).any (·.1)=false:=by rfl) :
  PX X fr (.Call (.Name x p) [e,c] [] pos) (tCB (c7c K') (a1w te (a1w (tC (.ty n)) a8j))) (U0 n F):=by
 subst eK
 exact c3N h5 hg hm hv h hc hn hdb hs1 hs2 hpl
theorem a6Z:a2l "tuple":=.inl rfl
theorem a8W:a2l "list":=.inr (.inl rfl)
theorem a5k:a2l "bool":=.inr (.inr (.inl rfl))
theorem b5h:a2l "int":=.inr (.inr (.inr (.inl rfl)))
theorem c2s:a2l "str":=.inr (.inr (.inr (.inr rfl)))
noncomputable def a2b (i:Nat) (ds:Ds):Nat:=match ds[i]? with
 | some (some (.dat (.int k)))=>k.natAbs + 1
 | _=>0
theorem c4I {H:Hp}:hid H [] []=H:=by
 funext b
 unfold hid
 rw [if_neg (by simp)]
theorem c3z {K:PySem.W.Frag} {H:Hp} {a:Addr} {xs:List V} (h:SqL K H a xs):SqL K (hid H [] []) a xs:=by rw [c4I];exact h
theorem b5o {K:PySem.W.Frag} {H:Hp}:∀ ns:List Int,Dts K H (ns.map V.int) (ns.map PyData.int)
 | []=>.nil
 | n::r=>.cons (.int n) (b5o r)
theorem c4N {K:PySem.W.Frag} {H H':Hp} {v:V} (r:RX K [] [] H H' v (.dat (.bool true))):v=.bl true:=by
 have r':Dt K (hid H' [] []) v (.bool true):=r
 cases r'
 rfl
noncomputable def okD:Nat->PyData->Bool
 | _,.none=>true
 | _,.bool _=>true
 | _,.int _=>true
 | _,.str _=>true
 | n + 1,.tuple ds=>decide (ds.length<=1000)&&ds.all (okD n)
 | n + 1,.list ds=>decide (ds.length<=1000)&&ds.all (okD n)
 | _,_=>false
open Classical in
noncomputable def c2S (n:Nat):List PyData->Option PV
 | [d,e]=>if d=e/\okD n d=true then some (.dat (.bool true)) else none
 | _=>none
theorem a8u {n:Nat} {d:PyData} (h:okD n d=true):c2S n [d,d]=some (.dat (.bool true)):=by
 simp [c2S,h]
noncomputable def R4 (o:Option Out) (G:Ds->Option Out):Option Out:=o.bind fun o=>match o with
 | .next ds'=>G ds'
 | o=>some o
theorem a9J (G1 G2:Ds->Option Out) (ds:Ds):i8 G1 G2 ds=R4 (G1 ds) G2:=rfl
theorem a1Q (ds:Ds) (G:Ds->Option Out):R4 (some (.next ds)) G=G ds:=rfl
theorem b0o (pv:PV) (G:Ds->Option Out):R4 (some (.ret pv)) G=some (.ret pv):=rfl
theorem b0p (ds:Ds) (G:Ds->Option Out):R4 (some (.brk ds)) G=some (.brk ds):=rfl
theorem a8q (ds:Ds) (G:Ds->Option Out):R4 (some (.cont ds)) G=some (.cont ds):=rfl
theorem a3c (b:Bool):asB (.bool b)=some b:=rfl
theorem a6m (i:Int):asI (.int i)=some i:=rfl
theorem a6z (l:List PyData):W9 (.list l)=some l:=rfl
theorem a8p (l:List PyData):W9 (.tuple l)=some l:=rfl
theorem b0w (pv:PV):a6G (.ret pv)=some pv:=rfl
theorem a8G (ds:Ds):a6G (.next ds)=some (.dat .none):=rfl
noncomputable def c2h (o:Option PV) (i:Nat) (ds:Ds):Option Out:=o.bind fun pv=>some (.next (ds.set i (some (.dat pv.d))))
theorem b0H (i:Nat) (F:Ds->Option PV) (ds:Ds):j6 i F ds=c2h (F ds) i ds:=rfl
theorem a5h (pv:PV) (i:Nat) (ds:Ds):c2h (some pv) i ds=some (.next (ds.set i (some (.dat pv.d)))):=rfl
noncomputable def c6q (o:Option PV) (i:Nat) (ds:Ds):Option Out:=o.bind fun pv=>some (.next (ds.set i (some pv)))
theorem b2z (i:Nat) (F:Ds->Option PV) (ds:Ds):a0t i F ds=c6q (F ds) i ds:=rfl
theorem a8O (pv:PV) (i:Nat) (ds:Ds):c6q (some pv) i ds=some (.next (ds.set i (some pv))):=rfl
noncomputable def c2J (o:Option PV) (i:Nat) (ds:Ds):Option Out:=o.bind fun pv=>match ds[i]? with
 | some (some (.own l))=>if l.length < 1000000 then some (.next (ds.set i (some (.own (l++[pv.d]))))) else none
 | _=>none
theorem a1j (i:Nat) (F:Ds->Option PV) (ds:Ds):a2j i F ds=c2J (F ds) i ds:=rfl
theorem U5 {i:Nat} {ds:Ds} {l:List PyData} (pv:PV) (h:ds[i]? = some (some (.own l))) (hl:l.length < 1000000):c2J (some pv) i ds=some (.next (ds.set i (some (.own (l++[pv.d]))))):=by
 unfold c2J
 simp only [Option.bind_some,h]
 rw [if_pos hl]
noncomputable abbrev iD (n:Int):Option PV:=some (.dat (.int n))
theorem b8y {α:Type} (x:α) (l:List α):atI (x::l) 0=some x:=by
 unfold atI ixN
 rw [if_pos (by decide),if_pos (by simp)]
 rfl
theorem O7 {α:Type} {l:List α} {i:Int} {n:Nat} (hi:i=(n:Int)) (h:n < l.length):atI l i=l[n]?:=by
 subst hi
 unfold atI ixN
 rw [if_pos (by omega),if_pos (by omega)]
 simp
theorem b8x {α:Type} (x y:α) (l:List α):atI (x::y::l) 1=some y:=O7 (n:=1) rfl (by simp)
theorem b8w {α:Type} (x y z:α) (l:List α):atI (x::y::z::l) 2=some z:=O7 (n:=2) rfl (by simp)
theorem b8v {α:Type} (x y z u:α) (l:List α):atI (x::y::z::u::l) 3=some u:=O7 (n:=3) rfl (by simp)
theorem b8u {α:Type} (x y z u v:α) (l:List α):atI (x::y::z::u::v::l) 4=some v:=O7 (n:=4) rfl (by simp)
theorem b8t {α:Type} (x y z u v w:α) (l:List α):atI (x::y::z::u::v::w::l) 5=some w:=O7 (n:=5) rfl (by simp)
theorem b8s {α:Type} (x y z u v w a:α) (l:List α):atI (x::y::z::u::v::w::a::l) 6=some a:=O7 (n:=6) rfl (by simp)
theorem a1O (i j:Int):m5 (.int i) (.int j)=some (.dat (.int (i + j))):=rfl
theorem b0k (i j:Int):c1p (.int i) (.int j)=some (.dat (.int (i - j))):=rfl
theorem a0s {i j:Int} (h:Bt 60000 i) (k:Bt 60000 j):a1l (.int i) (.int j)=some (.dat (.int (i * j))):=by
 unfold a1l a8Q
 simp only []
 rw [if_pos ⟨h,k⟩]
theorem U4 {i j:Int} (h:j ≠ 0) (k:Bt 8000 j):a3e (.int i) (.int j)=some (.dat (.int (i.fdiv j))):=by
 unfold a3e a8Q
 simp only []
 rw [if_pos ⟨h,k⟩]
theorem S6 {i j:Int} (h:j ≠ 0):Z1 (.int i) (.int j)=some (.dat (.int (i.fmod j))):=if_pos h
theorem c1J {i j:Int} (h:a9v i j):c1K (.int i) (.int j)=some (.dat (.int (i ^ j.toNat))):=if_pos h
theorem c1t {i j:Int} (h:0<=j):c1u (.int i) (.int j)=some (.dat (.int (i / 2 ^ j.toNat))):=if_pos h
theorem b2m (i j:Int):ltD (.int i) (.int j)=some (.dat (.bool (decide (i < j)))):=rfl
theorem b2p (i j:Int):leD (.int i) (.int j)=some (.dat (.bool (decide (i<=j)))):=rfl
theorem b2w (i j:Int):gtD (.int i) (.int j)=some (.dat (.bool (decide (j < i)))):=rfl
theorem b2x (i j:Int):geD (.int i) (.int j)=some (.dat (.bool (decide (j<=i)))):=rfl
theorem b6K (i j:Int):PyData.eqv (.int i) (.int j)=decide (i=j):=by
 simp only [PyData.eqv]
 rw [Bool.eq_iff_iff]
 simp
theorem a3T (i:Int):SeqAt.shaped (.int i)=true:=by simp [SeqAt.shaped,PyData.canLay0,PyData.depth]
theorem a4J (i j:Int):v5 (.int i) (.int j)=some (.dat (.bool (decide (i=j)))):=by
 show (if SeqAt.shaped (.int i)=true/\SeqAt.shaped (.int j)=true then some (PV.dat (.bool (PyData.eqv (.int i) (.int j)))) else none)=_
 rw [if_pos ⟨a3T i,a3T j⟩,b6K]
theorem b0A (i j:Int):W6 (.int i) (.int j)=some (.dat (.bool (!decide (i=j)))):=by
 show (if SeqAt.shaped (.int i)=true/\SeqAt.shaped (.int j)=true then some (PV.dat (.bool (!PyData.eqv (.int i) (.int j)))) else none)=_
 rw [if_pos ⟨a3T i,a3T j⟩,b6K]
theorem a7p (i j:Str):v5 (.str i) (.str j)=some (.dat (.bool (decide (i=j)))):=by
 rfl
theorem b0z (i j:Str):W6 (.str i) (.str j)=some (.dat (.bool (!decide (i=j)))):=by
 rfl
theorem b2t (l:List PyData) (i:Int):ixD (.tuple l) (.int i)=(atI l i).bind fun d=>some (.dat d):=rfl
theorem K5 (l:List PyData) (i:Int):ixD (.list l) (.int i)=(atI l i).bind fun d=>some (.dat d):=rfl
theorem b1b (i:Int):b1c [.int i]=some (.dat (.int (if i < 0 then -i else i))):=rfl
theorem b0y (i:Int):a6M (.int i)=some (.dat (.int (-i))):=rfl
theorem a3q (l:List PyData):H0 [.list l]=some (.dat (.int (l.length:Nat))):=rfl
theorem b0E (l:List PyData):H0 [.tuple l]=some (.dat (.int (l.length:Nat))):=rfl
theorem a8i (l:List PyData):a4i [.list l]=some (.dat (.tuple l)):=rfl
theorem b0j (l:List PyData):a4i [.tuple l]=some (.dat (.tuple l)):=rfl
theorem a6R (l:List PyData):a9G [.list l]=some (.own l):=rfl
theorem a8N (l:List PyData):a9G [.tuple l]=some (.own l):=rfl
theorem c0Q {l m:List PyData} (h:l.length + m.length<=1000000):m5 (.list l) (.list m)=some (.own (l++m)):=if_pos h
theorem M6 {l m:Str} (h:l.length + m.length<=1000000):m5 (.str l) (.str m)=some (.dat (.str (l++m))):=if_pos h
theorem b2d (l:List PyData) (lo hi:Option Int):slD (.tuple l) lo hi=some (.dat (.tuple (cutD l lo hi))):=rfl
theorem b0m (l:List PyData) (lo hi:Option Int):slD (.list l) lo hi=some (.own (cutD l lo hi)):=rfl
theorem a2S (d:PyData):isD d .none=some (.dat (.bool (q9 d))):=rfl
theorem a5w (d:PyData):c6x d .none=some (.dat (.bool (!q9 d))):=rfl
theorem a2E {j:Int} (h : -(4611686018427387904)<=j/\j < 4611686018427387904):a4p [.int j]=some (W4 0 j.toNat):=@if_pos _ (Classical.propDecidable _) h _ _ _
theorem b5p {Fe:Ds->Option PV} {ds:Ds} {f:Nat->PyData} {lo:Int} {n:Nat} (h:∀ i,i < n->∃ pv,Fe (some (.dat (.int (lo + (i:Nat))))::ds)=some pv/\pv.d=f i):D9 C1 G4 Fe ds (W4 lo n)=some ((List.range n).map f):=by
 unfold W4
 have key:∀ (l:List Nat),(∀ i ∈ l,i < n)->D9 C1 G4 Fe ds (l.map fun k=>PyData.int (lo + (k:Nat)))=some (l.map f):=by
  intro l
  induction l with
  | nil=>intro _;rfl
  | cons i r ih =>
   intro hl
   obtain ⟨pv,h2,h3⟩:=h i (hl i mem_cons_self)
   rw [map_cons]
   unfold D9
   simp only [C1,Option.bind_some,G4,if_true,a0j,a0Y,cons_append,nil_append]
   rw [h2]
   simp only [Option.bind_some]
   rw [ih (fun j hj=>hl j (mem_cons_of_mem _ hj))]
   simp [h3]
 exact key _ (fun i hi=>mem_range.mp hi)
theorem b0J {gt:PyData->Ds->Option Ds} {G:Ds->Option Out} {lo:Int} {n:Nat} (I:Nat->Ds->Prop) {ds:Ds} (h0:I 0 ds) (hs:∀ i ds,i < n->I i ds->∃ ds1 ds2,gt (.int (lo + (i:Nat))) ds=some ds1/\(G ds1=some (.next ds2)\/G ds1=some (.cont ds2))/\I (i + 1) ds2):∃ ds',K6 gt G (W4 lo n) ds=some (.next ds')/\I n ds':=by
 have key:∀ (k i:Nat) (ds:Ds),i + k=n->I i ds->∃ ds',K6 gt G ((List.range' i k).map fun k=>PyData.int (lo + (k:Nat))) ds=some (.next ds')/\I n ds':=by
  intro k
  induction k with
  | zero =>
   intro i ds e hi
   have h2:i=n:=by omega
   subst h2
   exact ⟨ds,rfl,hi⟩
  | succ k ih =>
   intro i ds e hi
   obtain ⟨ds1,ds2,e1,e2,e3⟩:=hs i ds (by omega) hi
   rw [List.range'_succ,map_cons]
   unfold K6
   rw [e1]
   simp only [Option.bind_some]
   obtain ⟨ds',e4,e5⟩:=ih (i + 1) ds2 (by omega) e3
   refine ⟨ds',?_,e5⟩
   rcases e2 with e2 | e2 <;> rw [e2] <;> exact e4
 obtain ⟨ds',h1,h2⟩:=key n 0 ds (by omega) h0
 refine ⟨ds',?_,h2⟩
 unfold W4
 rw [List.range_eq_range']
 exact h1
theorem a7V {Fc:Ds->Option Bool} {G:Ds->Option Out} {n:Nat} {ds:Ds} (h:Fc ds=some false):a0w Fc G (n + 1) ds=some (.next ds):=by
 unfold a0w
 rw [h]
 rfl
theorem b5L {Fc:Ds->Option Bool} {G:Ds->Option Out} {n:Nat} {ds ds2:Ds} (h:Fc ds=some true) (k:G ds=some (.next ds2)):a0w Fc G (n + 1) ds=a0w Fc G n ds2:=by
 rw [a0w,h]
 simp only [Option.bind_some,if_true]
 rw [k]
 rfl
theorem b2M {Fc:Ds->Option Bool} {G:Ds->Option Out} (I:Ds->Prop) (μ:Ds->Nat) (hs:∀ ds,I ds->Fc ds=some false\/(Fc ds=some true/\∃ ds2,G ds=some (.next ds2)/\I ds2/\μ ds2 < μ ds)) :
  ∀ (n:Nat) (ds:Ds),I ds->μ ds < n->∃ ds',a0w Fc G n ds=some (.next ds')/\I ds'/\Fc ds'=some false:=by
 intro n
 induction n with
 | zero=>intro ds _ h;omega
 | succ n ih =>
  intro ds hi hm
  rcases hs ds hi with h | ⟨h,ds2,k,i2,m2⟩
  . exact ⟨ds,a7V h,hi,h⟩
  . obtain ⟨ds',e,r⟩:=ih ds2 i2 (by omega)
    exact ⟨ds',by rw [b5L h k];exact e,r⟩
theorem Bt.s62 {m:Nat} {i:Int} (h1 : -4611686018427387904 < i) (h2:i < 4611686018427387904) (hm:62<=m:=by decide):Bt m i:=(Bt.small (by omega) (by omega)).mono hm
theorem Bt.lit {m:Nat} {i:Int} (h1 : -4611686018427387904 < i:=by decide) (h2:i < 4611686018427387904:=by decide) (hm:62<=m:=by decide):Bt m i:=Bt.s62 h1 h2 hm
noncomputable def a9K (i:Nat) (f:List PyData->List PyData):Ds->Option Out:=fun ds=>match ds[i]? with
 | some (some (.own l))=>some (.next (ds.set i (some (.own (f l)))))
 | _=>none
section
variable {X:Cx} {e o:Expr} {te:TE} {F:Ds->Option PV} {pos cpos apos:Pos}
theorem c3S (i:Nat) (ho:PE X o (Z5 i)) (hbase:attributeBase o "reverse" X.env (eval o X.env)=eval o X.env:=by rfl) (hline:(apos.endLine==cpos.line)=true:=by rfl)
  (hs:swapsWith (.Call (.Attribute o "reverse" apos) [] [] cpos) none pos.line X.env=pure false:=by rfl) :
  PSX X (.Expr (.Call (.Attribute o "reverse" apos) [] [] cpos) pos) (b3Y (c1o X.K "list" b4z (Z5 i))) (a9K i List.reverse) :=
 ⟨a9A (b9t PySem.F.plainAttrs_list PySem.F.slot_list_reverse PySem.F.type_list_reverse b7S ho hbase hline) hs,by
 intro O i4 as σ H ds D o S h q
 unfold a9K at h
 split at h
 . rename_i l hd
   cases h
   obtain ⟨a,xs,z1,z2,z3,z4⟩:=S.slot i _ hd
   exact ⟨_,z1,.inl ⟨rfl,xs,SqL.of z3⟩,a,xs,rfl,rfl,z3,q as σ _ (S.turn (xs:=xs) hd z1 z2 z4.reverse)⟩
 . cases h⟩
noncomputable def a2h (i:Nat) (Fk Fv:Ds->Option PV):Ds->Option Out:=fun ds=>(Fv ds).bind fun pv=>(Fk ds).bind fun k=>match k.d,ds[i]? with
 | .int k,some (some (.own l))=>(ixN l.length k).bind fun j=>some (.next (ds.set i (some (.own (l.set j pv.d)))))
 | _,_=>none
theorem b0u {k:Expr} {tk:TE} {Fk:Ds->Option PV} (i:Nat) {ipos:Pos} (ho:PE X o (Z5 i)) (hk:PX X true k tk Fk) (he:PX X true e te F)
  (ha:∀ v,assign (.Subscript o k ipos) X.env v=(do
   let ov <- holding [v] (eval o X.env)
   let iv <- holding [v,ov] (eval k X.env)
   standAt ipos
   holding [v,ov,iv] (setItem ov iv v)
   release [v,ov,iv] []):=by intro _;rfl)
  (hs:swapsWithSole [.Subscript o k ipos] e pos.line X.env=pure false:=by rfl) (hw:swappedStores [.Subscript o k ipos] e X.env=pure none:=by rfl)
  (h1:(assignEach [.Subscript o k ipos] X.env).map (·.2)=[assign (.Subscript o k ipos) X.env]:=by rfl) :
  PSX X (.Assign [.Subscript o k ipos] e pos) (a5q te (c6B (Z5 i) tk c2T)) (a2h i Fk F):=⟨b9n he.p (c5J ho hk.p set_list ha) hs hw h1,by
 intro O i4 as σ H ds D o S h q
 unfold a2h at h
 cases e1:F ds with
 | none=>rw [e1] at h;cases h
 | some pv =>
  cases e2:Fk ds with
  | none=>rw [e1,e2] at h;cases h
  | some kv =>
   rw [e1,e2] at h
   simp only [Option.bind_some] at h
   split at h
   . rename_i kk l hkk hd
     cases e3:ixN l.length kk with
     | none=>rw [e3] at h;cases h
     | some j =>
      rw [e3] at h
      cases h
      refine he.t O i4 as σ H ds pv _ S e1 fun v H1 s1 r1=>?_
      have S1:=S.grow s1
      obtain ⟨a,xs,z1,z2,z3,z4⟩:=S1.slot i _ hd
      refine ⟨_,z1,?_⟩
      refine hk.t O i4 as σ H1 ds kv _ S1 e2 fun w H2 s2 r2=>?_
      have dk:=r2.dt S1.dm
      rw [hkk] at dk
      cases dk
      have dv:=(r1.grow s2).dt S.dm
      refine ⟨a,xs,kk,j,rfl,rfl,s2 _ _ z3,by rw [z4.length];exact e3,q as σ _ ?_⟩
      exact (S1.grow s2).turn (xs:=xs) hd z1 z2 ((z4.same (P8 s2)).set j dv)
   . cases h⟩
noncomputable def c2r (gt:PyData->Ds->Option Ds) (F:Ds->Option PV):Ds->Option Out:=fun ds=>(F ds).bind fun pv=>(gt pv.d ds).bind fun ds'=>some (.next ds')
theorem c3R {tg:Expr} {g:TG} {gt:PyData->Ds->Option Ds} (he:PX X true e te F) (hg:PG X tg g) (hgt:TGX X.K g gt) (hs:swapsWithSole [tg] e pos.line X.env=pure false:=by rfl) (hw:swappedStores [tg] e X.env=pure none:=by rfl)
  (h1:(assignEach [tg] X.env).map (·.2)=[assign tg X.env]:=by rfl):PSX X (.Assign [tg] e pos) (a5q te g) (c2r gt F):=⟨b9n he.p hg hs hw h1,by
 intro O i4 as σ H ds D o S h q
 unfold c2r at h
 cases e1:F ds with
 | none=>rw [e1] at h;cases h
 | some pv =>
  rw [e1] at h
  simp only [Option.bind_some] at h
  cases e2:gt pv.d ds with
  | none=>rw [e2] at h;cases h
  | some ds' =>
   rw [e2] at h
   cases h
   refine he.t O i4 as σ H ds pv _ S e1 fun v H1 s1 r1=>?_
   exact hgt O i4 as σ H1 ds ds' v pv.d _ (S.grow s1) (r1.dt S.dm) e2 fun as' σ' S'=>q as' σ' H1 S'⟩
end
noncomputable def eqF:PyData->PyData->Bool
 | .none,.none=>true
 | .bool a,.bool b=>a==b
 | .bool a,.int b=>(if a then 1 else 0)==b
 | .int a,.bool b=>a==(if b then 1 else 0)
 | .int a,.int b=>a==b
 | .str a,.str b=>a==b
 | _,_=>false
theorem Dt.Z4 {K:PySem.W.Frag} {H:Hp} {x:V} {d:PyData} (h:Dt K H x d) (f:Flat d=true):L2.Z4 x=true:=by
 cases h with
 | non=>rfl
 | bl _=>rfl
 | int _=>rfl
 | str _=>rfl
 | tup _ _=>cases f
 | lst _ _=>cases f
 | exc _ _ _ _ _=>cases f
 | fn _=>cases f
theorem Dt.eqF {K:PySem.W.Frag} {H:Hp} {x y:V} {d e:PyData} (h:Dt K H x d) (k:Dt K H y e) (f:Flat d=true) (g:Flat e=true):eqV x y=L2.eqF d e:=by
 cases h with
 | tup _ _=>cases f
 | lst _ _=>cases f
 | exc _ _ _ _ _=>cases f
 | fn _=>cases f
 | non=>cases k with
  | tup _ _=>cases g
  | lst _ _=>cases g
  | exc _ _ _ _ _=>cases g
  | fn _=>cases g
  | _=>rfl
 | bl _=>cases k with
  | tup _ _=>cases g
  | lst _ _=>cases g
  | exc _ _ _ _ _=>cases g
  | fn _=>cases g
  | _=>rfl
 | int _=>cases k with
  | tup _ _=>cases g
  | lst _ _=>cases g
  | exc _ _ _ _ _=>cases g
  | fn _=>cases g
  | _=>rfl
 | str _=>cases k with
  | tup _ _=>cases g
  | lst _ _=>cases g
  | exc _ _ _ _ _=>cases g
  | fn _=>cases g
  | _=>rfl
theorem Dts.inV {K:PySem.W.Frag} {H:Hp} {x:V} {d:PyData} (h:Dt K H x d) (f:Flat d=true):∀ {xs:List V} {l:List PyData},Dts K H xs l->l.all Flat=true->xs.all Z4=true/\L2.inV x xs=l.any (fun y=>L2.eqF y d)
 | _,_,.nil,_=>⟨rfl,rfl⟩
 | _,_,.cons k t,g=>by
  rw [all_cons,Bool.and_eq_true] at g
  obtain ⟨h1,h2⟩:=Dts.inV h f t g.2
  refine ⟨by rw [all_cons,k.Z4 g.1,h1];rfl,?_⟩
  unfold L2.inV at h2 ⊢
  rw [any_cons,any_cons,h2,k.eqF h g.1 f]
noncomputable def inD:PyData->PyData->Option PV:=fun d e=>(W9 e).bind fun l=>if Flat d=true/\l.all Flat=true then some (.dat (.bool (l.any fun y=>eqF y d))) else none
noncomputable def a3p:PyData->PyData->Option PV:=fun d e=>(W9 e).bind fun l=>if Flat d=true/\l.all Flat=true then some (.dat (.bool (!l.any fun y=>eqF y d))) else none
theorem b6H {K:PySem.W.Frag} {O:List Addr} {va:As} {H:Hp} {x y:V} {d e:PyData} {l:List PyData} (hx:Dt K (hid H va O) x d) (hy:Dt K (hid H va O) y e) (hl:W9 e=some l) (hf:Flat d=true/\l.all Flat=true) :
  ∃ p xs,y=.ref p/\(SqL K H p xs\/SqT K H p xs)/\Z4 x=true/\xs.all Z4=true/\inV x xs=l.any (fun y=>eqF y d):=by
 cases hy with
 | lst hs ht =>
  cases hl
  obtain ⟨h1,h2⟩:=Dts.inV hx hf.1 ht hf.2
  exact ⟨_,_,rfl,.inl (t7.seq hs),hx.Z4 hf.1,h1,h2⟩
 | tup hs ht =>
  cases hl
  obtain ⟨h1,h2⟩:=Dts.inV hx hf.1 ht hf.2
  exact ⟨_,_,rfl,.inr (t7.a1H hs),hx.Z4 hf.1,h1,h2⟩
 | _=>cases hl
theorem c7D {K:PySem.W.Frag}:R2X K (rIn K false) inD:=by
 intro O va H x y d e pv Q D hx hy hf q
 unfold inD at hf
 cases hl:W9 e with
 | none=>rw [hl] at hf;cases hf
 | some l =>
  rw [hl] at hf
  simp only [Option.bind_some] at hf
  split at hf
  . rename_i hc
    cases hf
    obtain ⟨p,xs,e1,h1,h2,h3,h4⟩:=b6H hx hy hl hc
    refine ⟨p,xs,e1,h1,h2,h3,q _ H (j4.refl H) ?_⟩
    rw [h4]
    exact Dt.bl _
  . cases hf
theorem c3t {K:PySem.W.Frag}:R2X K (rIn K true) a3p:=by
 intro O va H x y d e pv Q D hx hy hf q
 unfold a3p at hf
 cases hl:W9 e with
 | none=>rw [hl] at hf;cases hf
 | some l =>
  rw [hl] at hf
  simp only [Option.bind_some] at hf
  split at hf
  . rename_i hc
    cases hf
    obtain ⟨p,xs,e1,h1,h2,h3,h4⟩:=b6H hx hy hl hc
    refine ⟨p,xs,e1,h1,h2,h3,q _ H (j4.refl H) ?_⟩
    rw [h4]
    exact Dt.bl _
  . cases hf
noncomputable def a1L (i:Nat) (F:Ds->Option PV):Ds->Option PV:=fun ds=>match ds[i]? with
 | some (some pv)=>(F ds).bind fun k=>ixD pv.d k.d
 | _=>none
noncomputable def b5k (i:Nat):Ds->Option PV:=fun ds=>match ds[i]? with
 | some (some pv)=>a9G [pv.d]
 | _=>none
noncomputable def intsOf:List PyData->Option (List Int)
 | []=>some []
 | .int i::r=>(intsOf r).bind fun l=>some (i::l)
 | _=>none
noncomputable def c7H:List PyData->Option PV
 | [.list l]=>(intsOf l).bind fun is=>some (.dat (.int is.sum))
 | _=>none
noncomputable def b0T:Int->List PyData->List PyData
 | _,[]=>[]
 | k,d::r=>.tuple [.int k,d]::b0T (k + 1) r
noncomputable def c7w:List PyData->Option (List PyData)
 | [d]=>(W9 d).bind fun l=>some (b0T 0 l)
 | _=>none
theorem b0W (a b:Prop) [Decidable a] [Decidable b]:(if a then some (PV.dat (.bool (decide b))) else some (PV.dat (.bool false)))=some (PV.dat (.bool (decide (a/\b)))):=by
 by_cases h:a
 . rw [if_pos h];simp [h]
 . rw [if_neg h];simp [h]
theorem b0G (i:Int):intD [.int i]=some (.dat (.int i)):=rfl
theorem a8P (b:Bool):intD [.bool b]=some (.dat (.int (if b=true then 1 else 0))):=rfl
theorem a8k (l:List PyData):c7H [.list l]=(intsOf l).bind fun is=>some (.dat (.int is.sum)):=rfl
theorem a9h (d:PyData):c7w [d]=(W9 d).bind fun l=>some (b0T 0 l):=rfl
theorem a6Y (gt:PyData->Ds->Option Ds) (G:Ds->Option Out) (ds:Ds):K6 gt G [] ds=some (.next ds):=rfl
theorem a0X {gt:PyData->Ds->Option Ds} {G:Ds->Option Out} {d:PyData} {r:List PyData} {ds ds1 ds2:Ds} (h1:gt d ds=some ds1) (h2:G ds1=some (.next ds2)):K6 gt G (d::r) ds=K6 gt G r ds2:=by
 rw [K6,h1]
 simp only [Option.bind_some]
 rw [h2]
 rfl
theorem comp_map {α:Type} {g f:α->PyData} {Fe:Ds->Option PV} {ds:Ds}:∀ {l:List α},(∀ x ∈ l,∃ pv,Fe (some (.dat (g x))::ds)=some pv/\pv.d=f x)->D9 C1 G4 Fe ds (l.map g)=some (l.map f)
 | [],_=>rfl
 | x::r,h=>by
  obtain ⟨pv,h2,h3⟩:=h x mem_cons_self
  rw [map_cons]
  unfold D9
  simp only [C1,Option.bind_some,G4,if_true,a0j,a0Y,cons_append,nil_append]
  rw [h2]
  simp only [Option.bind_some]
  rw [comp_map (fun y hy=>h y (mem_cons_of_mem _ hy))]
  simp [h3]
section
variable {X:Cx} {fr:Bool} {b o:Expr} {tb:TE} {Fb:Ds->Option PV} {pos p:Pos}
theorem b1u (i:Nat) (ho:PE X o (Z5 i)) (hb:PX X fr b tb Fb) (hs:b2H b:=by intro _ _;rfl):PX X fr (.Subscript o b pos) (tOp (rIx X.K) (Z5 i) tb) (a1L i Fb):=⟨c3a o3 ho hb.p hs,by
 intro O i4 as σ H ds pv Q S hf q
 unfold a1L at hf
 split at hf
 . rename_i w hd
   cases h1:Fb ds with
   | none=>rw [h1] at hf;cases hf
   | some k =>
    rw [h1] at hf
    simp only [Option.bind_some] at hf
    have sl:=S.slot i _ hd
    cases w with
    | dat d =>
     obtain ⟨v,e1,hv⟩:=sl
     refine ⟨v,e1,hb.t O i4 as σ H ds k _ S h1 fun y H1 s1 r1=>?_⟩
     exact z0 O (vis fr as) H1 v y d k.d pv Q (S.grow s1).dm (hv.same (b2v.trans (P8 s1))) (r1.dt S.dm) hf fun u H2 e2 r2=>q u H2 (s1.trans e2) (r2.back s1)
    | own l =>
     obtain ⟨a,xs,e1,e2,e3,hv⟩:=sl
     refine ⟨_,e1,hb.t O i4 as σ H ds k _ S h1 fun y H1 s1 r1=>?_⟩
     have dy:=r1.dt S.dm
     generalize k.d=kk at hf dy
     cases dy with
     | int j =>
      have hf':((L2.atI l j).bind fun d=>some (PV.dat d))=some pv:=hf
      cases h2:L2.atI l j with
      | none=>rw [h2] at hf';cases hf'
      | some d =>
       rw [h2] at hf'
       cases hf'
       obtain ⟨v,h3,h4⟩:=hv.atI h2
       exact .inl ⟨a,xs,j,v,rfl,rfl,SqL.of (s1 _ _ e3),h3,q v H1 s1 (Dt.same (b2v.trans (P8 s1)) h4)⟩
     | _=>cases hf
 . cases hf⟩
theorem P6 {x:Str} {u:Value} {v:V} {d:PyData} (hg:Gl X x) (h:X.mg x=some u/\RelV v u/\∀ H,Dt X.K H v d) (hd:(x==("__debug__" : Str))=false:=by decide):PX X fr (.Name x pos) (tC v) (fC d) :=
 b4B (a2G hg h.1 h.2.1 hd) h.2.2
end
theorem a5m {K:PySem.W.Frag} {mg:Str->Option Value} {x:Str} {a:Addr} {dd:Option Addr} {its:Array Value} {n:Nat} {sl:Array (Option Value)} {vs:List V} {ds:List PyData} (hm:mg x=some (.ref a)) (hk:K.lookup a=some ⟨.type "tuple",dd,.seq its n,sl⟩) (hz:its.size<=1000) (r:Vals vs its.toList) (hd:∀ H,Dts K H vs ds) :
  mg x=some (.ref a)/\RelV (.ref a) (.ref a)/\∀ H,Dt K H (.ref a) (.tuple ds):=⟨hm,rfl,fun H=>.tup (.inr ⟨_,its,n,hk,rfl,rfl,Nat.le_trans hz (by rw [sizeLine_eq];decide),r⟩) (hd H)⟩
theorem Y2 {K:PySem.W.Frag} {mg:Str->Option Value} {x:Str} {u:Value} {v:V} {d:PyData} (hm:mg x=some u) (r:RelV v u) (hd:∀ H,Dt K H v d):mg x=some u/\RelV v u/\∀ H,Dt K H v d:=⟨hm,r,hd⟩
section
variable {X:Cx} {bs nb:List Str} {elt tg iter:Expr} {ifs:List Expr} {scope:Scope} {cpos pos pos':Pos} {wi:TI} {g:TG} {tt:TT} {te:TE} {Fi:Ds->Option (List PyData)} {gt:PyData->Option (List PyData)} {Fc:Ds->Option Bool} {Fe:Ds->Option PV} {i:Nat} {x:Str}
theorem a3n (hN:X.N.Nodup) (hi':X.N[i]? = some x) (hx:Loc X.env.scope x) (hc:X.calm=true) (B:a4b X bs nb scope) (hi:PIX X true tg iter wi Fi) (go:a9t bs.length g) (hg:∀ cl C fp s H pins,PG (blk X bs nb scope cl C fp s H pins) tg g) (hgt:TGB X.K bs.length g gt) (ht:∀ cl C fp s H pins,b1U (blk X bs nb scope cl C fp s H pins) ifs tt Fc) (he:∀ cl C fp s H pins,PX (blk X bs nb scope cl C fp s H pins) true elt te Fe)
  (hsw:swapsWith (.ListComp elt [⟨tg,iter,ifs,0⟩] scope cpos) (some (.Name x pos')) pos.line X.env=pure true:=by rfl) (hf:X.fn x=true\/X.env.scope.names.lookup x=some .local:=by first | exact .inl rfl | exact .inr rfl | assumption)
  (hs:∀ x,foldedSetIterable iter X.env x=pure x:=by intro _;rfl):PSX X (.Assign [.Name x pos'] (.ListComp elt [⟨tg,iter,ifs,0⟩] scope cpos) pos) (a5q (a9x bs wi g tt te) (a0u i)) (j6 i (O2 Fi gt Fc Fe)) :=
 ⟨b6B hN hi' hx hc B hi.p go hg (fun _ _ _ _ _ _=>(ht _ _ _ _ _ _).p) (fun _ _ _ _ _ _=>(he _ _ _ _ _ _).p) hsw hf hs,by
 have hF:=(a4d (pos:=cpos) hc B hi go hg hgt ht he hs).t
 intro O i4 as σ H ds D o S h q
 unfold j6 at h
 cases e1:O2 Fi gt Fc Fe ds with
 | none=>rw [e1] at h;cases h
 | some pv =>
  rw [e1] at h
  cases h
  refine hF O i4 as σ H ds pv _ S e1 fun v H1 s1 r1=>?_
  exact q _ _ _ ((S.grow s1).set i (r1.dt S.dm))⟩
theorem b9j (hN:X.N.Nodup) (hi':X.N[i]? = some x) (hx:Loc X.env.scope x) (hc:X.calm=true) (B:a4b X bs nb scope) (hi:PIX X true tg iter wi Fi) (go:a9t bs.length g) (hg:∀ cl C fp s H pins,PG (blk X bs nb scope cl C fp s H pins) tg g) (hgt:TGB X.K bs.length g gt) (ht:∀ cl C fp s H pins,b1U (blk X bs nb scope cl C fp s H pins) ifs tt Fc) (he:∀ cl C fp s H pins,PX (blk X bs nb scope cl C fp s H pins) true elt te Fe)
  (hsw:swapsWith (.ListComp elt [⟨tg,iter,ifs,0⟩] scope cpos) (some (.Name x pos')) pos.line X.env=pure true:=by rfl) (hf:X.fn x=true\/X.env.scope.names.lookup x=some .local:=by first | exact .inl rfl | exact .inr rfl | assumption)
  (hs:∀ x,foldedSetIterable iter X.env x=pure x:=by intro _;rfl):PSX X (.Assign [.Name x pos'] (.ListComp elt [⟨tg,iter,ifs,0⟩] scope cpos) pos) (a5q (a9x bs wi g tt te) (a0u i)) (a0t i (O2 Fi gt Fc Fe)) :=
 ⟨b6B hN hi' hx hc B hi.p go hg (fun _ _ _ _ _ _=>(ht _ _ _ _ _ _).p) (fun _ _ _ _ _ _=>(he _ _ _ _ _ _).p) hsw hf hs,by
 have hF:=(a4d (pos:=cpos) hc B hi go hg hgt ht he hs).t
 intro O i4 as σ H ds D o S h q
 unfold a0t at h
 cases e1:O2 Fi gt Fc Fe ds with
 | none=>rw [e1] at h;cases h
 | some pv =>
  rw [e1] at h
  cases h
  refine hF O i4 as σ H ds pv _ S e1 fun v H1 s1 r1=>?_
  obtain ⟨as',S'⟩:=S.store s1 i r1
  exact q _ _ _ S'⟩
end
mutual
noncomputable def LF:PyData->Bool
 | .none=>true
 | .bool _=>true
 | .int _=>true
 | .str _=>true
 | .tuple l=>LFs l
 | _=>false
noncomputable def LFs:List PyData->Bool
 | []=>true
 | d::r=>LF d&&LFs r
end
theorem c3H {K:PySem.W.Frag} {H H':Hp} {a:Addr} {xs:List V} (e:∀ b o,H b=some o->(∀ xs,o ≠ .lst xs)->H' b=some o) (h:SqT K H a xs):SqT K H' a xs:=by
 rcases h with (h | ⟨o,h⟩) | h
 . exact .inl (.inl (e _ _ h (fun _ z=>by cases z)))
 . exact .inl (.inr ⟨o,e _ _ h (fun _ z=>by cases z)⟩)
 . exact .inr h
mutual
theorem Dt.lf {K:PySem.W.Frag} {H H':Hp} (e:∀ b o,H b=some o->(∀ xs,o ≠ .lst xs)->H' b=some o) {x:V} {d:PyData} (h:Dt K H x d) (f:LF d=true):Dt K H' x d:=by
 cases h with
 | non=>exact .non
 | bl b=>exact .bl b
 | int i=>exact .int i
 | str y=>exact .str y
 | tup hs ht=>exact .tup (c3H e hs) (Dts.lf e ht (by rw [LF] at f;exact f))
 | lst hs ht=>simp [LF] at f
 | exc _ _ _ _ _=>simp [LF,a0d] at f
 | fn _=>simp [LF,fnD] at f
theorem Dts.lf {K:PySem.W.Frag} {H H':Hp} (e:∀ b o,H b=some o->(∀ xs,o ≠ .lst xs)->H' b=some o) {xs:List V} {ds:List PyData} (h:Dts K H xs ds) (f:LFs ds=true):Dts K H' xs ds:=by
 cases h with
 | nil=>exact .nil
 | cons a t =>
  rw [LFs,Bool.and_eq_true] at f
  exact .cons (Dt.lf e a f.1) (Dts.lf e t f.2)
end
noncomputable def fLF (F:Ds->Option PV):Ds->Option PV:=fun ds=>(F ds).bind fun pv=>if LF pv.d=true then some (.dat pv.d) else none
theorem c2X {X:Cx} {fr:Bool} {e:Expr} {te:TE} {F:Ds->Option PV} (h:PX X false e te F):PX X fr e te (fLF F):=⟨h.p,by
 intro O i4 as σ H ds pv Q S hf q
 unfold fLF at hf
 cases hF:F ds with
 | none=>rw [hF] at hf;cases hf
 | some w =>
  rw [hF] at hf
  simp only [Option.bind_some] at hf
  split at hf
  . rename_i hfl
    cases hf
    refine h.t O i4 as σ H ds w Q S hF fun v H' e r=>q v H' e ?_
    have d:=r.dt S.dm
    refine Dt.lf (fun b o hb hl=>?_) d hfl
    obtain ⟨h1,_,h3⟩:=M5.mp hb
    refine M5.mpr ⟨h1,fun z=>?_,h3⟩
    obtain ⟨_,xs,hx⟩:=S.new b (b1X z)
    have:=e _ _ hx
    rw [h3] at this
    exact hl xs (Option.some.inj this)
  . cases hf⟩
noncomputable def Q9 (f:PyData->List PyData->Option PV) (Fo:Ds->Option PV) (Fl:Ds->Option (List PyData)):Ds->Option PV:=fun ds=>(Fo ds).bind fun o=>(Fl ds).bind fun l=>f o.d l
theorem b1I (l:List PyData):q9 (.tuple l)=false:=rfl
theorem b1L (l:List PyData):q9 (.list l)=false:=rfl
theorem b1M (i:Int):q9 (.int i)=false:=rfl
theorem b1K:q9 .none=true:=rfl
section
variable {X:Cx} {pins:List (Addr × Obj)} {σ:St} {H:Hp} {s:Shared}
end
section
variable {X:Cx} {pins:List (Addr × Obj)} {σ:St} {H:Hp} {s:Shared} {h':Heap}
theorem R0.get {P:Program} {w:World} {H:Hp} {h:Heap} {a:Addr} {o:HO} (x:R0 P w H h a o):∃ ob,h.get? a=some ob:=by
 induction o with
 | lst xs=>obtain ⟨_,_,_,_,e⟩:=x;exact ⟨_,e⟩
 | tup xs=>obtain ⟨_,_,_,o,e,_⟩:=x;exact ⟨_,e⟩
 | dK kvs=>obtain ⟨_,_,_,_,o,_,_,e,_⟩:=x;exact ⟨_,e⟩
 | dT kvs=>obtain ⟨_,_,_,_,o,_,_,e,_⟩:=x;exact ⟨_,e⟩
 | set S n=>obtain ⟨o,_,_,_,e,_⟩:=x;exact ⟨_,e⟩
 | ins C dx fs=>obtain ⟨_,_,_,e,_⟩:=x;exact ⟨_,e⟩
 | own y=>exact x
 | xd fs=>obtain ⟨_,⟨o,_,_,e,_⟩,_⟩:=x;exact ⟨_,e⟩
 | met f y=>exact ⟨_,x⟩
 | rng lo hi=>obtain ⟨_,_,_,e⟩:=x;exact ⟨_,e⟩
 | frz o u ih=>exact ⟨_,x.1⟩
 | tbl ps=>exact ⟨_,x⟩
 | ext φ=>exact x.2.1
end
section
variable {prog:Program} {w:World} {A:Around} {E:Value->Shared->Prop} {s:Shared}
end
section
variable {prog:Program} {w:World} {A:Around} {E:Value->Shared->Prop} {hp:Heap} {gs:Array GenState} {dr:Drawn} {tk:Nat} {os:OsState}
variable {nm qn:Str} {C N:Addr} {bs tl base:List Value} {hd:Bool} {sn:List Str} {sub:List Value} {ab:Bool} {col:Option Bool} {dd:Option Addr} {k0 k1 k2 k3 k5:Option Value} {B nid iid:String}
theorem b9W (F:ExcBaseFacts B nid iid base) (T:OwnTail hp base tl) {mN:Str->Option Value} {args:List Value} {fi:Addr} {oi:Obj} {Q:PySem.Fin->Shared->Prop}
  (hC:hp.get? C=some (excClassObj nm qn C N bs tl hd sn sub ab col dd k0 k1 k2 k3 k5 nid)) (hn:hp.Ns N mN) (hi:mN "__init__" = some (.ref fi)) (hf:hp.get? fi=some oi) (hfc:oi.cls=.type "function") (hz:args.length<=sizeLine)
  (hq:∀ h' e,Heap.MadeExcOf hp h' e (.ref C) args->wpAny (model prog w) A (call (.ref fi) (.ref e::args)) (fun r s'=>r=.none/\Q (.done (.ret (.ref e))) s') E ⟨h',gs,dr,tk,os⟩) :
  wpAny (model prog w) A (Builtin.«type.__call__» ⟨.ref C::args,[]⟩) Q E ⟨hp,gs,dr,tk,os⟩:=by
 repeat (first | with_reducible refine wpAny_loadPart_at hC ?_ | with_reducible refine wpAny_madeBy_exc hC ?_ | wp_step)
 refine codeAny_call_builtin_code (Code.quiet_builtin _ F.quiet) (wpAny_check_new_subT F T hC (codeAny_exc_new_subT F T hC (show wpAny _ _ _ _ _ _ from ?_) hz))
 have kp:∀ b o,hp.get? b=some o->((hp.push { cls:=.type "tuple",data:=.seq args.toArray }).push { cls:=.ref C,data:=.fields #[.ref hp.objs.size,.none,.none,.none,.bool false,.none] }).get? b=some o :=
  fun b o q=>Heap.get?_push_of_some _ (Heap.get?_push_of_some _ q)
 have at1:((hp.push { cls:=.type "tuple",data:=.seq args.toArray }).push { cls:=.ref C,data:=.fields #[.ref hp.objs.size,.none,.none,.none,.bool false,.none] }).get? (hp.objs.size + 1)=some { cls:=.ref C,data:=.fields #[.ref hp.objs.size,.none,.none,.none,.bool false,.none] }:=by heap_get
 have cC:(Value.ref C::tl).contains (.ref C)=true:=by simp
 have c1:=kp _ _ hC
 have n1:((hp.push { cls:=.type "tuple",data:=.seq args.toArray }).push { cls:=.ref C,data:=.fields #[.ref hp.objs.size,.none,.none,.none,.bool false,.none] }).Ns N mN:=let ⟨o,es,ep,q,r⟩:=hn;⟨o,es,ep,kp _ _ q,r⟩
 unfold isInstance
 repeat (first | with_reducible refine wpAny_loadPart_at at1 ?_ | (with_reducible refine wpAny_isSubtype_exc c1 ?_;rw [cC]) | wp_step)
 refine (show wpAny _ _ (typeLookup (.ref C) _) _ _ _ from wpAny_typeLookup_tail c1 n1 (T.keeps kp) F.mroIs F.init.lookup ?_)
 rw [hi]
 refine wpAny_holding (wpAny_bind ?_)
 unfold bindSpecial
 refine wpAny_bind (wpAny_typeOf (T:="function") ⟨_,kp _ _ hf,hfc⟩ ?_)
 rw [if_pos (by decide)]
 refine wpAny_pure (wpAny_bind (wpAny_mono (hq _ (hp.objs.size + 1) ⟨kp,Heap.get?_none_of_le (Nat.le_succ _),hp.objs.size,at1,Heap.get?_none_of_le (Nat.le_refl _),Heap.get?_push_of_some _ (Heap.get?_push_at rfl rfl)⟩) (fun r s' hr=>?_) fun _ _ x=>x))
 obtain ⟨rfl,hQ⟩:=hr
 wp_walk
 exact hQ
theorem c0G (F:ExcBaseFacts B nid iid base) (T:OwnTail hp base tl) {mN:Str->Option Value} {args:List Value} {fi:Addr} {oi:Obj} {Q:Value->Shared->Prop}
  (hC:hp.get? C=some (excClassObj nm qn C N bs tl hd sn sub ab col dd k0 k1 k2 k3 k5 nid)) (hn:hp.Ns N mN) (hi:mN "__init__" = some (.ref fi)) (hf:hp.get? fi=some oi) (hfc:oi.cls=.type "function") (hz:args.length<=sizeLine)
  (hq:∀ h' e,Heap.MadeExcOf hp h' e (.ref C) args->wpAny (model prog w) (A.under (.builtin "type.__call__" ⟨.ref C::args,[]⟩)) (call (.ref fi) (.ref e::args)) (fun r s'=>r=.none/\Q (.ref e) s') E ⟨h',gs,dr,tk,os⟩) :
  wpAny (model prog w) A (call (.ref C) args) Q E ⟨hp,gs,dr,tk,os⟩:=by
 have f1:=tc_lookup
 have f2:=tc_bind (.ref C)
 have hT:(⟨hp,gs,dr,tk,os⟩:Shared).TypeIs (.ref C) "type":=⟨_,hC,rfl⟩
 refine wpAny_call (codeAny_of_tree (show wpAny _ _ (callAny (.ref C) _) _ _ _ from ?_))
 repeat (any_goals (first | assumption | with_reducible refine wpAny_loadPart_at hC ?_ | wp_step))
 exact ⟨rfl,codeAny_call_builtin_at (Code.quiet_builtin _ (by decide +kernel)) entry_typeCall (wpAny_check_type_call_sub hC (b9W F T hC hn hi hf hfc hz fun h' e hm=>hq h' e hm))⟩
end
section
variable {prog:Program} {w:World} {A:Around} {E:Value->Shared->Prop} {hp:Heap} {gs:Array GenState} {dr:Drawn} {tk:Nat} {os:OsState}
variable {nm qn:Str} {C N e:Addr} {bs tl base:List Value} {hd:Bool} {sn:List Str} {sub:List Value} {ab:Bool} {col:Option Bool} {dd dx:Option Addr} {k0 k1 k2 k3 k5:Option Value} {B nid iid:String}
theorem c0J (F:ExcBaseFacts B nid iid base) (T:OwnTail hp base tl) {args:List Value} {Q:Value->Shared->Prop} (hC:hp.get? C=some (excClassObj nm qn C N bs tl hd sn sub ab col dd k0 k1 k2 k3 k5 nid)) (he:E4 e C dx hp) (hz:args.length<=sizeLine)
  (hq:∀ h',(∀ b o,b ≠ e->hp.get? b=some o->h'.get? b=some o)->E4 e C dx h'->Q .none ⟨h',gs,dr,tk,os⟩):wpAny (model prog w) A (call (.builtin iid) (.ref e::args)) Q E ⟨hp,gs,dr,tk,os⟩:=by
 obtain ⟨t,he⟩:=he
 refine wpAny_call (codeAny_call_builtin F.init.plain F.initEntry (wpAny_check_init_subT F T hC he rfl ?_))
 wp_walk
 refine hq _ (fun b o hb q=>?_) ⟨hp.objs.size,?_⟩
 . rw [Heap.get?_update_other _ _ (Ne.symm hb)]
   exact Heap.get?_push_of_some _ q
 . rw [Heap.get?_update_self _ (Heap.get?_push_of_some _ he) rfl]
   rfl
end
theorem c4q {h:Heap} {a:Addr} {o:Obj} {hash:Int} {name:Str} {t:Tok} {v:Value} {c:Nat} (ho:h.get? a=some o) (hd:o.data=.dict #[⟨hash,.str name t,v⟩] c):h.Ns1 a fun n=>if n=name then some v else none:=by
 refine ⟨o,_,c,ho,hd,fun e he=>⟨name,t,by simp at he;rw [he]⟩,by unfold UniqKeys;exact List.pairwise_singleton _ _,fun n=>?_⟩
 unfold nsFind findBy
 by_cases hn:n=name
 . subst hn;simp [Value.isStr]
 . have z:¬ name=n:=fun z=>hn z.symm
   simp [Value.isStr,z,hn]
theorem b5O (self:Value):refuseLoop self "__setattr__" [.type "ValueError",.type "Exception",.type "BaseException",.type "object"]=pure ():=by
 unfold refuseLoop
 simp only [forIn_cons,List.forIn_nil]
 kernel_rfl
noncomputable abbrev V2:List Value:=[.type "ValueError",.type "Exception",.type "BaseException",.type "object"]
theorem a9X (self:Value):∀ {l:List Addr},refuseLoop self "__setattr__" (l.map Value.ref++V2)=pure ()
 | []=>b5O self
 | c::r=>by rw [map_cons,cons_append,refuseLoop_ref];exact a9X self
theorem c4L {prog:Program} {w:World} {A:Around} {E:Value->Shared->Prop} {s:Shared} {K:PySem.W.Frag} {e C:Addr} {os:List Addr} {cd:ClassData} {name:Str} {v:Value} {Q:Unit->Shared->Prop} (X:K.In s.heap) (he:E4 e C none s.heap)
  (hs:PySem.W.findIn K (.ref C) "__setattr__" = some (some (.builtin "object.__setattr__"))) (hc:PySem.W.clsIn K C=some cd) (hm:cd.mro=os.map Value.ref++V2) (hd:cd.hasDict=true) (ha:PySem.W.findIn K (.ref C) name=some none)
  (h:∀ h',(∀ b o,b ≠ e->s.heap.get? b=some o->h'.get? b=some o)->E4 e C (some s.heap.objs.size) h'->h'.Ns1 s.heap.objs.size (fun n=>if n=name then some v else none)->Q () { s with heap:=h',toks:=s.toks + 2 }) :
  wpAny (model prog w) A (setAttr (.ref e) name v) Q E s:=by
 obtain ⟨t,hx⟩:=he
 have I:PySem.W.InstAt s.heap e _ C none:=⟨hx,rfl,rfl,True.intro⟩
 have SF:=PySem.F.store_object
 have sub:PySem.W.Looks (model prog w) s.heap (isInstance (.ref e) (.type "object")) true:=I.type.andThen (PySem.W.looks_mroIn X (by unfold PySem.W.mroIn;rw [hc,Option.bind_some,if_neg (by rw [hm];simp),hm];simp))
 refine PySem.W.set_plain X I hs (codeAny_call_builtin SF.slot.plain SF.entry (@PySem.W.check_slot (model prog w) _ _ { s with toks:=s.toks + 1 } "object.__setattr__" "object" "__setattr__" (.ref e) [.str name s.toks,v] [] _ SF.kind SF.split sub (SF.args (.ref e) (.str name s.toks) v) ?_))
 have lm:PySem.W.Looks (model prog w) s.heap (mroOf (.ref C)) cd.mro:=(PySem.W.looks_clsIn X hc).andThen .now
 rw [PySem.W.osa_eq,refuse_eq]
 refine wpAny_bind (wpAny_bind (PySem.W.Looks.here (s:={ s with toks:=s.toks + 1 }) I.type (wpAny_bind (PySem.W.Looks.here (s:={ s with toks:=s.toks + 1 }) lm ?_))))
 rw [hm,a9X]
 refine wpAny_pure (wpAny_bind (PySem.W.Looks.here (s:={ s with toks:=s.toks + 1 }) I.type (wpAny_bind (PySem.W.Looks.here (s:={ s with toks:=s.toks + 1 }) (PySem.W.looks_findIn X ha) (wpAny_bind (wpAny_pure ?_))))))
 show wpAny _ _ (Builtin.ObjectAttr.storeInOwnDict (.ref e) (.ref C) (.str name s.toks) name v _) _ _ _
 unfold Builtin.ObjectAttr.storeInOwnDict
 have lc:PySem.W.Looks (model prog w) s.heap (classData C) cd:=PySem.W.looks_clsIn X hc
 refine wpAny_bind (wpAny_pure (wpAny_bind (wpAny_bind (wpAny_loadPart hx (wpAny_bind (PySem.W.Looks.here (s:={ s with toks:=s.toks + 1 }) lc ?_))))))
 rw [hd]
 have lt:e < s.heap.objs.size:=Heap.lt_size hx
 have a1:(s.heap.push { cls:=.type "dict",data:=.dict #[] }).get? e=some { cls:=.ref C,data:=.fields #[.ref t,.none,.none,.none,.bool false,.none] }:=Heap.get?_push_of_some _ hx
 have d1:(s.heap.push { cls:=.type "dict",data:=.dict #[] }).get? s.heap.objs.size=some { cls:=.type "dict",data:=.dict #[] }:=Heap.get?_push_size _ rfl
 refine (show wpAny _ _ (do let d <- alloc { cls:=Value.type "dict",data:=Data.dict #[] };update e fun o=>{ o with dict:=some d };pure (some d)) _ _ _ from wpAny_bind (wpAny_alloc ?_))
 refine wpAny_bind (wpAny_update a1 (wpAny_pure ?_))
 have ne:e ≠ s.heap.objs.size:=Nat.ne_of_lt lt
 have d2:((s.heap.push { cls:=.type "dict",data:=.dict #[] }).update e fun o=>{ o with dict:=some s.heap.objs.size }).get? s.heap.objs.size=some { cls:=.type "dict",data:=.dict #[] }:=(Heap.get?_update_other _ _ ne).trans d1
 have e2:((s.heap.push { cls:=.type "dict",data:=.dict #[] }).update e fun o=>{ o with dict:=some s.heap.objs.size }).get? e=some { cls:=.ref C,dict:=some s.heap.objs.size,data:=.fields #[.ref t,.none,.none,.none,.bool false,.none] }:=Heap.get?_update_self _ a1 rfl
 have k2:∀ b o,b ≠ e->s.heap.get? b=some o->((s.heap.push { cls:=.type "dict",data:=.dict #[] }).update e fun o=>{ o with dict:=some s.heap.objs.size }).get? b=some o:=fun b o hb q=>(Heap.get?_update_other _ _ (Ne.symm hb)).trans (Heap.get?_push_of_some _ q)
 generalize (s.heap.push { cls:=.type "dict",data:=.dict #[] }).update e (fun o=>{ o with dict:=some s.heap.objs.size })=h2 at d2 e2 k2
 refine (show wpAny _ _ (Builtin.ObjectAttr.storeInDict s.heap.objs.size (.str name s.toks) name v) _ _ { s with heap:=h2,toks:=s.toks + 1 } from ?_)
 unfold Builtin.ObjectAttr.storeInDict nsSet
 refine wpAny_bind (wpAny_pure (wpAny_bind (wpAny_bind (wpAny_bind (wpAny_askSetting (wpAny_pure (wpAny_bind (wpAny_mkText (wpAny_bind (wpAny_loadPart d2 ?_))))))))))
 dsimp only
 rw [aRefKeyMayBeTheName_at,show ((!(#[]:Array DictEntry).any (·.key.isStr name))&&(#[]:Array DictEntry).any (·.refKey))=false by simp]
 refine wpAny_updatePart d2 ?_
 have d3:=Heap.get?_update_self (Obj.putName name (if name.cps.isEmpty=true then 0 else reduceHash ((model prog w).w.params.strHash name.cps)) (.str name (s.toks + 1)) v) d2 rfl
 refine wpAny_bind (wpAny_lookBehind d3 (pastItsLine_dict (by simp)) (wpAny_pure (h _ (fun b o hb q=>?_) ⟨t,?_⟩ (c4q d3 rfl))))
 . rw [Heap.get?_update_other _ _ (Nat.ne_of_gt (Heap.lt_size q))]
   exact k2 b o hb q
 . rw [Heap.get?_update_other _ _ (Ne.symm ne)]
   exact e2
structure a5K (K:PySem.W.Frag) (C CS fi:Addr) (fld:Str):Prop where
 cls:∃ (nm qn:Str) (N:Addr) (bs:List Value) (sn:List Str) (sub:List Value) (ab:Bool) (col:Option Bool) (dd:Option Addr) (k0 k1 k2 k3 k5:Option Value),
  K.lookup C=some (excClassObj nm qn C N bs (.ref CS::V2) true sn sub ab col dd k0 k1 k2 k3 k5 "ValueError.__new__")/\PySem.W.nsOkIn K N=true/\PySem.W.nsIn K N "__init__" = some (some (.ref fi))
 tail:PySem.W.tailIn K V2 (.ref CS::V2)=true
 fn:∃ o,K.lookup fi=some o/\o.cls=.type "function"
 sa:PySem.W.findIn K (.ref C) "__setattr__" = some (some (.builtin "object.__setattr__"))
 nof:PySem.W.findIn K (.ref C) fld=some none
 rd:PySem.W.readsIn K CS (.type "type")=true
 ga:PySem.W.specialIn K (.ref CS) "__getattribute__" = some (some (.builtin "type.__getattribute__"))
 ini:PySem.W.findCls K (.ref CS) (.type "type") "__init__" = some (.val (.builtin "ValueError.__init__"))
section
variable {X:Cx} {C CS fi:Addr} {fld:Str} {x:Str} {p pos apos pos':Pos} {o e e1 e2:Expr} {t:TA} {ta tv:TE}
noncomputable def c6Y (C:Addr) (t:TA):TE:=fun σ H Q=>t σ H fun vs H1=>∃ ea v dx,vs=[.ref ea,v]/\H1 ea=some (.ext (E4 ea C dx))/\Q .non H1
theorem b0Q {P:Program} {w:World} {H:Hp} {h:Heap} {ea C:Addr} {dx:Option Addr} (x:E4 ea C dx h):R0 P w H h ea (.ext (E4 ea C dx)):=⟨x,let ⟨_,q⟩:=x;⟨_,q⟩,fun _ _ y k=>y.keep k⟩
theorem b5R {pl:Sem Bool} (T:a5K X.K C CS fi fld) (hg:Gl X x) (hm:X.mg x=some (.ref CS)) (ha:PA X [e1,e2] t) (hdb:(x==("__debug__" : Str))=false:=by decide)
  (hst:starEach [e1,e2] X.env=(false,eval e1 X.env)::starEach [e2] X.env:=by rfl) (hpl:(backTo pos (starEach [e2] X.env)).any (·.1)=false:=by rfl)
  (ht:eval (.Call (.Attribute (.Name x p) "__init__" apos) [e1,e2] [] pos) X.env=(do
   let ov <- eval (.Name x p) X.env
   standAt apos.atName
   let (f,first) <- holding [ov] (getMethod ov "__init__" pl)
   callWith pos f first (backTo pos (starEach [e1,e2] X.env)) (backToKw pos (keywordEach [] X.env))):=by rfl) :
  PE X (.Call (.Attribute (.Name x p) "__init__" apos) [e1,e2] [] pos) (c6Y C t):=by
 intro pins s σ H Q I h
 refine PySem.W.methodCall_KW (pl:=pl) (thn (a2G (v:=.ref CS) hg hm rfl hdb pins s σ H (fun v H'=>v=.ref CS/\H'=H) I ⟨rfl,rfl⟩) fun u s1 ⟨y,H1,I1,rx,ex,eH⟩=>?_) ht
 subst ex
 subst eH
 obtain rfl:u=Value.ref CS:=rx
 refine PySem.W.method_cls I1.kIn T.ga (PySem.W.cls_value I1.kIn T.rd T.ini (by decide +kernel) ?_)
 have I2:=I1.tok (s1.toks + 1)
 refine PyProof.Rows.callWith_builtin1 (thn (ha pos pins _ σ H1 _ I2 h) fun us s2 ⟨vs,H2,I3,r,ea,v,dx,ev,hH,q⟩=>?_) hst hpl
 subst ev
 obtain ⟨u1,u2,rfl,r1,r2⟩:=vals2 r
 cases r1
 obtain ⟨nm,qn,N,bs,sn,sub,ab,col,dd,k0,k1,k2,k3,k5,hC,_,_⟩:=T.cls
 obtain ⟨hp,gs,dr,tk,os⟩:=s2
 have okE:E4 ea C dx hp:=(I3.hok ea _ hH).1
 refine c0J PySem.F.excBase_ValueError (PySem.W.tail_of_in I3.kIn T.tail) (I3.kIn _ _ hC) okE (by rw [sizeLine_eq];simp) fun h' kp ex'=>?_
 have e0:upd H2 ea (.ext (E4 ea C dx))=H2:=by
  funext b
  by_cases hb:b=ea
  . subst hb;rw [E7,hH]
  . rw [s9 hb]
 have I4:=I3.write (h':=h') (t':=tk) (x:=ea) (e:=ea) (o:=.ext (E4 ea C dx)) (by rw [hH];exact True.intro) (.inl rfl) (fun b u hb q=>kp b u hb q) (let ⟨_,q⟩:=ex';⟨_,q⟩) (b0Q ex')
 rw [e0] at I4
 exact ⟨.non,H2,I4,rfl,q⟩
noncomputable def c7b (C:Addr) (fld:Str) (ta tv:TE):TS:=fun D σ H=>tv σ H fun y H1=>ta σ H1 fun x H2=>∃ ea,x=.ref ea/\H2 ea=some (.ext (E4 ea C none)) /\
 ∀ dx,H2 dx=none->dx ≠ ea->D.nx σ (upd (upd H2 ea (.ext (E4 ea C (some dx)))) dx (.xd [(fld,y)]))
theorem c3W (T:a5K X.K C CS fi fld) (ha:PE X o ta) (hv:PE X e tv) (hs:swapsWith e (some (.Attribute o fld pos')) pos.line X.env=pure false:=by rfl):PS X (.Assign [.Attribute o fld pos'] e pos) (c7b C fld ta tv):=by
 intro pins s σ H D I h
 refine plainObj_wpAny_Assign_Attribute (thn (hv pins s σ H _ I h) fun u s1 ⟨y,H1,I1,ry,q⟩=>thn (ha pins s1 σ H1 _ I1 q) fun ov s2 ⟨x,H2,I2,rx,ea,ex,hH,q2⟩=>?_) hs
 subst ex
 obtain rfl:ov=Value.ref ea:=rx
 obtain ⟨nm,qn,N,bs,sn,sub,ab,col,dd,k0,k1,k2,k3,k5,hC,_,_⟩:=T.cls
 have okE:E4 ea C none s2.heap:=(I2.hok ea _ hH).1
 refine c4L (os:=[C,CS]) I2.kIn okE T.sa (by unfold PySem.W.clsIn;rw [hC]) rfl rfl T.nof fun h' kp ex' n1=>?_
 have I3:=I2.write (h':=h') (t':=s2.toks + 2) (x:=ea) (e:=ea) (o:=.ext (E4 ea C (some s2.heap.objs.size))) (by rw [hH];exact True.intro) (.inl rfl) (fun b u hb q=>kp b u hb q) (let ⟨_,q⟩:=ex';⟨_,q⟩) (b0Q ex')
 have hz:H2 s2.heap.objs.size=none:=I2.hok.fresh (Nat.le_refl _)
 have hne:s2.heap.objs.size ≠ ea:=Nat.ne_of_gt (let ⟨_,q⟩:=okE;Heap.lt_size q)
 have f:=I2.b0I (Nat.le_refl _) hz
 refine ⟨σ,_,I3.b7a (D:=s2.heap.objs.size) (o:=.xd [(fld,y)]) (by rw [s9 hne];exact hz) f.2.1 f.2.2.2.1 f.2.2.2.2.1 f.2.2.2.2.2 ⟨_,n1,fun n=>?_⟩,q2 _ hz hne⟩
 show b2G ([(fld,y)].lookup n) (if n=fld then some u else none)
 by_cases hn:n=fld
 . subst hn
   simp only [List.lookup,beq_self_eq_true,if_true]
   exact ry
 . rw [if_neg hn]
   have:(n==fld)=false:=by simpa using hn
   simp only [List.lookup,this]
   exact True.intro
end
section
variable {X:Cx} {pins:List (Addr × Obj)} {σ:St} {H:Hp} {s:Shared} {h':Heap}
theorem Inv.c7s {t':Nat} {D:Addr} {o:HO} (I:Inv X pins σ H s) (k:∀ b u,s.heap.get? b=some u->h'.get? b=some u) (hDn:s.heap.get? D=none) (new:R0 X.prog X.w (upd H D o) h' D o) :
  H D=none/\Inv X pins σ (upd H D o) { s with heap:=h',toks:=t' }:=by
 have hH:H D=none:=by
  cases q:H D with
  | none=>rfl
  | some u =>
   obtain ⟨o,e⟩:=R0.get (I.hok D u q)
   rw [hDn] at e;cases e
 refine ⟨hH,?_⟩
 have ne:∀ b o,s.heap.get? b=some o->b ≠ D:=fun b o e z=>by rw [z,hDn] at e;cases e
 have nh:∀ b u,H b=some u->b ≠ D:=fun b u e z=>by rw [z,hH] at e;cases e
 have hup:∀ b u,H b=some u->upd H D o b=some u:=fun b u e=>by rw [s9 (nh b u e)];exact e
 refine I.step (H':=upd H D o) (g':=s.gens) (d':=s.drawn) (ch:=[]) (fun b hb=>absurd hb (by simp)) (fun b o _ _ _ e _=>k b o e) (fun b o _ _ _ e _=>⟨o.slots,k b o e⟩) (fun b o _ e n=>by rw [s9 (ne b o e)];exact n)
  (fun b o _ e=>⟨o,k b o e⟩) (fun b xs e=>hup b _ e) (fun b ob u e=>hup b _ e) (fun b ps e=>⟨#[],by rw [hup b _ e];simp⟩) (fun m' hm''=>?_) (fun b u e=>?_) I.bare
 . obtain ⟨ob,es,ep,ho,r⟩:=hm''
   exact ⟨ob,es,ep,k _ _ ho,r⟩
 . by_cases hb:b=D
   . subst hb
     rw [E7] at e
     cases e
     exact new
   . rw [s9 hb] at e
     exact (I.hok b u e).a5r (fun c v _ q=>k c v q) (fun c q=>hup c _ q) fun c xs q=>hup c _ q
end
theorem c7m {K:PySem.W.Frag} {h:Heap} {N:Addr} {m:Str->Option Value} {x:Str} {u:Value} (X:K.In h) (G:h.Ns N m) (e:PySem.W.nsIn K N x=some (some u)):m x=some u:=by
 obtain ⟨o,es,ep,ho,hd,_,hf⟩:=G
 unfold PySem.W.nsIn at e
 split at e
 . rename_i q
   have z:=X _ _ q
   rw [ho] at z
   cases z
   cases hd
   split at e
   . rename_i he
     cases e
     rw [<-hf]
     unfold nsFind findBy
     rw [<-Array.find?_toList,he]
     rfl
   . split at e <;> cases e
 . cases e
section
variable {X:Cx} {C CS fi:Addr} {fld prm:Str} {k:Nat} {fd:FuncData}
end
noncomputable def a7w (e T C dx:Addr) (h:Heap):Prop:=∃ vs oT ts,h.get? e=some { cls:=.ref C,dict:=some dx,data:=.fields vs }/\vs[1]? = some (.ref T)/\T ≠ e/\h.get? T=some oT/\oT.data=.fields ts/\ts[3]? = some .none
section
variable {M:Model} {A:Around} {E:Value->Shared->Prop} {s:Shared}
theorem b1R {base:Heap} {env:Env} {outer:List Env} {L e C dx:Addr} {vs:Array Value} {head:Value} {had:Bool} {Q:Unit->Shared->Prop} (hfr:A.frames=some (env::outer)) (hl:s.heap.FunFrames base (env::outer)) (hf:env.frame=some L)
  (he:s.heap.get? e=some { cls:=.ref C,dict:=some dx,data:=.fields vs }) (hz:1 < vs.size)
  (h:∀ h' T,s.heap.objs.size<=T->(∀ b o,b ≠ e->b ∉ frs (env::outer)->s.heap.get? b=some o->h'.get? b=some o)->(∀ b o,b ∈ frs (env::outer)->s.heap.get? b=some o->∃ sl,h'.get? b=some { o with slots:=sl })->a7w e T C dx h'->Q () { s with heap:=h' }) :
  wpAny M A (do let a <- frameOf env;let pl <- entryPlaceOf L had;let b <- EntryCells.newEntry head a .none (rawInt L) .none pl;setField (.ref e) 1 b) (fun _ s'=>wpAny M A (setFlight (.ref e) none) Q E s') E s:=by
 have ene:e ∉ frs (env::outer):=fun hm=>by
  obtain ⟨_,o,ho,hnf⟩:=hl.mem hm
  rw [he] at ho;injection ho with ho;subst ho;exact hnf vs rfl
 refine wpAny_bind (wpAny_frameOf_fun hfr hl hf fun g1 q1=>wpAny_bind (wpAny_entryPlaceOf fun pl hpl=>?_))
 unfold EntryCells.newEntry newFields
 refine wpAny_bind (wpAny_newObj_type ?_ (hpl.sizeOk5 _ _ _ _ _))
 generalize ho:({ cls:=.type "traceback",dict:=none,data:=.fields ([head,.ref L,.none,rawInt L,.none]++(if pl.isEmpty then List.replicate 6 Value.none else pl)).toArray }:Obj)=oT
 have dT:oT.data=.fields ([head,.ref L,.none,rawInt L,.none]++(if pl.isEmpty then List.replicate 6 Value.none else pl)).toArray:=by rw [<-ho]
 have fT:oT.isFreed=false:=Obj.isFreed_of_fields dT
 have e1:g1.get? e=some { cls:=.ref C,dict:=some dx,data:=.fields vs }:=(q1.2.1 e ene).trans he
 have e2:=Heap.get?_push_of_some (h:=g1) oT e1
 have hT2:(g1.push oT).get? g1.objs.size=some oT:=Heap.get?_push_size g1 fT
 have hTe:g1.objs.size ≠ e:=Nat.ne_of_gt (Heap.lt_size e1)
 refine wpAny_setField e2 rfl hz ?_
 have e3:=Heap.get?_update_self (Obj.mapFields (·.setIfInBounds 1 (Value.ref g1.objs.size))) e2 rfl
 have hT3:=(Heap.get?_update_other (g1.push oT) (Obj.mapFields (·.setIfInBounds 1 (Value.ref g1.objs.size))) (Ne.symm hTe)).trans hT2
 unfold setFlight
 refine wpAny_bind (wpAny_field (x:=.ref g1.objs.size) e3 rfl (by simp [hz]) ?_)
 rw [if_pos (show (Value.ref g1.objs.size != Value.none)=true by simp)]
 have s3:3 < ([head,.ref L,.none,rawInt L,.none]++(if pl.isEmpty then List.replicate 6 Value.none else pl)).toArray.size:=by simp only [size_toArray,length_append,length_cons,length_nil];omega
 refine wpAny_setField hT3 dT s3 (h _ g1.objs.size (by rw [q1.1];exact Nat.le_refl _) (fun b o hb hn q=>?_) (fun b o hb q=>?_) ?_)
 . have q2:g1.get? b=some o:=(q1.2.1 b hn).trans q
   rw [Heap.get?_update_other _ _ (Nat.ne_of_gt (Heap.lt_size q2)),Heap.get?_update_other _ _ (Ne.symm hb)]
   exact Heap.get?_push_of_some _ q2
 . obtain ⟨sl,q2⟩:=q1.2.2 b o q
   have hb':b ≠ e:=fun z=>ene (z ▸ hb)
   refine ⟨sl,?_⟩
   rw [Heap.get?_update_other _ _ (Nat.ne_of_gt (Heap.lt_size q2)),Heap.get?_update_other _ _ (Ne.symm hb')]
   exact Heap.get?_push_of_some _ q2
 . refine ⟨vs.setIfInBounds 1 (.ref g1.objs.size),_,_,?_,?_,hTe,Heap.get?_update_self _ hT3 (Obj.isFreed_of_fields (Obj.data_mapFields dT _)),Obj.data_mapFields dT _,?_⟩
   . rw [Heap.get?_update_other _ _ hTe]
     exact e3
   . simp [hz]
   . rw [Array.getElem?_setIfInBounds_self]
     rw [if_pos s3]
     rfl
theorem b6a {base:Heap} {env:Env} {outer:List Env} {L e C dx:Addr} {Q:Unit->Shared->Prop} (hfr:A.frames=some (env::outer)) (hl:s.heap.FunFrames base (env::outer)) (hf:env.frame=some L) (he:E4 e C (some dx) s.heap)
  (h:∀ h' T,s.heap.objs.size<=T->(∀ b o,b ≠ e->b ∉ frs (env::outer)->s.heap.get? b=some o->h'.get? b=some o)->(∀ b o,b ∈ frs (env::outer)->s.heap.get? b=some o->∃ sl,h'.get? b=some { o with slots:=sl })->a7w e T C dx h'->Q () { s with heap:=h' }) :
  wpAny M A (leaving env (.ref e)) Q E s:=by
 obtain ⟨t,he⟩:=he
 unfold leaving noteFrame
 simp only [hf]
 refine wpAny_bind (wpAny_bind (wpAny_field (x:=.none) he rfl rfl ?_))
 rw [if_neg (by decide)]
 exact b1R hfr hl hf he (by simp) h
theorem b9N {base:Heap} {env:Env} {outer:List Env} {L e T C dx:Addr} {Q:Unit->Shared->Prop} (hfr:A.frames=some (env::outer)) (hl:s.heap.FunFrames base (env::outer)) (hf:env.frame=some L) (he:a7w e T C dx s.heap)
  (h:∀ h' T',s.heap.objs.size<=T'->(∀ b o,b ≠ e->b ≠ T->b ∉ frs (env::outer)->s.heap.get? b=some o->h'.get? b=some o)->(∀ b o,b ∈ frs (env::outer)->s.heap.get? b=some o->∃ sl,h'.get? b=some { o with slots:=sl })->a7w e T' C dx h'->Q () { s with heap:=h' }) :
  wpAny M A (noteFrame (.ref e) env) (fun _ s'=>wpAny M A (setFlight (.ref e) none) Q E s') E s:=by
 obtain ⟨vs,oT,ts,he,h1,hTe,hT,hdT,h3⟩:=he
 have s1:1 < vs.size:=(Array.getElem?_eq_some_iff.mp h1).1
 have s3:3 < ts.size:=(Array.getElem?_eq_some_iff.mp h3).1
 unfold noteFrame
 simp only [hf]
 refine wpAny_bind (wpAny_field he rfl h1 ?_)
 rw [if_pos (show (Value.ref T != Value.none)=true by simp)]
 refine wpAny_bind (wpAny_field hT hdT h3 ?_)
 rw [if_neg (show ¬ ((Value.none==rawInt L)=true) by simp [rawInt])]
 refine wpAny_bind (wpAny_setField hT hdT s3 ?_)
 have oth:∀ b,b ≠ T->(s.heap.update T (Obj.mapFields (·.setIfInBounds 3 Value.none))).get? b=s.heap.get? b:=fun b hb=>Heap.get?_update_other _ _ (Ne.symm hb)
 have noT:T ∉ frs (env::outer):=fun hm=>by
  obtain ⟨_,o,ho,hnf⟩:=hl.mem hm
  rw [hT] at ho;injection ho with ho;subst ho;exact hnf ts hdT
 have noR:∀ b o,s.heap.get? b=some o->(∀ us,o.data ≠ .fields us)->b ≠ T:=fun b o q hnf z=>by
  rw [z,hT] at q;injection q with q;subst q;exact hnf ts hdT
 have lt:T < s.heap.objs.size:=Heap.lt_size hT
 refine b1R (s:={ s with heap:=s.heap.update T (Obj.mapFields (·.setIfInBounds 3 Value.none)) }) hfr (hl.of_keeps fun b o q hnf=>⟨o,(oth b (noR b o q hnf)).trans q,rfl⟩) hf ((oth e (Ne.symm hTe)).trans he) s1
  fun h' T' hT' k1 k2 fl=>h h' T' ?_ (fun b o hb hbT hn q=>k1 b o hb hn ((oth b hbT).trans q)) (fun b o hb q=>k2 b o hb ((oth b (fun z=>noT (z ▸ hb))).trans q)) fl
 have e:(s.heap.update T (Obj.mapFields (·.setIfInBounds 3 Value.none))).objs.size=s.heap.objs.size:=by simp [Heap.update]
 rw [<-e]
 exact hT'
end
section
variable {M:Model} {A:Around} {E:Value->Shared->Prop} {env:Env} {s:Shared}
variable {nm qn:Str} {C N:Addr} {bs tl:List Value} {hd:Bool} {sn:List Str} {sub:List Value} {ab:Bool} {col:Option Bool} {dd:Option Addr} {k0 k1 k2 k3 k5:Option Value} {nid:String}
theorem b9i {x:Sem Value} {Q:Flow->Shared->Prop} (hb:tl.contains (.type "BaseException")=true) (hh:A.handled=none)
  (h:wpAny M A x (fun v s1=>∃ e dx,v=.ref e/\s1.heap.get? C=some (excClassObj nm qn C N bs tl hd sn sub ab col dd k0 k1 k2 k3 k5 nid)/\E4 e C dx s1.heap/\E (.ref e) s1) E s):wpAny M A (raiseStmt env (some x) none) Q E s:=by
 have cB:(Value.ref C::tl).contains (.type "BaseException")=true:=by rw [List.contains_cons,hb,Bool.or_true]
 unfold raiseStmt
 refine wpAny_bind (wpAny_mono h (fun v s1 q=>?_) fun _ _ z=>z)
 obtain ⟨e,dx,rfl,hC,⟨t,he⟩,hE⟩:=q
 obtain ⟨hp,gs,dr,tk,os⟩:=s1
 repeat (first | with_reducible refine wpAny_loadPart_at he ?_ | with_reducible refine wpAny_loadPart_at hC ?_ | (with_reducible refine wpAny_isSubtype_exc hC ?_;rw [cB]) | wp_step)
 exact wpAny_raiseNew_none hh hE
end
section
variable {X:Cx} {C CS fi:Addr} {fld prm x:Str} {k:Nat} {fd:FuncData} {p pos cpos:Pos} {e:Expr} {t:TA}
end
theorem c2w {P:Program} {w:World} {H:Hp} {h:Heap} {ea C dx:Addr} (x:ExcAt ea C dx h):R0 P w H h ea (.ext (ExcAt ea C dx)):=⟨x,let ⟨_,q⟩:=x;⟨_,q⟩,fun _ _ y k=>y.keep k⟩
theorem a7w.at {e T C dx:Addr} {h:Heap} (x:a7w e T C dx h):ExcAt e C dx h:=let ⟨vs,_,_,q,_⟩:=x;⟨vs,q⟩
noncomputable def CX1 (P:Program) (w:World):CXT:=fun outer H s E e s'=>∃ ea T C dx H',e=.ref ea/\s'.os=s.os/\AllBare s'.gens/\Un (frs outer) [] H H' s.heap s'.heap/\HOk P w H' s'.heap/\a7w ea T C dx s'.heap/\H' ea=some (.ext (ExcAt ea C dx))/\H' T=none /\
 s.heap.objs.size<=T/\E (.ref ea) none H'
section
variable {X:Cx} {pins:List (Addr × Obj)} {σ:St} {H:Hp} {s:Shared}
theorem Inv.flew {h':Heap} {ea C dx:Addr} {o:HO} {ch:List Addr} (I:Inv X pins σ H s) (he:H ea=some o) (ho:(∀ xs,o ≠ .tup xs)/\(∀ y,o ≠ .own y)/\(∀ a u,o ≠ .frz a u)/\∀ ps,o ≠ .tbl ps) (hT:∀ b ∈ ch,H b=none) (hTn:∀ b ∈ ch,X.L5.heap.objs.size<=b/\b ≠ X.env.locals/\(∀ x c,X.env.cells.lookup x=some c->c ≠ b)/\∀ p ∈ X.pn++pins,p.1 ≠ b)
  (k1:∀ b o,b ≠ ea->b ∉ ch->b ∉ frs X.stack->s.heap.get? b=some o->h'.get? b=some o) (k2:∀ b o,b ∈ frs X.stack->s.heap.get? b=some o->∃ sl,h'.get? b=some { o with slots:=sl }) (hx:ExcAt ea C dx h') :
  Inv X pins σ (upd H ea (.ext (ExcAt ea C dx))) { s with heap:=h' }:=by
 have nea:∀ b,H b=none->b ≠ ea:=fun b n z=>by rw [z,he] at n;cases n
 have nst:∀ b u,H b=some u->b ∉ frs X.stack:=fun b u q z=>by rw [I.b2c b z] at q;cases q
 have nT:∀ b u,H b=some u->b ∉ ch:=fun b u q z=>by rw [hT b z] at q;cases q
 refine I.call (s:=s) (h':=h') (g':=s.gens) (t':=s.toks) (d':=s.drawn) (ch:=ch) ⟨fun b o q n hb hc=>?_,fun b o q n hb hc=>?_,fun b o q n hc=>?_,fun b o q hc=>?_,fun b xs q=>?_,fun b o u q=>?_,fun b ps q=>?_⟩ (fun b u q=>?_) I.bare fun b hb=>?_
 . exact k1 b o (nea b n) hc hb q
 . exact k2 b o hb q
 . rw [s9 (nea b n)];exact n
 . by_cases hb:b ∈ frs X.stack
   . obtain ⟨sl,z⟩:=k2 b o hb q
     exact ⟨_,z⟩
   . by_cases hbe:b=ea
     . subst hbe
       obtain ⟨vs,z⟩:=hx
       exact ⟨_,z⟩
     . exact ⟨_,k1 b o hbe hc hb q⟩
 . by_cases hb:b=ea
   . subst hb;rw [he] at q;cases q;exact absurd rfl (ho.1 xs)
   . rw [s9 hb];exact q
 . by_cases hb:b=ea
   . subst hb;rw [he] at q;cases q;exact absurd rfl (ho.2.2.1 o u)
   . rw [s9 hb];exact q
 . by_cases hb:b=ea
   . subst hb;rw [he] at q;cases q;exact absurd rfl (ho.2.2.2 ps)
   . rw [s9 hb];exact ⟨#[],by rw [q];simp⟩
 . by_cases hb:b=ea
   . subst hb
     rw [E7] at q
     cases q
     exact c2w hx
   . rw [s9 hb] at q
     refine (I.hok b u q).a5r (fun c v hc r=>?_) (fun c q2=>?_) (fun c xs q2=>?_)
     . rcases hc with rfl | hc
       . exact k1 c v hb (nT c u q) (nst c u q) r
       . have hce:c ≠ ea:=fun z=>by
           rw [z,he] at hc
           cases hc
           exact absurd rfl (ho.2.1 b)
         exact k1 c v hce (nT c _ hc) (nst c _ hc) r
     . have hce:c ≠ ea:=fun z=>by
         rw [z,he] at q2
         cases q2
         exact absurd rfl (ho.2.1 b)
       rw [s9 hce];exact q2
     . have hce:c ≠ ea:=fun z=>by
         rw [z,he] at q2
         cases q2
         exact absurd rfl (ho.1 xs)
       rw [s9 hce];exact q2
 . obtain ⟨a1,a2,a3,a4⟩:=hTn b hb
   exact ⟨.inr a1,a2,a3,a4⟩
theorem Inv.above (I:Inv X pins σ H s) {T:Addr} (h:s.heap.objs.size<=T):X.L5.heap.objs.size<=T/\T ≠ X.env.locals/\(∀ x c,X.env.cells.lookup x=some c->c ≠ T)/\∀ p ∈ X.pn++pins,p.1 ≠ T:=by
 refine ⟨Nat.le_trans I.sz h,fun z=>?_,fun x c e z=>?_,fun p hp z=>?_⟩
 . exact Nat.lt_irrefl _ (z ▸ Nat.lt_of_lt_of_le I.lt h)
 . obtain ⟨v,o,ho,_⟩:=I.cell x c e
   exact Nat.lt_irrefl _ (z ▸ Nat.lt_of_lt_of_le (Heap.lt_size ho) h)
 . exact Nat.lt_irrefl _ (z ▸ Nat.lt_of_lt_of_le (Heap.lt_size (I.pin p hp).1) h)
end
section
variable {P:Program} {w:World} {K:PySem.W.Frag} {mg:Str->Option Value} {base:Heap} {N:List Str} {qual:Str} {scope:Scope} {f:Addr} {cd:Value} {A:Around} {outer:List Env} {s:Shared} {H:Hp} {E:XK}
theorem c1b {pins:List (Addr × Obj)} {σ:St} {H1:Hp} {s1:Shared} {ea C dx:Addr} (I:Inv (a5I (CX1 P w) P w K mg base N qual scope f cd A outer s H E) pins σ H1 s1) (he:H1 ea=some (.ext (E4 ea C (some dx)))) (hE:E (.ref ea) none (upd H1 ea (.ext (ExcAt ea C dx)))) :
  (a5I (CX1 P w) P w K mg base N qual scope f cd A outer s H E).xe (.ref ea) s1:=by
 have okE:E4 ea C (some dx) s1.heap:=(I.hok ea _ he).1
 show wpAny (model P w) (A.deeper (envOfC qual scope s.heap.objs.size f cd)) (leaving (envOfC qual scope s.heap.objs.size f cd) (.ref ea)) _ _ s1
 refine b6a (L:=s.heap.objs.size) I.ok.frames I.stack rfl okE fun h' T hT k1 k2 fl=>?_
 have J:=I.flew (h':=h') (ch:=[]) (dx:=dx) he ⟨fun _ z=>(by cases z),fun _ z=>(by cases z),fun _ _ z=>(by cases z),fun _ z=>(by cases z)⟩ (fun b hb=>absurd hb (by simp)) (fun b hb=>absurd hb (by simp)) (fun b o hb _ hn q=>k1 b o hb hn q) (fun b o hb q=>k2 b o hb q) fl.at
 have hTa:upd H1 ea (.ext (ExcAt ea C dx)) T=none:=by
  have n1:H1 T=none:=I.hok.fresh hT
  have n2:T ≠ ea:=fun z=>by rw [z,he] at n1;cases n1
  rw [s9 n2];exact n1
 exact ⟨ea,T,C,dx,_,rfl,J.os,J.bare,J.base,J.hok,fl,E7,hTa,Nat.le_trans I.sz hT,hE⟩
end
section
variable {X:Cx} {C CS fi:Addr} {fld prm x:Str} {k:Nat} {fd:FuncData} {p pos cpos:Pos} {e:Expr} {ta:TA} {Fl:Ds->Option (List PyData)} {fr:Bool}
end
noncomputable def c5T:Out->Option (PV ⊕ PyData)
 | .ret pv=>some (.inl pv)
 | .next _=>some (.inl (.dat .none))
 | .up x=>some (.inr x)
 | _=>none
noncomputable def fnX (n N:Nat) (G:Ds->Option Out):List PyData->Option (PV ⊕ PyData):=fun l=>if l.length=n then (G (V3 l++List.replicate (N - n) none)).bind c5T else none
noncomputable def c7A (K:PySem.W.Frag) (O:List Addr) (H:Hp) (Q:VK) (E:XK):PV ⊕ PyData->Prop
 | .inl pv=>∀ v H',j4 H H'->RX K O [] H H' v pv->Q v H'
 | .inr x=>∀ ea H',j4 H H'->Dt K (hid H' [] O) (.ref ea) x->E (.ref ea) none H'
noncomputable def spX (K:PySem.W.Frag) (F:List PyData->Option (PV ⊕ PyData)):Sp:=fun vs H Q E=>∃ (O:List Addr) (ds:List PyData) (a:PV ⊕ PyData),(∀ a ∈ O,∃ u,H a=some u)/\Dts K (hid H [] O) vs ds/\F ds=some a/\c7A K O H Q E a
section
variable {P:Program} {w:World} {K:PySem.W.Frag} {mg:Str->Option Value} {base:Heap}
theorem Fun.okX {x qual:Str} {st:Stmt} {f:Addr} {fd:FuncData} {N ps:List Str} {k:Nat} {G:Ds->Option Out} (F:Fun K x qual st f fd) (S:o9 N ps (e9 st)) (hN:ps.length<=N.length)
  (hbody:∀ (cdv:Value) (A:Around) (outer:List Env) (s:Shared) (H:Hp) (E:XK),M7 k (A.deeper (envOfC qual (e9 st) s.heap.objs.size f cdv)) ->
   ∃ t,a4N (a5I (CX1 P w) P w K mg base N qual (e9 st) f cdv A outer s H E) (j3 st) t G):m6 P w K mg base (CX1 P w) (k + 1) f fd ps (spX K (fnX ps.length N.length G)):=by
 have ln:∀ vs H Q E,spX K (fnX ps.length N.length G) vs H Q E->vs.length=ps.length:=fun vs H Q E h=>by
  obtain ⟨O,ds,pv,h1,h2,h3,h4⟩:=h
  unfold fnX at h3
  split at h3
  . rename_i hl
    rw [h2.length];exact hl
  . cases h3
 obtain ⟨oc,od,kV,doc,pm,an,cdv,ct,osl,rfl,lk,hcd⟩:=F.ex
 refine c3o lk hcd S ln fun A outer s H vs Q E hr h=>?_
 obtain ⟨O,ds,a,h1,h2,h3,h4⟩:=h
 obtain ⟨t,ht⟩:=hbody cdv A outer s H E hr
 refine ⟨t,ht.p,?_⟩
 unfold fnX at h3
 split at h3
 . rename_i hl
   rw [<-hl] at h3
   cases e1:G (V3 ds++List.replicate (N.length - ds.length) none) with
   | none=>rw [e1] at h3;cases h3
   | some o =>
    rw [e1] at h3
    simp only [Option.bind_some] at h3
    refine ht.t O H _ (L2.start N vs) H _ _ o (DS.start h1 h2) e1 ?_
    cases o with
    | next ds'=>cases h3;exact fun as σ H' S'=>h4 _ H' S'.same Dt.non
    | ret pv'=>cases h3;exact fun v H' s r=>h4 v H' s r
    | brk ds'=>cases h3
    | cont ds'=>cases h3
    | up x =>
     cases h3
     intro ea H1 sm n0 ⟨C,dx,fld,v,d,hx,hC,hnf,q1,q2,q3,hd⟩ pins σ s1 I
     subst hx
     have hde:dx ≠ ea:=fun z=>by rw [z,q1] at q2;cases q2
     have eaO:ea ∉ O:=fun z=>by
      obtain ⟨u,z⟩:=h1 ea z
      rw [n0] at z;cases z
     refine c1b I q1 (h4 ea _ (fun b u z=>?_) (.exc hC hnf (M5.mpr ⟨eaO,by simp,E7⟩) (M5.mpr ⟨q3,by simp,by rw [s9 hde];exact q2⟩) (hd.same (a2g fun b u z1 z2 z3=>⟨fun z=>z1 (mem_cons_of_mem _ z),by simp,?_⟩))))
     . rw [s9 (M3 z n0)];exact sm b u z
     . rw [s9 fun z=>z1 (by rw [z];exact mem_cons_self)];exact z3
 . cases h3
end
noncomputable def Cx.marked (X:Cx) (ea:Addr):Cx:={ X with A:=X.A.mark (some (.ref ea)),calm:=false,xe:=fun _ _=>False }
theorem Cx.Ok.marked {X:Cx} (ok:X.Ok) (ea:Addr):(X.marked ea).Ok :=
 ⟨ok.mod,ok.kind,ok.glob,ok.blt,ok.above,ok.inj,ok.has,ok.cab,fun z=>(by cases z),ok.frames,ok.stk,ok.exf,ok.bs,ok.bsz,ok.a8H,ok.b0P,ok.a2k,ok.frf⟩
section
variable {X:Cx} {pins:List (Addr × Obj)} {σ:St} {H:Hp} {s:Shared}
theorem Inv.marked (I:Inv X pins σ H s) (ea:Addr):Inv (X.marked ea) pins σ H s:=⟨I.ok.marked ea,I.os,I.bare,I.base,I.loc,I.cell,I.free,I.a0N,I.pin,I.hok,I.len⟩
theorem Inv.unmarked {ea:Addr} (I:Inv (X.marked ea) pins σ H s) (ok:X.Ok):Inv X pins σ H s:=⟨ok,I.os,I.bare,I.base,I.loc,I.cell,I.free,I.a0N,I.pin,I.hok,I.len⟩
theorem c4J {M:Model} {A:Around} {E:Value->Shared->Prop} {j:Nat} {n:Str} {pos:Pos} {Q:Unit->Shared->Prop} (I:Inv X pins σ H s) (hN:X.N.Nodup) (hj:X.N[j]? = some n) (hk:X.env.scope.names.lookup n=some .local)
  (h:∀ s',Inv X pins (σ.set j none) H s'->Q () s'):wpAny M A (do bindName X.env n .none;unbindBehindTheSuite X.env n pos) Q E s:=by
 obtain ⟨m,hn,hl⟩:=id I.loc
 have hcls:(X.env.scope.kind==.class||(X.env.scope.kind==.module&&X.env.locals != X.env.globals))=false:=by rw [I.ok.kind];rfl
 have hiσ:j < σ.length:=by rw [I.len];exact (List.getElem?_eq_some_iff.mp hj).1
 have cne:=I.cne
 refine wpAny_nameGoes_keeps hk hn hcls fun h' v hn' hs=>?_
 obtain ⟨oL,_,_,hoL,_⟩:=id hn
 have tracked:HOk X.prog X.w H h':=fun b ob e=>by
  refine (I.hok b ob e).a5r (fun c w' hc q=>(hs.2 c ?_).trans q) (fun _ q=>q) fun _ _ q=>q
  rintro rfl
  rcases hc with rfl | hc
  . rw [I.free] at e;cases e
  . rw [I.free] at hc;cases hc
 refine h _ ⟨I.ok,I.os,I.bare,⟨fun b o e n hb hx=>?_,fun b o e n hb hx=>?_,I.base.free,fun b o e hx=>?_,I.base.a6s,I.base.a5x,I.base.a6t⟩,⟨_,hn',fun i y v' e1 e2 e3=>?_⟩,fun y c e=>?_,I.free,I.a0N,fun p hp=>?_,tracked,by simpa using I.len⟩
 . exact (hs.2 b (Nat.ne_of_lt (Nat.lt_of_lt_of_le (Heap.lt_size e) I.ok.above))).trans (I.base.keep b o e n hb hx)
 . obtain ⟨sl,e1⟩:=I.base.slot b o e n hb hx
   exact ⟨sl,(hs.2 b (Nat.ne_of_lt (Nat.lt_of_lt_of_le (Heap.lt_size e) I.ok.above))).trans e1⟩
 . obtain ⟨o',e1⟩:=I.base.there b o e hx
   exact ⟨o',(hs.2 b (Nat.ne_of_lt (Nat.lt_of_lt_of_le (Heap.lt_size e) I.ok.above))).trans e1⟩
 . by_cases hij:i=j
   . subst hij
     rw [List.getElem?_set_self hiσ] at e2
     cases e2
   . rw [List.getElem?_set_ne (Ne.symm hij)] at e2
     obtain ⟨u',r',q⟩:=hl i y v' e1 e2 e3
     refine ⟨u',r',?_⟩
     rcases q with ⟨k,e⟩ | ⟨k,c,e,z⟩
     . refine .inl ⟨k,?_⟩
       have:y ≠ n:=fun e=>hij (b0x hN e1 (e ▸ hj))
       simp [this,e]
     . exact .inr ⟨k,c,e,z.sameBut hs (cne y c e)⟩
 . obtain ⟨w',z⟩:=I.cell y c e
   exact ⟨w',z.sameBut hs (cne y c e)⟩
 . obtain ⟨e,n,ne,nf,d⟩:=I.pin p hp
   exact ⟨(hs.2 p.1 ne).trans e,n,ne,nf,d⟩
end
noncomputable def a9O (j:Nat) (D:Ends):Ends:={ nx:=fun σ H=>D.nx (σ.set j none) H,rt:=D.rt,bk:=fun σ H=>D.bk (σ.set j none) H,ct:=fun σ H=>D.ct (σ.set j none) H }
section
variable {X:Cx} {C CS fi:Addr} {fld:Str} {pins:List (Addr × Obj)} {σ:St} {H:Hp} {s s':Shared} {E:XK} {D:Ends} {cn n:Str} {p3 p4:Pos} {b₀:Stmt} {suite:List Stmt} {tb:TS} {j:Nat} {e:Value}
theorem c6G (hst:X.stack=X.env::X.outer/\X.env.frame=some X.env.locals) (T:a5K X.K C CS fi fld) (hgc:Gl X cn) (hmc:X.mg cn=some (.ref C)) (hN:X.N.Nodup) (hj:X.N[j]? = some n) (hn:X.env.scope.names.lookup n=some .local)
  (hs:∀ ea,PSs (X.marked ea) (b₀::suite) tb) (I0:Inv X pins σ H s) (hq:CX1 X.prog X.w X.stack H s E e s')
  (hE:∀ ev H',E ev none H'->∃ ea dx,ev=.ref ea/\H' ea=some (.ext (ExcAt ea C dx))/\tb (a9O j D) (σ.set j (some (.ref ea))) H') (hdb:(cn==("__debug__" : Str))=false:=by decide) :
  wpAny (model X.prog X.w) X.A (noteFrame e X.env) (fun _ s₂=>wpAny (model X.prog X.w) X.A (setFlight e none) (fun _ s₃=>wpAny (model X.prog X.w) X.A (handleBy e X.env [.ExceptHandler (some (.Name cn p3)) (some n) (b₀::suite) p4]) (SP X pins D) X.xe s₃) X.xe s₂) X.xe s':=by
 obtain ⟨ea,T1,C',dx,H',rfl,os,bare,un,hok,fl,h1,hT,hsz,hw⟩:=hq
 obtain ⟨ea',dx',ev,h2,ht⟩:=hE _ _ hw
 cases ev
 have I1:Inv X pins σ H' s':=I0.c3q (ch:=[]) os un hok bare fun b z=>absurd z (by simp)
 have eC:C'=C:=by
  obtain ⟨vs,q1⟩:=fl.at
  obtain ⟨vs',q2⟩:=(I1.hok ea _ h2).1
  rw [q1] at q2
  injection q2 with q2
  injection q2 with q2
  injection q2
 subst eC
 have hl:=I1.stack
 have hfr:=I1.ok.frames
 rw [hst.1] at hl hfr
 refine b9N hfr hl hst.2 fl fun h' T' hT' k1 k2 fl2=>?_
 have a1:=I0.above hsz
 have I2:=I1.flew (h':=h') (ch:=[T1]) (C:=C') (dx:=dx) h1 ⟨fun _ z=>(by cases z),fun _ z=>(by cases z),fun _ _ z=>(by cases z),fun _ z=>(by cases z)⟩ (fun b hb=>by rw [mem_singleton.mp hb];exact hT) (fun b hb=>by rw [mem_singleton.mp hb];exact a1)
  (fun b o hb hc hnf q=>k1 b o hb (fun z=>hc (by simp [z])) (by rw [<-hst.1];exact hnf) q) (fun b o hb q=>k2 b o (by rw [<-hst.1];exact hb) q) fl2.at
 have e0:upd H' ea (.ext (ExcAt ea C' dx))=H':=by
  funext b
  by_cases hb:b=ea
  . subst hb;rw [E7,h1]
  . rw [s9 hb]
 rw [e0] at I2
 have I3:=I2.marked ea
 obtain ⟨nm,qn,N,bs,sn,sub,ab,col,dd,c0,c1,c2,c3,c5,hC,_,_⟩:=T.cls
 refine wpAny_handleBy_cons (codeAny_handlers_test (show wpAny (model (X.marked ea).prog (X.marked ea).w) (X.marked ea).A (eval (.Name cn p3) (X.marked ea).env) _ _ _ from a6h I3 hgc hmc ?_ hdb)) (by intro q;cases q)
 obtain ⟨vs,q1⟩:=fl2.at
 refine wpAny_excMatches_sub_self (I2.kIn _ _ hC) q1 rfl (by simp [V2]) ?_
 refine codeAny_handlers_suite_as ?_
 obtain ⟨us,oT,ts,g1,g2,g3,g4,g5,g6⟩:=fl2
 refine wpAny_setFlight_none g1 rfl g2 g4 g5 (Array.getElem?_eq_some_iff.mp g6).1 ?_
 have a2:=I1.above hT'
 have nT':H' T'=none:=I1.hok.fresh hT'
 have I4:=I3.turned (h':=h'.update T' (Obj.mapFields (·.setIfInBounds 3 .none))) (t':=s'.toks) (it:=T') (fun b o hb q=>by rw [Heap.get?_update_other _ _ (Ne.symm hb)];exact q) nT' a2.2.1 (.inr a2.1) a2.2.2.1 a2.2.2.2
 refine a4k (X:=X.marked ea) I4 hN hj (.inl hn) (v:=.ref ea) (u:=.ref ea) rfl (fun s5 I5=>?_) (.inr hn)
 refine wpAny_mono (hs ea pins s5 _ H' (a9O j D) I5 ht) (fun f s6 q=>?_) fun _ _ z=>False.elim z
 have fin:∀ {σ':St} {H3:Hp} {Q:Unit->Shared->Prop},Inv (X.marked ea) pins σ' H3 s6->(∀ s7,Inv X pins (σ'.set j none) H3 s7->Q () s7)->wpAny (model X.prog X.w) X.A (do bindName X.env n .none;unbindBehindTheSuite X.env n p4) Q X.xe s6 :=
  fun {σ' H3 Q} J k=>c4J (J.unmarked I0.ok) hN hj hn k
 cases f with
 | next=>obtain ⟨σ',H3,J,q⟩:=q;exact fin J fun s7 J7=>⟨_,H3,J7,q⟩
 | brk=>obtain ⟨σ',H3,J,q⟩:=q;exact fin J fun s7 J7=>⟨_,H3,J7,q⟩
 | cont=>obtain ⟨σ',H3,J,q⟩:=q;exact fin J fun s7 J7=>⟨_,H3,J7,q⟩
 | ret u=>obtain ⟨v,σ',H3,J,r,q⟩:=q;exact fin J fun s7 J7=>⟨v,_,H3,J7,r,q⟩
end
noncomputable def c5m (C:Addr) (nx:Ends->St->VK) (j:Nat) (sp:Sp) (t:TA) (tb:TS):TS:=fun D σ H=>t σ H fun vs H1=>sp vs H1 (fun v H2=>nx D σ v H2) (fun ev _ H2=>∃ ea dx,ev=.ref ea/\H2 ea=some (.ext (ExcAt ea C dx))/\tb (a9O j D) (σ.set j (some (.ref ea))) H2)
noncomputable def nxE:Ends->St->VK:=fun D σ _ H=>D.nx σ H
section
variable {X:Cx} {C CS fi f:Addr} {fld x y cn n:Str} {fd:FuncData} {ps:List Str} {sp:Sp} {k i j:Nat} {e:Expr} {es:List Expr} {t:TA} {tb:TS} {p p1 p2 p3 p4 p5 pos:Pos} {b₀:Stmt} {suite:List Stmt}
end
noncomputable def isExc (C:Addr):PyData->Bool
 | .dict [(.tuple [.int n,.str _],_)]=>n==((C:Nat):Int)
 | _=>false
noncomputable def b1j (j:Nat):Out->Option Out
 | .next ds=>some (.next (ds.set j none))
 | .brk ds=>some (.brk (ds.set j none))
 | .cont ds=>some (.cont (ds.set j none))
 | .ret pv=>some (.ret pv)
 | .up _=>none
noncomputable def c7u (C:Addr) (i j:Nat) (FX:List PyData->Option (PV ⊕ PyData)) (Fl:Ds->Option (List PyData)) (Gb:Ds->Option Out):Ds->Option Out:=fun ds=>(Fl ds).bind fun l=>(FX l).bind fun a=>match a with
 | .inl pv=>some (.next (ds.set i (some (.dat pv.d))))
 | .inr x=>if isExc C x=true then (Gb (ds.set j (some (.dat x)))).bind (b1j j) else none
theorem DS.unset {K:PySem.W.Frag} {O:List Addr} {i4 H:Hp} {as:As} {σ:St} {ds:Ds} (S:DS K O i4 as σ H ds) (i:Nat):DS K O i4 (as.set i none) (σ.set i none) H (ds.set i none):=by
 have sub:∀ b,some b ∈ as.set i none->some b ∈ as:=fun b z=>by
  rcases mem_or_eq_of_mem_set z with z | z
  . exact z
  . cases z
 refine ⟨by simp [S.ls],by simp [S.la],S.same,fun a h=>S.new a (sub a h),S.dom,fun j k a h1 h2=>?_,fun j pv hj=>?_⟩
 . have f:∀ j,(as.set i none)[j]? = some (some a)->as[j]? = some (some a):=fun j z=>by
     rw [List.getElem?_set] at z
     split at z
     . split at z <;> cases z
     . exact z
   exact S.inj j k a (f j h1) (f k h2)
 . by_cases hij:i=j
   . subst hij
     rw [List.getElem?_set,if_pos rfl] at hj
     split at hj <;> cases hj
   . rw [List.getElem?_set_ne hij] at hj
     have sl:=S.slot j pv hj
     rw [List.getElem?_set_ne hij,List.getElem?_set_ne hij]
     cases pv with
     | dat d=>obtain ⟨v,e1,h⟩:=sl;exact ⟨v,e1,h.same (G7 (j4.refl _) sub)⟩
     | own l'=>obtain ⟨a,xs,e1,e2,e3,h⟩:=sl;exact ⟨a,xs,e1,e2,e3,h.same (G7 (j4.refl _) sub)⟩
theorem Dt.isExc {K:PySem.W.Frag} {H:Hp} {C:Addr} {v:V} {x:PyData} (h:Dt K H v x) (e:isExc C x=true):∃ ea dx,v=.ref ea/\H ea=some (.ext (ExcAt ea C dx)):=by
 cases h with
 | exc c nf h1 h2 t =>
  rename_i ea C' dx fld v d
  have e':(((C':Nat):Int)==((C:Nat):Int))=true:=e
  have:C'=C:=Int.ofNat.inj (beq_iff_eq.mp e')
  subst this
  exact ⟨ea,dx,rfl,h1⟩
 | _=>cases e
theorem a4T.hand {X:Cx} {O:List Addr} {i4:Hp} {D:Ends} {o o':Out} {j:Nat} {ea:Addr} (h:a4T X O i4 D o') (e:b1j j o=some o'):a4T (X.marked ea) O i4 (a9O j D) o:=by
 cases o with
 | next ds=>cases e;exact fun as σ H S=>h _ _ _ (S.unset j)
 | brk ds=>cases e;exact fun as σ H S=>h _ _ _ (S.unset j)
 | cont ds=>cases e;exact fun as σ H S=>h _ _ _ (S.unset j)
 | ret pv=>cases e;exact fun v H s r=>h v H s r
 | up x=>cases e
section
variable {X:Cx} {C CS fi f:Addr} {fld x y cn n:Str} {fd:FuncData} {ps:List Str} {FX:List PyData->Option (PV ⊕ PyData)} {k i j:Nat} {e:Expr} {es:List Expr} {t:TA} {tb:TS} {Fl:Ds->Option (List PyData)} {Gb:Ds->Option Out} {p p1 p2 p3 p4 p5 pos:Pos} {b₀:Stmt} {suite:List Stmt}
end
theorem c4C {h:Heap} {a:Addr} {m:Str->Option Value} {x:Str} {u:Value} (N:h.Ns1 a m) (e:m x=some u):∃ o,h.get? a=some o/\PySem.W.lookIn x o=some (some u):=by
 obtain ⟨o,es,ep,ho,hd,hk,hu,hm⟩:=N
 refine ⟨o,ho,?_⟩
 unfold PySem.W.lookIn
 rw [hd]
 have z:=hm x
 rw [e] at z
 unfold nsFind findBy at z
 rw [<-Array.find?_toList] at z
 cases q:es.toList.find? (·.key.isStr x) with
 | none=>rw [q] at z;cases z
 | some d =>
  rw [q] at z
  have z':some d.val=some u:=z
  dsimp only
  rw [q]
  exact congrArg some z'
noncomputable def b5n (fld:Str):PyData->Option PyData
 | .dict [(.tuple [.int _,.str f],d)]=>if f=fld then some d else none
 | _=>none
noncomputable def b5l (fld:Str) (F:Ds->Option PV):Ds->Option PV:=fun ds=>(F ds).bind fun x=>(b5n fld x.d).bind fun d=>some (.dat d)
noncomputable def c1n (K:PySem.W.Frag) (fld:Str) (t:TE):TE:=fun σ H Q=>t σ H fun x H1=>∃ ea C dx v,x=.ref ea/\a2z K C/\PySem.W.findIn K (.ref C) fld=some none/\H1 ea=some (.ext (ExcAt ea C dx))/\H1 dx=some (.xd [(fld,v)])/\Q v H1
section
variable {X:Cx} {fr:Bool} {e c:Expr} {te:TE} {F:Ds->Option PV} {fld x:Str} {p pos:Pos}
theorem c5R (he:PE X e te) (hb:attributeBase e fld X.env (eval e X.env)=eval e X.env:=by rfl):PE X (.Attribute e fld pos) (c1n X.K fld te):=by
 intro pins s σ H Q I h
 refine c4Y hb (thn (he pins s σ H _ I h) fun u s1 ⟨y,H1,I1,ry,ea,C,dx,v,ey,hC,hnf,h1,h2,q⟩=>?_)
 subst ey
 obtain rfl:u=Value.ref ea:=ry
 obtain ⟨vs,hx⟩:=(I1.hok ea _ h1).1
 obtain ⟨mA,N,r⟩:=I1.hok dx _ h2
 obtain ⟨w,hw,rw'⟩:=b2G.some_of (v:=v) (o:=mA fld) (by have:=r fld;simpa [List.lookup] using this)
 obtain ⟨o,ho,hlk⟩:=c4C N hw
 exact c2v hC I1.kIn (ox:=_) (od:=some o) ⟨hx,rfl,rfl,ho⟩ (PySem.W.findObj_own hC.hd hnf rfl hlk) (c0t rw') ⟨v,H1,I1.tok _,rw',q⟩
theorem c5D (he:PX X fr e te F) (hb:attributeBase e fld X.env (eval e X.env)=eval e X.env:=by rfl):PX X fr (.Attribute e fld pos) (c1n X.K fld te) (b5l fld F):=⟨c5R he.p hb,by
 intro O i4 as σ H ds pv Q S hf q
 unfold b5l at hf
 cases h1:F ds with
 | none=>rw [h1] at hf;cases hf
 | some w =>
  rw [h1] at hf
  simp only [Option.bind_some] at hf
  refine he.t O i4 as σ H ds w _ S h1 fun v H1 e1 r1=>?_
  have dt:=r1.dt S.dm
  revert hf
  generalize w.d=d at dt
  intro hf
  cases dt with
  | exc cc nf g1 g2 t =>
   rename_i ea C dx f' v' d'
   have hf':((if f'=fld then some d' else none).bind fun d=>some (PV.dat d))=some pv:=hf
   by_cases hff:f'=fld
   . subst hff
     rw [if_pos rfl] at hf'
     cases hf'
     exact ⟨ea,C,dx,v',rfl,cc,nf,t7 _ _ g1,t7 _ _ g2,q _ H1 e1 t⟩
   . rw [if_neg hff] at hf';cases hf'
  | _=>cases hf⟩
theorem c3I (x:PyData) (G:Ds->Option Out):R4 (some (.up x)) G=some (.up x):=rfl
theorem b8g (C:Addr) (f:Str) (d:PyData):isExc C (a0d C f d)=true:=beq_self_eq_true _
theorem b3O (C:Addr) (f:Str) (d:PyData):b5n f (a0d C f d)=some d:=if_pos rfl
theorem b8f (C:Addr) (f:Str) (d:PyData):q9 (a0d C f d)=false:=rfl
noncomputable def a7o (C:Addr) (b:Bool) (F:Ds->Option PV):Ds->Option PV:=fun ds=>(F ds).bind fun x=>if isExc C x.d=true then some (.dat (.bool b)) else if q9 x.d=true then some (.dat (.bool false)) else none
noncomputable def c5C (K:PySem.W.Frag) (C:Addr) (vc:V) (b:Bool):List V->Hp->VK->Prop:=fun xs H Q=>∃ y d,xs=[y,vc]/\Dt K H y d/\((isExc C d=true/\Q (.bl b) H)\/(d=.none/\Q (.bl false) H))
theorem c2C {C:Addr} {vc:V} {uc:Value} {b:Bool} (hv:∀ u,RelV vc u->u=uc) (h1:PySem.W.kitOne X.K (.ref C) uc=some b) (h0:PySem.W.kitOne X.K (.type "NoneType") uc=some false):O4 X (.builtin "isinstance") (c5C X.K C vc b):=by
 intro pins s σ H xs us Q I r h
 obtain ⟨y,d,rfl,hd,q⟩:=h
 obtain ⟨u,c,rfl,rx,rc⟩:=vals2 r
 obtain rfl:=hv c rc
 rcases q with ⟨hx,q⟩ | ⟨rfl,q⟩
 . cases hd with
   | exc cc nf g1 g2 t =>
    rename_i ea C' dx f' v' d'
    have e':(((C':Nat):Int)==((C:Nat):Int))=true:=hx
    have:C'=C:=Int.ofNat.inj (beq_iff_eq.mp e')
    subst this
    cases rx
    obtain ⟨mA,⟨ob,es,ep,ho,_⟩,_⟩:=I.hok _ _ g2
    exact PySem.W.kia_one (b4V cc) I.kIn ⟨(I.hok _ _ g1).1,ob,ho⟩ h1 (fun z=>nomatch z) fun tk=>⟨.bl _,H,I.tok tk,rfl,q⟩
   | _=>cases hx
 . cases hd
   cases rx
   exact PySem.W.kia_one PySem.W.kitx_none I.kIn True.intro h0 (fun z=>nomatch z) fun tk=>⟨.bl _,H,I.tok tk,rfl,q⟩
theorem a5Z {C:Addr} {vc:V} {uc:Value} {b:Bool} (hvu:∀ u,RelV vc u->u=uc) (h1:PySem.W.kitOne X.K (.ref C) uc=some b) (h0:PySem.W.kitOne X.K (.type "NoneType") uc=some false) (hg:Gl X x) (hm:X.mg x=none) (hv:bootBuiltins x=some (.builtin "isinstance")) (h:PX X fr e te F) (hc:PE X c (tC vc)) (hn:x ≠ "__name__":=by decide) (hdb:(x==("__debug__" : Str))=false:=by decide)
  (hs1:starEach [e,c] X.env=(false,eval e X.env)::starEach [c] X.env:=by rfl) (hs2:starEach [c] X.env=(false,eval c X.env)::starEach [] X.env:=by rfl) (hpl:(backTo pos (starEach [c] X.env)).any (·.1)=false:=by rfl) :
  PX X fr (.Call (.Name x p) [e,c] [] pos) (tCB (c5C X.K C vc b) (a1w te (a1w (tC vc) a8j))) (a7o C b F) :=
 ⟨b0v (c2C hvu h1 h0) hg hm hv (a0I h.p (a0I hc a6b hs2) hs1) hn hdb hs1 hpl,by
 intro O i4 as σ H ds pv Q S hf q
 unfold a7o at hf
 cases hF:F ds with
 | none=>rw [hF] at hf;cases hf
 | some w =>
  rw [hF] at hf
  simp only [Option.bind_some] at hf
  refine h.t O i4 as σ H ds w _ S hF fun v H1 e1 r1=>?_
  refine ⟨v,w.d,rfl,(r1.dt S.dm).same t7,?_⟩
  split at hf
  . rename_i hx
    cases hf
    exact .inl ⟨hx,q _ H1 e1 (Dt.bl _)⟩
  . split at hf
    . rename_i hx
      cases hf
      refine .inr ⟨?_,q _ H1 e1 (Dt.bl _)⟩
      revert hx
      generalize w.d=d
      intro hx
      unfold q9 at hx
      split at hx
      . rfl
      . cases hx
    . cases hf⟩
end
noncomputable def a4c (P:V->Prop) (C:Addr) (fld:Str):Sp:=fun vs H Q _=>∃ ea v,vs=[.ref ea,v]/\P v/\H ea=some (.ext (E4 ea C none))/\∀ dx,H dx=none->dx ≠ ea->Q .non (upd (upd H ea (.ext (E4 ea C (some dx)))) dx (.xd [(fld,v)]))
section
variable {X:Cx} {C CS fi:Addr} {fld prm x:Str} {k:Nat} {fd:FuncData} {P:V->Prop} {p pos cpos:Pos} {e:Expr} {t:TA}
theorem c1y {pins:List (Addr × Obj)} {σ:St} {H:Hp} {s:Shared} {Q:VK} {u:Value} {v:V} (T:a5K X.K C CS fi fld) (F:m6 X.prog X.w X.K X.mg X.base CX0 k fi fd ["self",prm] (a4c P C fld)) (hr:M7 (k + 1) X.A) (hb:Binds X.K fd ["self",prm] []) (hP:P v)
  (I:Inv X pins σ H s) (r:RelV v u) (h:∀ ea dx,H ea=none->H dx=none->dx ≠ ea->Q (.ref ea) (upd (upd H ea (.ext (E4 ea C (some dx)))) dx (.xd [(fld,v)]))) :
  wpAny (model X.prog X.w) X.A (call (.ref C) [u]) (EP X pins σ Q) X.xe s:=by
 obtain ⟨nm,qn,N,bs,sn,sub,ab,col,dd,k0,k1,k2,k3,k5,hC,hok,hin⟩:=T.cls
 obtain ⟨oi,hoi,hfc⟩:=T.fn
 obtain ⟨hp,gs,dr,tk,os⟩:=s
 have nsN:hp.Ns N (hp.nsMap N):=.of_isNs (PySem.W.isNs_of_in I.kIn hok)
 refine c0G PySem.F.excBase_ValueError (PySem.W.tail_of_in I.kIn T.tail) (I.kIn _ _ hC) nsN (c7m I.kIn nsN hin) (I.kIn _ _ hoi) hfc (by rw [sizeLine_eq];simp) fun h' e hm=>?_
 obtain ⟨t,ht,_,_⟩:=hm.there
 obtain ⟨hH,I2⟩:=I.c7s (t':=tk) (D:=e) (o:=.ext (E4 e C none)) hm.keeps hm.new (b0Q ⟨t,ht⟩)
 have r2:Vals [V.ref e,v] [Value.ref e,u]:=.cons rfl (.cons r .nil)
 have sp:a4c P C fld [.ref e,v] (upd H e (.ext (E4 e C none))) (fun y H2=>y=.non/\Q (.ref e) H2) E0:=⟨e,v,rfl,hP,E7,fun dx hdx hne=>⟨rfl,by
  rw [c3w]
  rw [s9 hne] at hdx
  exact h e dx hH hdx hne⟩⟩
 refine wpAny_call (codeAny_mono (F.run _ X.stack _ _ ⟨[.ref e,u],[]⟩ [.ref e,u] _ _ E0 (hr.make C [u] []) (I2.c2x.make C [u] []) (hb _ [.ref e,u] I2.kIn rfl) r2 sp) fun r s' hq'=>?_)
 cases r with
 | error e=>exact hq'.elim
 | ok fl =>
  cases fl with
  | ret u' =>
   obtain ⟨y,H',I3,ry,ev,q3⟩:=I2.after hq'
   subst ev
   exact ⟨ry,⟨V.ref e,H',I3,rfl,q3⟩⟩
  | next=>exact False.elim hq'
  | brk=>exact False.elim hq'
  | cont=>exact False.elim hq'
noncomputable def b3X (P:V->Prop) (C:Addr) (fld:Str) (t:TA):TE:=fun σ H Q=>t σ H fun vs H1=>∃ v,vs=[v]/\P v/\∀ ea dx,H1 ea=none->H1 dx=none->dx ≠ ea->Q (.ref ea) (upd (upd H1 ea (.ext (E4 ea C (some dx)))) dx (.xd [(fld,v)]))
theorem c4b (T:a5K X.K C CS fi fld) (F:m6 X.prog X.w X.K X.mg X.base CX0 k fi fd ["self",prm] (a4c P C fld)) (hr:M7 (k + 1) X.A) (hb:Binds X.K fd ["self",prm] []) (hkp:PySem.W.keepIn X.K (.ref C)=true) (hg:Gl X x) (hm:X.mg x=some (.ref C)) (ha:PA X [e] t)
  (hdb:(x==("__debug__" : Str))=false:=by decide) (he:starEach [e] X.env=(false,eval e X.env)::starEach [] X.env:=by rfl) (hpl:(backTo cpos (starEach [] X.env)).any (·.1)=false:=by rfl):PE X (.Call (.Name x p) [e] [] cpos) (b3X P C fld t):=by
 intro pins s σ H Q I h
 refine wpAny_Call_Name_kw (a6h I hg hm ?_ hdb)
 refine PySem.W.callWith_K (h₀:=X.base) I.ok.mod.kin hkp (thn (ha cpos pins s σ H _ I h) fun us s1 ⟨vs,H1,I1,r,v,ev,hP,q⟩=>⟨I1.kIn,?_⟩) he hpl
 subst ev
 obtain ⟨u,rfl,ru⟩:=vals1 r
 exact c1y T F hr hb hP I1 ru q
theorem b9m (T:a5K X.K C CS fi fld) (W:Addr->Addr->V->Hp->Prop) (hc:X.A.handled=none) (he:PE X e (b3X P C fld t))
  (hxe:∀ pins σ H s ea dx v,Inv X pins σ H s->H ea=some (.ext (E4 ea C (some dx)))->H dx=some (.xd [(fld,v)])->W ea dx v H->X.xe (.ref ea) s) :
  PS X (.Raise (some e) none pos) (fun _ σ H=>b3X P C fld t σ H fun y H2=>∃ ea dx v,y=.ref ea/\H2 ea=some (.ext (E4 ea C (some dx)))/\H2 dx=some (.xd [(fld,v)])/\W ea dx v H2):=by
 intro pins s σ H D I h
 obtain ⟨nm,qn,N,bs,sn,sub,ab,col,dd,k0,k1,k2,k3,k5,hC,_,_⟩:=T.cls
 rw [arm_exec_Raise]
 refine wpAny_bind (wpAny_standAt (b9i (C:=C) (nm:=nm) (qn:=qn) (N:=N) (bs:=bs) (tl:=.ref CS::V2) (hd:=true) (sn:=sn) (sub:=sub) (ab:=ab) (col:=col) (dd:=dd) (k0:=k0) (k1:=k1) (k2:=k2) (k3:=k3) (k5:=k5) (nid:="ValueError.__new__") (by simp [V2]) hc ?_))
 refine wpAny_bind (thn (he pins s σ H _ I h) fun v s1 ⟨y,H1,I1,ry,ea,dx,v',ey,h1,h2,hw⟩=>wpAny_bind (wpAny_standAt (wpAny_pure ?_)))
 subst ey
 obtain rfl:v=Value.ref ea:=ry
 exact ⟨ea,some dx,rfl,I1.kIn _ _ hC,(I1.hok ea _ h1).1,hxe pins σ H1 s1 ea dx v' I1 h1 h2 hw⟩
end
noncomputable def b2y (pd:PyData->Bool) (C:Addr) (fld:Str) (F:Ds->Option (List PyData)):Ds->Option Out:=fun ds=>(F ds).bind fun l=>match l with
 | [d]=>if pd d=true then some (.up (a0d C fld d)) else none
 | _=>none
section
variable {X:Cx} {C CS fi:Addr} {fld prm x:Str} {k:Nat} {fd:FuncData} {p pos cpos:Pos} {e:Expr} {ta:TA} {Fl:Ds->Option (List PyData)} {fr:Bool} {P:V->Prop} {pd:PyData->Bool}
noncomputable def c3L (P:V->Prop) (X:Cx) (C:Addr) (fld:Str) (ta:TA):TS:=fun _ σ H=>b3X P C fld ta σ H fun y H2=>∃ ea dx v,y=.ref ea/\H2 ea=some (.ext (E4 ea C (some dx)))/\H2 dx=some (.xd [(fld,v)])/\∀ pins σ s,Inv X pins σ H2 s->X.xe (.ref ea) s
theorem a6E (hPd:∀ H v d,Dt X.K H v d->pd d=true->P v) (T:a5K X.K C CS fi fld) (TC:a2z X.K C) (F:m6 X.prog X.w X.K X.mg X.base CX0 k fi fd ["self",prm] (a4c P C fld)) (hr:M7 (k + 1) X.A) (hb:Binds X.K fd ["self",prm] []) (hkp:PySem.W.keepIn X.K (.ref C)=true) (hc:X.A.handled=none) (hg:Gl X x) (hm:X.mg x=some (.ref C)) (ha:PAX X fr [e] ta Fl)
  (hdb:(x==("__debug__" : Str))=false:=by decide) (he:starEach [e] X.env=(false,eval e X.env)::starEach [] X.env:=by rfl) (hpl:(backTo cpos (starEach [] X.env)).any (·.1)=false:=by rfl) :
  PSX X (.Raise (some (.Call (.Name x p) [e] [] cpos)) none pos) (c3L P X C fld ta) (b2y pd C fld Fl):=by
 refine ⟨b9m T (fun ea dx v H2=>∀ pins σ s,Inv X pins σ H2 s->X.xe (.ref ea) s) hc (c4b T F hr hb hkp hg hm ha.p hdb he hpl) fun pins σ H s ea dx v I _ _ w=>w pins σ s I,?_⟩
 intro O i4 as σ H ds D o S hf q
 unfold b2y at hf
 cases h1:Fl ds with
 | none=>rw [h1] at hf;cases hf
 | some l =>
  rw [h1] at hf
  simp only [Option.bind_some] at hf
  split at hf
  . rename_i d
    split at hf
    . rename_i hpd
      cases hf
      refine ha.t O i4 as σ H ds [d] _ S h1 fun vs H1 e1 r1=>?_
      obtain ⟨v,rfl,hv⟩:=r1.inv1
      refine ⟨v,rfl,hPd _ _ _ hv hpd,fun ea dx n1 n2 hne=>⟨ea,dx,v,rfl,?_,E7,?_⟩⟩
      . rw [s9 (Ne.symm hne),E7]
      . have sm1:j4 H1 (upd (upd H1 ea (.ext (E4 ea C (some dx)))) dx (.xd [(fld,v)])):=fun b u z=>by
          rw [s9 (M3 z n2),s9 (M3 z n1)];exact z
        have sm0:j4 i4 H1:=S.same.trans e1
        refine q ea _ (sm0.trans sm1) (sm0.free n1) ⟨C,dx,fld,v,d,rfl,TC,T.nof,by rw [s9 (Ne.symm hne),E7],E7,fun z=>?_,hv.same (a2g fun b u z1 z2 z3=>⟨fun z=>?_,by simp,sm1 b u z3⟩)⟩
        . obtain ⟨u,z⟩:=S.dom dx z
          rw [sm0.free n2] at z;cases z
        . rcases mem_cons.mp z with z | z
          . rw [z,n1] at z3;cases z3
          . exact z1 z
    . cases hf
  . cases hf
end
noncomputable def b5E (v:V):Prop:=∃ i:Int,v=.int i/\i.natAbs.log2 < 1920
noncomputable def a3m:PyData->Bool
 | .int i=>decide (i.natAbs.log2 < 1920)
 | _=>false
theorem b0l {K:PySem.W.Frag} (H:Hp) (v:V) (d:PyData) (h:Dt K H v d) (e:a3m d=true):b5E v:=by
 cases h with
 | int i=>exact ⟨_,rfl,of_decide_eq_true e⟩
 | _=>cases e
section
variable {X:Cx}
noncomputable def c7F (i:Nat):TE:=fun σ H Q=>∃ n:Int,σ[i]? = some (some (.int n))/\n.natAbs.log2 < 1920/\∀ x:Str,Q (.str x) H
end
section
variable {M:Model} {A:Around} {E:Value->Shared->Prop} {nm q nm2 qq2:Str} {C N C2 N2:Addr} {bs bm bs2 bm2:List Value} {hdct hdct2:Bool} {sn sn2:List Str} {sub sub2:List Value} {ab ab2:Bool} {col col2:Option Bool} {dd dd2:Option Addr} {k0 k1 k2 k3 k5 l0 l1 l2 l3 l5:Option Value} {newId newId2:String}
end
section
variable {X:Cx} {C CS fi:Addr} {fld:Str} {pins:List (Addr × Obj)} {σ:St} {H:Hp} {s s':Shared} {E:XK} {D:Ends} {cn n:Str} {p3 p4:Pos} {b₀:Stmt} {suite:List Stmt} {tb:TS} {j:Nat} {e:Value}
end
section
variable {X:Cx} {C CS fi f:Addr} {fld x y cn n:Str} {fd:FuncData} {ps:List Str} {sp:Sp} {k i j:Nat} {e:Expr} {es:List Expr} {t:TA} {tb:TS} {p p1 p2 p3 p4 p5 pos:Pos} {b₀:Stmt} {suite:List Stmt}
end
noncomputable def b4e (C:Addr) (j:Nat) (FX:List PyData->Option (PV ⊕ PyData)) (Fl:Ds->Option (List PyData)) (Gb:Ds->Option Out):Ds->Option Out:=fun ds=>(Fl ds).bind fun l=>(FX l).bind fun a=>match a with
 | .inl _=>some (.next ds)
 | .inr x=>if isExc C x=true then (Gb (ds.set j (some (.dat x)))).bind (b1j j) else none
section
variable {X:Cx} {C CS fi f:Addr} {fld x y cn n:Str} {fd:FuncData} {ps:List Str} {FX:List PyData->Option (PV ⊕ PyData)} {k i j:Nat} {e:Expr} {es:List Expr} {t:TA} {tb:TS} {Fl:Ds->Option (List PyData)} {Gb:Ds->Option Out} {p p1 p2 p3 p4 p5 pos:Pos} {b₀:Stmt} {suite:List Stmt}
end
section
variable {X:Cx} {fr:Bool} {x:Str} {p pos tpos:Pos} {e:Expr} {te:TE} {F:Ds->Option PV}
end
section
variable {X:Cx}
theorem c4a {a b:Str} {j j2:Nat} {v:Expr} {p1 p2 p3 pos:Pos} (i:Nat) (hv:PE X v (Z5 i)) (ha:a.length<=1000) (hb:b.length<=1000):PE X (.JoinedStr [.Constant (.str a) j p1,.FormattedValue v (-1) none p2,.Constant (.str b) j2 p3] pos) (c7F i):=by
 intro pins s σ H Q I h
 obtain ⟨n,hn,hs,q⟩:=h
 refine JoinedStr_many (joinParts_cons ?_)
 refine Calls.Constant_str ⟨?_,joinParts_cons ?_⟩
 . show (Str.empty++a).length<=sizeLine
   rw [strLen_append,sizeLine_eq]
   show 0 + a.length<=_
   omega
 . refine FormattedValue_plain (thn (hv pins _ σ H (fun x H1=>x=.int n/\H1=H) (I.tok _) ⟨_,hn,rfl,rfl⟩) fun u s1 ⟨x,H1,I1,r1,q1⟩=>?_)
   obtain ⟨rfl,rfl⟩:=q1
   obtain ⟨t,rfl⟩:=r1
   have L:(Str.empty++a++Str.ofString (toString n)).length<=10000:=by
    have e:=int_text_length_le (k:=1920) (by decide) hs
    rw [strLen_append,strLen_append,PySem.ofString_length]
    have z:Str.empty.length=0:=rfl
    omega
   have L2:(Str.empty++a++Str.ofString (toString n)++b).length<=sizeLine:=by
    rw [strLen_append,sizeLine_eq]
    omega
   refine formatField_int_small hs ⟨by rw [sizeLine_eq];omega,joinParts_cons ?_⟩
   exact Calls.Constant_str ⟨L2,joinParts_nil ⟨.str _,H1,((I1.tok _).tok _).tok _,⟨_,rfl⟩,q _⟩ L2⟩
theorem c3O {K':PySem.W.Frag} {fr:Bool} {e:Expr} {te:TE} {F:Ds->Option PV} {fld:Str} {pos:Pos} (eK:X.K=K') (he:PX X fr e te F) (hb:attributeBase e fld X.env (eval e X.env)=eval e X.env:=by rfl):PX X fr (.Attribute e fld pos) (c1n K' fld te) (b5l fld F):=by
 subst eK
 exact c5D he hb
end
section
variable {X:Cx}
theorem b9S:MtR X "str.startswith" (fun x xs H Q=>∃ z y,x=.str z/\xs=[.str y]/\Q (.bl (Txt.startswith z y)) H):=by
 intro pins s σ H x xs v us Q I rx rxs h
 obtain ⟨z,y,rfl,rfl,q⟩:=h
 obtain ⟨t,rfl⟩:=rx
 obtain ⟨u,rfl,t2,rfl⟩:=vals1 rxs
 exact SC.startswith ⟨.bl _,H,I,rfl,q⟩
theorem c2a:MtR X "str.zfill" (fun x xs H Q=>∃ z i,x=.str z/\xs=[.int i]/\PadOk i=true/\Q (.str (Txt.zfill z i)) H):=by
 intro pins s σ H x xs v us Q I rx rxs h
 obtain ⟨z,i,rfl,rfl,hp,q⟩:=h
 obtain ⟨t,rfl⟩:=rx
 obtain ⟨u,rfl,t2,rfl⟩:=vals1 rxs
 exact SC.zfill hp fun t' k=>⟨.str _,H,I.tok k,⟨t',rfl⟩,q⟩
noncomputable def a2t (x y:Str):List Str:=match Builtin.Str.occurrences x y 0 x.length 1 with
 | i::_=>[Builtin.Str.strSub x 0 i,y,Builtin.Str.strSub x (i + y.length) x.length]
 | []=>[x,Str.empty,Str.empty]
theorem c4z:MtR X "str.partition" (fun x xs H Q=>∃ z y,x=.str z/\xs=[.str y]/\(y.length==0)=false/\z.length<=sizeLine/\∀ p,H p=none->Q (.ref p) (upd H p (.tup ((a2t z y).map V.str)))):=by
 intro pins s σ H x xs v us Q I rx rxs h
 obtain ⟨z,y,rfl,rfl,hy,hz,q⟩:=h
 obtain ⟨t,rfl⟩:=rx
 obtain ⟨u,rfl,t2,rfl⟩:=vals1 rxs
 refine call_meets F.slot_str_partition (typeIs_str _ _ _) F.entry_str_partition (F.args_str_partition_2 _ _) (meets_str_partition z y t t2 hy hz) ?_
 have hf:H s.heap.objs.size=none:=I.hok.fresh (Nat.le_refl _)
 have q':=q _ hf
 unfold a2t at q'
 cases ho:Builtin.Str.occurrences z y 0 z.length 1 with
 | nil =>
  rw [ho] at q'
  refine ⟨.ref s.heap.objs.size,_,I.laid (t':=s.toks + 1) (o:=.tup [.str z,.str Str.empty,.str Str.empty]) (fun b ob q=>Heap.get?_push_of_some _ q) (Nat.le_refl _) ?_,rfl,q'⟩
  exact ⟨(show 3<=sizeLine by decide),_,.cons ⟨t,rfl⟩ (.cons ⟨_,rfl⟩ (.cons ⟨_,rfl⟩ .nil)),IsTup.new _ _⟩
 | cons i r =>
  rw [ho] at q'
  refine ⟨.ref s.heap.objs.size,_,I.laid (t':=s.toks + 1 + 1) (o:=.tup [.str (Builtin.Str.strSub z 0 i),.str y,.str (Builtin.Str.strSub z (i + y.length) z.length)]) (fun b ob q=>Heap.get?_push_of_some _ q) (Nat.le_refl _) ?_,rfl,q'⟩
  exact ⟨(show 3<=sizeLine by decide),_,.cons ⟨_,rfl⟩ (.cons ⟨_,rfl⟩ (.cons ⟨_,rfl⟩ .nil)),IsTup.new _ _⟩
theorem b2P:∀ {ts:List Str} {us:List Value},Vals (ts.map V.str) us->∃ l:List (Str × Tok),us=strValues l/\l.map (·.1)=ts
 | [],_,h=>by cases h;exact ⟨[],rfl,rfl⟩
 | a::r,_,h=>by
  cases h with
  | cons h1 h2 =>
   obtain ⟨t,rfl⟩:=h1
   obtain ⟨l,rfl,e⟩:=b2P h2
   exact ⟨(a,t)::l,rfl,by rw [map_cons,e]⟩
theorem a4e:MtR X "str.join" (fun x xs H Q=>∃ z a ts,x=.str z/\xs=[.ref a]/\SqL X.K H a (ts.map V.str)/\JoinOk z ts=true/\Q (.str (Txt.join z ts)) H):=by
 intro pins s σ H x xs v us Q I rx rxs h
 obtain ⟨z,a,ts,rfl,rfl,hs,hok,q⟩:=h
 obtain ⟨t,rfl⟩:=rx
 obtain ⟨u,rfl,ru⟩:=vals1 rxs
 cases ru
 obtain ⟨its,r',pl,hz⟩:=I.list hs
 obtain ⟨l,e,hl⟩:=b2P r'
 have pl':=pl.isList
 rw [e] at pl'
 exact SC.join (l:=l) pl' hl hok fun t' k=>⟨.str _,H,I.tok k,⟨t',rfl⟩,q⟩
noncomputable def MNX (K:PySem.W.Frag) (r:V->List V->Hp->VK->Prop) (f:PyData->List PyData->Option PV):Prop :=
 ∀ (O:List Addr) (va:As) (H:Hp) (z:Str) (xs:List V) (ds:List PyData) (pv:PV) (Q:VK),Dom H va O->Dts K (hid H va O) xs ds->f (.str z) ds=some pv->(∀ w H',j4 H H'->RX K O va H H' w pv->Q w H')->r (.str z) xs H Q
variable {fr:Bool} {o e:Expr} {es:List Expr} {to:TE} {t:TA} {Fo:Ds->Option PV} {Fl:Ds->Option (List PyData)} {apos cpos:Pos} {name:Str} {id:String} {r:V->List V->Hp->VK->Prop} {f:PyData->List PyData->Option PV}
theorem c7e (slot:Slot "str" name id) (hty:typeOf (.builtin id)=pure (.type "method_descriptor")) (hm:MtR X id r) (hr:MNX X.K r f) (hs0:∀ d l pv,f d l=some pv->∃ z,d=.str z) (ho:PX X fr o to Fo) (ha:PAX X fr (e::es) t Fl)
  (hbase:attributeBase o name X.env (eval o X.env)=eval o X.env:=by rfl)
  (hfew:((backTo cpos (starEach (e::es) X.env)).all (fun x=>!x.1)&&(backToKw cpos (keywordEach [] X.env)).all (fun x=>x.1.isSome)
   && decide ((e::es).length + ([]:List Keyword).length + (if ([]:List Keyword).isEmpty then 0 else 1) < 30))=true:=by rfl)
  (hline:(apos.endLine==cpos.line)=true:=by rfl) (hs:starEach (e::es) X.env=(false,eval e X.env)::starEach es X.env:=by rfl) (hplain:(backTo cpos (starEach es X.env)).any (·.1)=false:=by rfl) :
  PX X fr (.Call (.Attribute o name apos) (e::es) [] cpos) (tBM X.K "str" r to t) (Q9 f Fo Fl) :=
 ⟨b7z F.plainAttrs_str slot hty hm ho.p ha.p hbase hfew hline hs hplain,by
 intro O i4 as σ H ds pv Q S hf q
 unfold Q9 at hf
 cases h1:Fo ds with
 | none=>rw [h1] at hf;cases hf
 | some x =>
  cases h2:Fl ds with
  | none=>rw [h1,h2] at hf;cases hf
  | some l =>
   rw [h1,h2] at hf
   simp only [Option.bind_some] at hf
   refine ho.t O i4 as σ H ds x _ S h1 fun v H1 e1 r1=>?_
   have d1:=r1.dt S.dm
   obtain ⟨z,ez⟩:=hs0 _ _ _ hf
   rw [ez] at hf d1
   cases d1
   refine ⟨rfl,ha.t O i4 as σ H1 ds l _ (S.grow e1) h2 fun vs H2 e2 r2=>?_⟩
   exact hr O (vis fr as) H2 z vs l pv Q ((S.grow e1).grow e2).dm r2 hf fun w H3 e3 r3=>q w H3 ((e1.trans e2).trans e3) (r3.back (e1.trans e2))⟩
noncomputable def a2D:PyData->List PyData->Option PV
 | .str z,[.str y]=>some (.dat (.bool (Txt.startswith z y)))
 | _,_=>none
noncomputable def findD:PyData->List PyData->Option PV
 | .str z,[.str y]=>some (.dat (.int (Txt.find z y)))
 | _,_=>none
noncomputable def a7S:PyData->List PyData->Option PV
 | .str z,[.int i]=>if PadOk i=true then some (.dat (.str (Txt.zfill z i))) else none
 | _,_=>none
noncomputable def a9C:PyData->List PyData->Option PV
 | .str z,[.str y]=>if (y.length==0)=false/\z.length<=1000000 then some (.dat (.tuple ((a2t z y).map .str))) else none
 | _,_=>none
noncomputable def strsOf:List PyData->Option (List Str)
 | []=>some []
 | .str z::r=>(strsOf r).bind fun l=>some (z::l)
 | _=>none
noncomputable def V8:PyData->List PyData->Option PV
 | .str z,[.list l]=>(strsOf l).bind fun ts=>if JoinOk z ts=true then some (.dat (.str (Txt.join z ts))) else none
 | _,_=>none
theorem b5N {d:PyData} {l:List PyData} {pv:PV} (h:a2D d l=some pv):∃ z,d=.str z:=by
 unfold a2D at h
 split at h
 . exact ⟨_,rfl⟩
 . cases h
theorem b6U {d:PyData} {l:List PyData} {pv:PV} (h:a7S d l=some pv):∃ z,d=.str z:=by
 unfold a7S at h
 split at h
 . exact ⟨_,rfl⟩
 . cases h
theorem b9v {d:PyData} {l:List PyData} {pv:PV} (h:a9C d l=some pv):∃ z,d=.str z:=by
 unfold a9C at h
 split at h
 . exact ⟨_,rfl⟩
 . cases h
theorem a1T {d:PyData} {l:List PyData} {pv:PV} (h:V8 d l=some pv):∃ z,d=.str z:=by
 unfold V8 at h
 split at h
 . exact ⟨_,rfl⟩
 . cases h
theorem c1c {K:PySem.W.Frag}:MNX K (fun x xs H Q=>∃ z y,x=.str z/\xs=[.str y]/\Q (.bl (Txt.startswith z y)) H) a2D:=by
 intro O va H z xs ds pv Q D hx hf q
 unfold a2D at hf
 split at hf
 . rename_i z' y e
   cases e
   cases hf
   obtain ⟨x,rfl,h⟩:=hx.inv1
   cases h
   exact ⟨z,y,rfl,rfl,q _ H (j4.refl H) (Dt.bl _)⟩
 . cases hf
theorem c3s {K:PySem.W.Frag}:MNX K (fun x xs H Q=>∃ z i,x=.str z/\xs=[.int i]/\PadOk i=true/\Q (.str (Txt.zfill z i)) H) a7S:=by
 intro O va H z xs ds pv Q D hx hf q
 unfold a7S at hf
 split at hf
 . rename_i z' i e
   cases e
   split at hf
   . rename_i hp
     cases hf
     obtain ⟨x,rfl,h⟩:=hx.inv1
     cases h
     exact ⟨z,i,rfl,rfl,hp,q _ H (j4.refl H) (Dt.str _)⟩
   . cases hf
 . cases hf
theorem b0U {K:PySem.W.Frag} {H:Hp}:∀ l:List Str,Dts K H (l.map V.str) (l.map .str)
 | []=>.nil
 | a::r=>.cons (.str a) (b0U r)
theorem c5d {K:PySem.W.Frag}:MNX K (fun x xs H Q=>∃ z y,x=.str z/\xs=[.str y]/\(y.length==0)=false/\z.length<=sizeLine/\∀ p,H p=none->Q (.ref p) (upd H p (.tup ((a2t z y).map V.str)))) a9C:=by
 intro O va H z xs ds pv Q D hx hf q
 unfold a9C at hf
 split at hf
 . rename_i z' y e
   cases e
   split at hf
   . rename_i hp
     cases hf
     obtain ⟨x,rfl,h⟩:=hx.inv1
     cases h
     exact ⟨z,y,rfl,rfl,hp.1,Nat.le_trans hp.2 (by decide),fun p hp=>q _ _ (j4.new hp) (a8w D hp (b0U _))⟩
   . cases hf
 . cases hf
theorem Dts.strs {K:PySem.W.Frag} {H:Hp}:∀ {l:List PyData} {xs:List V} {ts:List Str},Dts K H xs l->strsOf l=some ts->xs=ts.map V.str
 | [],_,_,.nil,e=>by cases e;rfl
 | d::r,_,ts,.cons (x:=x) h t,e=>by
  cases h with
  | str z =>
   have e':((strsOf r).bind fun l=>some (z::l))=some ts:=e
   cases h2:strsOf r with
   | none=>rw [h2] at e';cases e'
   | some js =>
    rw [h2] at e'
    cases e'
    rw [t.strs h2]
    rfl
  | _=>cases e
theorem a5P {K:PySem.W.Frag}:MNX K (fun x xs H Q=>∃ z a ts,x=.str z/\xs=[.ref a]/\SqL K H a (ts.map V.str)/\JoinOk z ts=true/\Q (.str (Txt.join z ts)) H) V8:=by
 intro O va H z xs ds pv Q D hx hf q
 unfold V8 at hf
 split at hf
 . rename_i z' l e
   cases e
   cases h1:strsOf l with
   | none=>rw [h1] at hf;cases hf
   | some ts =>
    rw [h1] at hf
    simp only [Option.bind_some] at hf
    split at hf
    . rename_i hp
      cases hf
      obtain ⟨x,rfl,h⟩:=hx.inv1
      cases h with
      | lst hs ht =>
       have ex:=ht.strs h1
       subst ex
       exact ⟨z,_,ts,rfl,rfl,t7.seq hs,hp,q _ H (j4.refl H) (Dt.str _)⟩
    . cases hf
 . cases hf
end
noncomputable def Its (x:Str):It:=⟨fun i _=>i < x.cps.size,fun i H v H'=>H'=H/\∃ c,x.cps[i]? = some c/\v=.str ⟨#[c]⟩,fun i _=>x.cps.size<=i⟩
theorem c1h {P:Program} {w:World} {K:PySem.W.Frag} {tg:Expr} (x:Str) (t:Tok) (it:Addr):Turn P w K tg (Its x) [it] it (fun i h=>h.IsStrIter it (strIterType x) x t i) where
 mem:=by simp
 obj:=fun i h st b hb=>by
  have e:b=it:=by simpa using hb
  subst e
  obtain ⟨o,e,c,d⟩:=st
  exact ⟨o,e,fun v z=>by rw [d] at z;cases z⟩
 keep:=fun i h h' st k=>by
  obtain ⟨o,e,r⟩:=st
  exact ⟨o,k it (by simp) o e,r⟩
 item:=by
  intro X hP hw hK hc i pins s σ H E I hf st hg
  subst hP hw hK
  obtain ⟨f0,f1,f2,f3,f4,f5⟩:=hf it (by simp)
  have hg':i < x.cps.size:=hg
  have hx:x.cps[i]? = some x.cps[i]:=Array.getElem?_eq_getElem hg'
  have fin:∀ h',h'.IsStrIter it (strIterType x) x t (i + 1)->Heap.SameBut it s.heap h'->∃ u,some (Value.str ⟨#[x.cps[i]]⟩ s.toks)=some u/\wpAny (model X.prog X.w) X.A (letOwnedTupleGo tg (.ref it) u) (fun _ s2=>∃ y H',Inv X pins σ H' s2/\RelV y u/\(Its x).yld i H y H'/\s2.heap.IsStrIter it (strIterType x) x t (i + 1)/\∀ b ∈ [it],H' b=none) E { s with heap:=h',toks:=s.toks + 1 }:=fun h' st' sb=>by
   have I1:Inv X pins σ H { s with heap:=h',toks:=s.toks + 1 }:=I.turned (fun b o hb e=>(sb.2 b hb).trans e) f0 f1 f3 f4 f5
   obtain ⟨o,e,c,d⟩:=id st'
   refine ⟨_,rfl,b4d (n:=strIterType x) (s:={ s with heap:=h',toks:=s.toks + 1 }) e c d (by unfold strIterType;split <;> decide) ⟨.str ⟨#[x.cps[i]]⟩,H,I1,⟨_,rfl⟩,⟨rfl,_,hx,rfl⟩,st',fun b hb=>(hf b hb).1⟩⟩
  cases ha:x.cps.all (· < 128) with
  | true =>
   have et:strIterType x = "str_ascii_iterator":=by unfold strIterType;rw [if_pos ha]
   rw [et] at st fin
   exact wpAny_pyNext_ascii_item st hx fun h' st' sb=>by rw [et];exact fin h' st' sb
  | false =>
   have et:strIterType x = "str_iterator":=by unfold strIterType;rw [if_neg (by rw [ha];decide)]
   rw [et] at st fin
   exact wpAny_pyNext_wide_item st hx fun h' st' sb=>by rw [et];exact fin h' st' sb
 done:=by
  intro X hP hw hK hc i pins s σ H E I hf st hg
  subst hP hw hK
  obtain ⟨f0,f1,f2,f3,f4,f5⟩:=hf it (by simp)
  have hx:x.cps[i]? = none:=Array.getElem?_eq_none hg
  cases ha:x.cps.all (· < 128) with
  | true =>
   have et:strIterType x = "str_ascii_iterator":=by unfold strIterType;rw [if_pos ha]
   rw [et] at st
   exact wpAny_pyNext_ascii_end (I.ok.hd hc) st hx fun h' eb=>⟨rfl,I.turned (t':=s.toks) (fun b o hb e=>eb b o hb e) f0 f1 f3 f4 f5⟩
  | false =>
   have et:strIterType x = "str_iterator":=by unfold strIterType;rw [if_neg (by rw [ha];decide)]
   rw [et] at st
   exact wpAny_pyNext_wide_end (I.ok.hd hc) st hx fun h' eb=>⟨rfl,I.turned (t':=s.toks) (fun b o hb e=>eb b o hb e) f0 f1 f3 f4 f5⟩
 self:=fun A i s Q E st h=>by
  cases ha:x.cps.all (· < 128) with
  | true =>
   have et:strIterType x = "str_ascii_iterator":=by unfold strIterType;rw [if_pos ha]
   rw [et] at st
   exact wpAny_pyIter_striter_ascii st h
  | false =>
   have et:strIterType x = "str_iterator":=by unfold strIterType;rw [if_neg (by rw [ha];decide)]
   rw [et] at st
   exact wpAny_pyIter_striter_wide st h
section
variable {X:Cx} {fr:Bool} {tg e:Expr} {te:TE} {F:Ds->Option PV}
noncomputable def signs (z:Str):List PyData:=z.cps.toList.map fun c=>.str ⟨#[c]⟩
end
section
variable {X:Cx}
theorem part_of {v:Value} {k:Option Int} (h:IsPart v k):∃ l:Option (Int × Tok),v=partValue l/\l.map (·.1)=k:=by
 cases h with
 | none=>exact ⟨none,rfl,rfl⟩
 | int i t=>exact ⟨some (i,t),rfl,rfl⟩
noncomputable def c5y:V->Option Int->Option Int->Hp->VK->Prop:=fun x lo hi H Q=>∃ z,x=.str z/\z.length<=sizeLine/\Q (.str (Txt.slice z lo hi)) H
theorem c5s:SlR X c5y:=by
 intro pins s σ H x v vl vu lo hi sl Q I rx hs pl pu h
 obtain ⟨z,rfl,hz,q⟩:=h
 obtain ⟨t,rfl⟩:=rx
 obtain ⟨l,rfl,el⟩:=part_of pl
 obtain ⟨u,rfl,eu⟩:=part_of pu
 refine ⟨"str",_,F.slot_str_getitem.lookup,typeIs_str _ _ _,?_⟩
 subst el eu
 exact wpAny_getItem_str_slice (l:=l) (u:=u) (st:=none) hs rfl (post_val_or_str ⟨Nat.le_trans (Txt.slice_le z _ _) hz,fun t' k=>⟨.str _,H,I.tok k,⟨t',rfl⟩,q⟩⟩)
noncomputable def P0 (K:PySem.W.Frag):V->Option Int->Option Int->Hp->VK->Prop:=fun x lo hi H Q=>rSl K x lo hi H Q\/c5y x lo hi H Q
theorem E5:SlR X (P0 X.K):=c5t.or c5s
noncomputable def p7:PyData->Option Int->Option Int->Option PV
 | .str z,lo,hi=>if z.length<=1000000 then some (.dat (.str (Txt.slice z lo hi))) else none
 | d,lo,hi=>slD d lo hi
theorem K7 {K:PySem.W.Frag}:R3X K (P0 K) p7:=by
 intro O va H x lo hi d pv Q D hx hf q
 unfold p7 at hf
 split at hf
 . split at hf
   . rename_i z hz
     cases hf
     cases hx
     exact .inr ⟨z,rfl,Nat.le_trans hz (by decide),q _ H (j4.refl H) (Dt.str _)⟩
   . cases hf
 . exact .inl (c7B O va H x lo hi d pv Q D hx hf q)
end
section
variable {X:Cx}
noncomputable def c2U:List V->Hp->VK->Prop:=fun xs H Q=>∃ z n,xs=[.str z]/\PySem.intText? z=some n/\z.length<=640/\Q (.int n) H
theorem c0E:O4 X (.type "int") c2U:=by
 intro pins s σ H xs us Q I r h
 obtain ⟨z,n,rfl,hn,hl,q⟩:=h
 obtain ⟨u,rfl,t,rfl⟩:=vals1 r
 exact PySem.W.KIN.call_text hn hl ⟨.int n,H,I.tok _,⟨_,rfl⟩,q⟩
noncomputable def b4b:List PyData->Option PV
 | [.str z]=>if z.length<=640 then (PySem.intText? z).bind fun n=>some (.dat (.int n)) else none
 | _=>none
theorem c5f {K:PySem.W.Frag}:RNX K c2U b4b:=by
 intro O va H xs ds pv Q D hx hf q
 unfold b4b at hf
 split at hf
 . rename_i z
   split at hf
   . rename_i hl
     cases hn:PySem.intText? z with
     | none=>rw [hn] at hf;cases hf
     | some n =>
      rw [hn] at hf
      cases hf
      obtain ⟨x,rfl,h⟩:=hx.inv1
      cases h
      exact ⟨z,n,rfl,hn,hl,q _ H (j4.refl H) (Dt.int _)⟩
   . cases hf
 . cases hf
noncomputable def b4A (neg:Bool):R2:=fun x y H Q=>∃ i j,x=.str i/\y=.str j/\Q (.bl (if neg then !Txt.contains j i else Txt.contains j i)) H
theorem c5Y:OpR X (compareOp .In) (b4A false):=fun pins s σ H x y v u Q I rx ry h=>b9y pins s σ H x y v u Q I rx ry h
theorem b9w:OpR X (compareOp .NotIn) (b4A true):=fun pins s σ H x y v u Q I rx ry h=>b4F pins s σ H x y v u Q I rx ry h
noncomputable def a6U:PyData->PyData->Option PV
 | .str i,.str j=>some (.dat (.bool (Txt.contains j i)))
 | _,_=>none
noncomputable def a1h:PyData->PyData->Option PV
 | .str i,.str j=>some (.dat (.bool (!Txt.contains j i)))
 | _,_=>none
theorem c6U {K:PySem.W.Frag}:R2X K (b4A false) a6U:=by
 intro O va H x y d e pv Q D hx hy hf q
 unfold a6U at hf
 split at hf
 . cases hf
   cases hx
   cases hy
   exact ⟨_,_,rfl,rfl,q _ H (j4.refl H) (Dt.bl _)⟩
 . cases hf
theorem c1d {K:PySem.W.Frag}:R2X K (b4A true) a1h:=by
 intro O va H x y d e pv Q D hx hy hf q
 unfold a1h at hf
 split at hf
 . cases hf
   cases hx
   cases hy
   exact ⟨_,_,rfl,rfl,q _ H (j4.refl H) (Dt.bl _)⟩
 . cases hf
end
theorem b1J (z:Str):q9 (.str z)=false:=rfl
noncomputable def or2 (f g:PyData->PyData->Option PV):PyData->PyData->Option PV:=fun d e=>match f d e with
 | some pv=>some pv
 | none=>g d e
noncomputable def or1 (f g:List PyData->Option PV):List PyData->Option PV:=fun l=>match f l with
 | some pv=>some pv
 | none=>g l
theorem R2X.or {K:PySem.W.Frag} {r r':R2} {f g:PyData->PyData->Option PV} (h:R2X K r f) (h':R2X K r' g):R2X K (fun x y H Q=>r x y H Q\/r' x y H Q) (or2 f g):=by
 intro O va H x y d e pv Q D hx hy hf q
 unfold or2 at hf
 split at hf
 . rename_i pv' he
   cases hf
   exact .inl (h O va H x y d e pv Q D hx hy he q)
 . exact .inr (h' O va H x y d e pv Q D hx hy hf q)
theorem RNX.or {K:PySem.W.Frag} {r r':List V->Hp->VK->Prop} {f g:List PyData->Option PV} (h:RNX K r f) (h':RNX K r' g):RNX K (fun xs H Q=>r xs H Q\/r' xs H Q) (or1 f g):=by
 intro O va H xs ds pv Q D hx hf q
 unfold or1 at hf
 split at hf
 . rename_i pv' he
   cases hf
   exact .inl (h O va H xs ds pv Q D hx he q)
 . exact .inr (h' O va H xs ds pv Q D hx hf q)
noncomputable def a8z (K:PySem.W.Frag) (neg:Bool):R2:=fun x y H Q=>rIn K neg x y H Q\/b4A neg x y H Q
theorem b9A {X:Cx}:OpR X (compareOp .In) (a8z X.K false):=b9z.or c5Y
theorem b2Y {X:Cx}:OpR X (compareOp .NotIn) (a8z X.K true):=b4G.or b9w
theorem c2O {K:PySem.W.Frag}:R2X K (a8z K false) (or2 inD a6U):=c7D.or c6U
theorem b4g {K:PySem.W.Frag}:R2X K (a8z K true) (or2 a3p a1h):=c3t.or c1d
noncomputable def c6y (K:PySem.W.Frag) (tl:TE):TI:=fun σ H R=>tl σ H fun x H1=>(∃ a,x=.ref a/\(((∃ xs,SqL K H1 a xs)/\R (Itl K a) H1)\/((∃ xs,SqT K H1 a xs)/\R (Itt K a) H1)))\/∃ z,x=.str z/\R (Its z) H1
section
variable {X:Cx} {fr:Bool} {tg e:Expr} {te:TE} {F:Ds->Option PV}
theorem c5I (hl:PE X e te):PI X tg e (c6y X.K te):=by
 intro pins s σ H R I h
 have hw:=hl pins s σ H _ I h
 refine thn hw fun v s1 ⟨y,H1,I1,r1,q1⟩=>?_
 rcases q1 with q1 | ⟨z,rfl,q⟩
 . obtain ⟨a,rfl,(⟨⟨xs,hq⟩,q⟩ | ⟨⟨xs,hq⟩,q⟩)⟩:=q1
   . cases r1
     obtain ⟨its,rv,p,hz⟩:=I1.list hq
     refine wpAny_pyIter_list p.isList ?_
     refine ⟨s1.heap.objs.size,[s1.heap.objs.size],_,_,H1,rfl,I1.kept (t':=s1.toks) fun b o e=>Heap.get?_push_of_some _ e,b8P a _,⟨_,Heap.get?_push_size _ rfl,rfl,rfl⟩,fun b hb=>?_,q⟩
     have e:b=s1.heap.objs.size:=by simpa using hb
     subst e
     exact I1.b0I (Nat.le_refl _) (I1.hok.fresh (Nat.le_refl _))
   . cases r1
     obtain ⟨its,rv,p,hz⟩:=I1.tuple hq
     refine wpAny_pyIter_tuple (show s1.heap.IsTuple a its.toArray from p) ?_
     refine ⟨s1.heap.objs.size,[s1.heap.objs.size],_,_,H1,rfl,I1.kept (t':=s1.toks) fun b o e=>Heap.get?_push_of_some _ e,b6X a _,⟨_,Heap.get?_push_size _ rfl,rfl,rfl⟩,fun b hb=>?_,q⟩
     have e:b=s1.heap.objs.size:=by simpa using hb
     subst e
     exact I1.b0I (Nat.le_refl _) (I1.hok.fresh (Nat.le_refl _))
 . obtain ⟨t,rfl⟩:=r1
   refine wpAny_pyIter_strU ?_
   refine ⟨s1.heap.objs.size,[s1.heap.objs.size],_,_,H1,rfl,I1.kept (t':=s1.toks) fun b o e=>Heap.get?_push_of_some _ e,c1h z t _,⟨_,Heap.get?_push_size _ rfl,rfl,rfl⟩,fun b hb=>?_,q⟩
   have e:b=s1.heap.objs.size:=by simpa using hb
   subst e
   exact I1.b0I (Nat.le_refl _) (I1.hok.fresh (Nat.le_refl _))
noncomputable def b4h:PyData->Option (List PyData)
 | .str z=>some (signs z)
 | d=>W9 d
noncomputable def iWk (F:Ds->Option PV):Ds->Option (List PyData):=fun ds=>(F ds).bind fun pv=>b4h pv.d
theorem a1f (h:PX X fr e te F):PIX X fr tg e (c6y X.K te) (iWk F):=⟨c5I h.p,by
 intro O i4 as σ H ds items R S hf q
 unfold iWk at hf
 cases h1:F ds with
 | none=>rw [h1] at hf;cases hf
 | some pv =>
  rw [h1] at hf
  simp only [Option.bind_some] at hf
  by_cases hs:∃ z,pv.d=.str z
  . obtain ⟨z,ez⟩:=hs
    rw [ez] at hf
    cases hf
    refine h.t O i4 as σ H ds pv _ S h1 fun v H1 e1 r1=>?_
    have d:=r1.dt S.dm
    rw [ez] at d
    cases d
    have hl:(signs z).length=z.cps.size:=by simp [signs]
    refine .inr ⟨z,rfl,q _ H1 e1 fun H' e' i=>?_⟩
    refine ⟨fun hi=>(show i < z.cps.size by omega),fun hi=>(show z.cps.size<=i by omega),fun x H'' y hi=>?_⟩
    obtain ⟨e3,c,hc,ev⟩:=y
    subst e3 ev
    refine ⟨j4.refl _,.str ⟨#[c]⟩,?_,fun vb hv _=>.str _⟩
    unfold signs
    rw [List.getElem?_map,Array.getElem?_toList,hc]
    rfl
  . have hf':W9 pv.d=some items:=by
      revert hf hs
      generalize pv.d=d
      intro hf hs
      cases d <;> first | exact hf | exact absurd ⟨_,rfl⟩ hs
    refine h.t O i4 as σ H ds pv _ S h1 fun v H1 e1 r1=>.inl ?_
    have d:=r1.dt S.dm
    generalize pv.d=z at d hf'
    cases d with
    | lst hs ht =>
     rename_i a xs l
     cases hf'
     have hl:=ht.length
     refine ⟨a,rfl,.inl ⟨⟨xs,t7.seq hs⟩,q _ H1 e1 fun H' e' i=>?_⟩⟩
     have hs':SqL X.K H' a xs:=e'.seq (b4c.seq hs)
     refine ⟨fun hi=>⟨xs,xs[i]'(by omega),hs',List.getElem?_eq_getElem _⟩,fun hi=>⟨xs,hs',by omega⟩,fun x H'' y hi=>?_⟩
     obtain ⟨e3,y⟩:=y
     subst e3
     obtain ⟨d,ed,dd⟩:=ht.get' (y xs hs')
     exact ⟨j4.refl _,d,ed,fun vb hv _=>b1H dd e' (j4.refl _) hv⟩
    | tup hs ht =>
     rename_i a xs l
     cases hf'
     have hl:=ht.length
     refine ⟨a,rfl,.inr ⟨⟨xs,t7.a1H hs⟩,q _ H1 e1 fun H' e' i=>?_⟩⟩
     have hs':SqT X.K H' a xs:=e'.a1H (b4c.a1H hs)
     refine ⟨fun hi=>⟨xs,xs[i]'(by omega),hs',List.getElem?_eq_getElem _⟩,fun hi=>⟨xs,hs',by omega⟩,fun x H'' y hi=>?_⟩
     obtain ⟨e3,y⟩:=y
     subst e3
     obtain ⟨d,ed,dd⟩:=ht.get' (y xs hs')
     exact ⟨j4.refl _,d,ed,fun vb hv _=>b1H dd e' (j4.refl _) hv⟩
    | _=>cases hf'⟩
end
end L2
namespace L2
open PySem PySem.Spec PyProof.Rows PySem.NumText
noncomputable abbrev lz (z:Str):List Nat:=z.cps.toList
theorem D3 {x y:Str} (h:lz x=lz y):x=y:=by
 obtain ⟨a⟩:=x
 obtain ⟨b⟩:=y
 have:a=b:=Array.toList_inj.mp h
 rw [this]
theorem D5 (x y:Str):lz (x++y)=lz x++lz y:=by
 show (x.cps++y.cps).toList=_
 simp
theorem u4 (x:Str):x.length=(lz x).length:=by simp [Str.length]
theorem c7r (l:List Nat):lz ⟨l.toArray⟩=l:=by simp
theorem c6m (c:Nat):lz ⟨#[c]⟩=[c]:=rfl
noncomputable def G5 (n:Nat):List Nat:=(Nat.toDigits 10 n).map Char.toNat
noncomputable def H9 (i:Int):List Nat:=if i < 0 then 45::G5 i.natAbs else G5 i.natAbs
theorem c6n (n:Nat):lz (Str.ofString (toString (n:Int)))=G5 n:=PySem.W.KIN.signs_num n
theorem X8 (i:Int):lz (Str.ofString (toString i))=H9 i:=by
 unfold H9
 split
 . rename_i h
   obtain ⟨n,rfl⟩:∃ n:Nat,i=Int.negSucc n:=by
    cases i with
    | ofNat n=>exact absurd h (by simp)
    | negSucc n=>exact ⟨n,rfl⟩
   rw [show lz (Str.ofString (toString (Int.negSucc n)))=(toString (Int.negSucc n)).toList.map Char.toNat from signs_ofString _]
   have e:toString (Int.negSucc n) = "-"++Nat.repr (n + 1):=rfl
   rw [e,String.toList_append,map_append,Nat.toList_repr]
   rfl
 . rename_i h
   obtain ⟨n,rfl⟩:=Int.eq_ofNat_of_zero_le (show 0<=i by omega)
   exact c6n n
theorem c2y {c:Char} (h:c.isDigit=true):48<=c.toNat/\c.toNat<=57:=by
 unfold Char.isDigit at h
 rw [Bool.and_eq_true] at h
 have h1:=of_decide_eq_true h.1
 have h2:=of_decide_eq_true h.2
 exact ⟨by simpa using UInt32.le_iff_toNat_le.mp h1,by simpa using UInt32.le_iff_toNat_le.mp h2⟩
theorem U3 (n:Nat):AllDigits (G5 n):=by
 intro c hc
 obtain ⟨ch,hch,e⟩:=mem_map.mp hc
 rw [<-e]
 exact c2y (Nat.isDigit_of_mem_toDigits (by decide) (by decide) hch)
theorem a6J (n:Nat):digitsVal (G5 n)=n:=PySem.W.KIN.val_back n
theorem a6K {n k:Nat} (hk:0 < k):(G5 n).length<=k ↔ n < 10 ^ k:=by
 unfold G5
 rw [length_map]
 exact Nat.length_toDigits_le_iff (by decide) hk
theorem b2k (n:Nat):G5 n ≠ []:=fun h=>by
 have h1:=a6J n
 rw [h] at h1
 have h2:n=0:=h1.symm
 subst h2
 exact absurd h (by decide)
noncomputable def Plain (cs:List Nat):Prop:=AllDigits cs/\cs ≠ []/\(cs.head? ≠ some 48\/cs=[48])
theorem b1z (n:Nat):Plain (G5 n):=by
 refine ⟨U3 n,b2k n,?_⟩
 by_cases h0:n=0
 . subst h0;exact .inr rfl
 . refine .inl fun hz=>?_
   cases e:G5 n with
   | nil=>exact b2k n e
   | cons c r =>
    rw [e] at hz
    have hc:c=48:=by simpa using hz
    subst hc
    have hv:=a6J n
    have hd:=U3 n
    rw [e] at hv hd
    have h2:digitsVal r=n:=hv
    have hl:=(a6K (n:=n) (k:=r.length) (by
     cases r with
     | nil=>exact absurd h2.symm (by simpa [digitsVal] using h0)
     | cons _ _=>exact Nat.succ_pos _))
    have hlt:digitsVal r < 10 ^ r.length:=by
     have key:∀ (l:List Nat) (a:Nat),AllDigits l->l.foldl (fun acc c=>acc * 10 + (c - 48)) a < (a + 1) * 10 ^ l.length:=by
      intro l
      induction l with
      | nil=>intro a _;simp
      | cons d l ih =>
       intro a hl
       have hd:=hl.head
       have:=ih (a * 10 + (d - 48)) hl.tail
       rw [List.foldl_cons]
       refine Nat.lt_of_lt_of_le this ?_
       rw [length_cons,Nat.pow_succ,Nat.mul_comm (10 ^ l.length) 10,<-Nat.mul_assoc]
       exact Nat.mul_le_mul_right _ (by omega)
     have:=key r 0 hd.tail
     simpa [digitsVal] using this
    have h3:=hl.mpr (by rw [<-h2];exact hlt)
    rw [e,length_cons] at h3
    omega
end L2
namespace L2
open PySem PySem.Spec PyProof.Rows PySem.NumText PySem.StrLaws
open Builtin.Str (occurrences strSub subAt strSliceIndices)
theorem b1l (x:Str) {a b:Nat} (hab:a<=b) (hb:b<=x.length) {l u:Option Int} (e:strSliceIndices l u 1 x.length=strSliceIndices (some (a:Int)) (some (b:Int)) 1 x.length):lz (Txt.slice x l u)=((lz x).drop a).take (b - a):=by
 unfold Txt.slice
 rw [e]
 split
 . rename_i h
   have hl:(strSliceIndices (some (a:Int)) (some (b:Int)) 1 x.length).length=x.length:=by simpa using h
   rw [strSliceIndices_plain hab hb,length_map,List.length_range] at hl
   have ha:a=0:=by omega
   have hb':b=(lz x).length:=by rw [<-u4];omega
   subst ha
   rw [List.drop_zero,Nat.sub_zero,hb',List.take_length]
 . rw [sliced_plain x hab hb,c7r]
theorem a6g (x:Str) (i:Nat):lz (Txt.slice x (some (i:Int)) none)=(lz x).drop i:=by
 have e:strSliceIndices (some (i:Int)) none 1 x.length=strSliceIndices (some ((min i x.length:Nat):Int)) (some (x.length:Int)) 1 x.length:=by
  unfold strSliceIndices
  have h1:¬ ((i:Int) < 0):=by omega
  have h2:¬ ((x.length:Int) < 0):=by omega
  have h3:¬ (((min i x.length:Nat):Int) < 0):=by omega
  simp only [h1,h2,h3,if_false,show ((1:Int) > 0)=True from by simp,if_true]
  congr 1
  . omega
  . omega
 rw [b1l x (Nat.min_le_right _ _) (Nat.le_refl _) e]
 have hl:=u4 x
 rw [take_of_length_le (by rw [length_drop];omega)]
 by_cases h:i<=x.length
 . rw [Nat.min_eq_left h]
 . rw [Nat.min_eq_right (by omega),drop_of_length_le (by omega),drop_of_length_le (by omega)]
theorem c3g (x:Str) (j:Nat):lz (Txt.slice x none (some (j:Int)))=(lz x).take j:=by
 have e:strSliceIndices none (some (j:Int)) 1 x.length=strSliceIndices (some ((0:Nat):Int)) (some ((min j x.length:Nat):Int)) 1 x.length:=by
  unfold strSliceIndices
  have h1:¬ ((j:Int) < 0):=by omega
  have h2:¬ (((0:Nat):Int) < 0):=by omega
  have h3:¬ (((min j x.length:Nat):Int) < 0):=by omega
  simp only [h1,h2,h3,if_false,show ((1:Int) > 0)=True from by simp,if_true]
  congr 1
  all_goals omega
 rw [b1l x (Nat.zero_le _) (Nat.min_le_right _ _) e,List.drop_zero,Nat.sub_zero]
 have hl:=u4 x
 by_cases h:j<=x.length
 . rw [Nat.min_eq_left h]
 . rw [Nat.min_eq_right (by omega),take_of_length_le (by omega),take_of_length_le (by omega)]
theorem b7j (x:Str) (c:Nat):Txt.startswith x ⟨#[c]⟩=decide ((lz x).head? = some c):=by
 have h:=subAt_one x c 0
 rw [<-List.head?_eq_getElem?] at h
 unfold Txt.startswith
 by_cases hc:(lz x).head? = some c
 . obtain ⟨h1,h2⟩:=h.mpr hc
   rw [h2,decide_eq_true h1,decide_eq_true hc]
   rfl
 . rw [decide_eq_false hc]
   cases h2:subAt x ⟨#[c]⟩ 0 with
   | false=>rw [Bool.and_false]
   | true =>
    have:¬ (0 + (⟨#[c]⟩:Str).length<=x.length):=fun h1=>hc (h.mp ⟨h1,h2⟩)
    rw [decide_eq_false this]
    rfl
theorem b2Z (s sub:Str) (hi:Nat):∀ (l:List Nat) (st:Array Nat × Nat),1<=st.fst.size->(forIn l st (occBody s sub hi 1)).run.fst=st.fst
 | [],st,h=>rfl
 | a::l,st,h=>by
  rw [forIn_cons]
  unfold occBody
  rw [if_neg (by intro z;have:=z.1.1.1;omega)]
  exact b2Z s sub hi l (st.fst,st.snd) h
theorem occ_first (x:Str) (c:Nat):∀ (n a free:Nat),free<=a->(forIn (List.range' a n) ((#[]:Array Nat),free) (occBody x ⟨#[c]⟩ x.length 1)).run.fst.toList=(((List.range' a n).find? fun i=>decide ((lz x)[i]? = some c)).toList)
 | 0,a,free,_=>rfl
 | n + 1,a,free,hf=>by
  rw [List.range'_succ,forIn_cons,List.find?_cons]
  have h:=subAt_one x c a
  by_cases hc:(lz x)[a]? = some c
  . obtain ⟨h1,h2⟩:=h.mpr hc
    have e:occBody x ⟨#[c]⟩ x.length 1 a ((#[]:Array Nat),free)=pure (ForInStep.yield ((#[]:Array Nat).push a,a + (⟨#[c]⟩:Str).length)):=by
     unfold occBody
     rw [if_pos ⟨⟨⟨by simp,hf⟩,h1⟩,h2⟩]
    rw [e,decide_eq_true hc]
    have:=b2Z x ⟨#[c]⟩ x.length (List.range' (a + 1) n) ((#[]:Array Nat).push a,a + (⟨#[c]⟩:Str).length) (by simp)
    show (forIn (List.range' (a + 1) n) ((#[]:Array Nat).push a,a + (⟨#[c]⟩:Str).length) (occBody x ⟨#[c]⟩ x.length 1)).run.fst.toList=_
    rw [this]
    rfl
  . have e:occBody x ⟨#[c]⟩ x.length 1 a ((#[]:Array Nat),free)=pure (ForInStep.yield ((#[]:Array Nat),free)):=by
      unfold occBody
      rw [if_neg (fun z=>hc (h.mp ⟨z.1.2,z.2⟩))]
    rw [e,decide_eq_false hc]
    exact occ_first x c n (a + 1) free (by omega)
theorem a7a {cs:List Nat} {c:Nat}:∀ (n a:Nat),(List.range' a n).find? (fun i=>decide (cs[i]? = some c))=(if c ∈ (cs.drop a).take n then some (a + ((cs.drop a).idxOf c)) else none)
 | 0,a=>by simp
 | n + 1,a=>by
  rw [List.range'_succ,List.find?_cons]
  cases hd:cs.drop a with
  | nil =>
   have hl:cs.length<=a:=List.drop_eq_nil_iff.mp hd
   have h0:cs[a]? = none:=List.getElem?_eq_none hl
   rw [h0,decide_eq_false (by simp),a7a n (a + 1)]
   rw [drop_of_length_le (by omega)]
   simp
  | cons d r =>
   have h0:cs[a]? = some d:=by
    have:=List.getElem?_drop (xs:=cs) (i:=a) (j:=0)
    rw [hd] at this
    simpa using this.symm
   have hr:cs.drop (a + 1)=r:=by
    have:cs.drop (a + 1)=(cs.drop a).drop 1:=by rw [List.drop_drop]
    rw [this,hd];rfl
   rw [h0]
   by_cases hc:d=c
   . subst hc
     rw [decide_eq_true rfl]
     simp
   . rw [decide_eq_false (by simpa using hc),a7a n (a + 1),hr]
     have e1:(c ∈ (d::r).take (n + 1)) ↔ c ∈ r.take n:=by
      rw [take_succ_cons,mem_cons]
      constructor
      . rintro (z | z)
        . exact absurd z.symm hc
        . exact z
      . exact .inr
     by_cases hm:c ∈ r.take n
     . rw [if_pos hm,if_pos (e1.mpr hm),List.idxOf_cons,beq_eq_false_iff_ne.mpr hc,cond_false]
       show some _=some _
       congr 1
       omega
     . rw [if_neg hm,if_neg (fun z=>hm (e1.mp z))]
theorem c4o (x:Str) (c:Nat):occurrences x ⟨#[c]⟩ 0 x.length 1=if c ∈ lz x then [(lz x).idxOf c] else []:=by
 rw [occ_eq,occ_first x c _ 0 0 (Nat.le_refl _),a7a]
 have hl:=u4 x
 rw [List.drop_zero,take_of_length_le (by omega),Nat.zero_add]
 split <;> rfl
theorem c0d (x:Str) (i j:Nat):lz (strSub x i j)=((lz x).drop i).take (j - i):=by
 show (x.cps.extract i j).toList=_
 rw [Array.toList_extract]
theorem c4O (x:Str) (c:Nat):(a2t x ⟨#[c]⟩).map lz=if c ∈ lz x then [(lz x).take ((lz x).idxOf c),[c],(lz x).drop ((lz x).idxOf c + 1)] else [lz x,[],[]]:=by
 unfold a2t
 rw [c4o]
 have hl:=u4 x
 by_cases h:c ∈ lz x
 . rw [if_pos h,if_pos h]
   show [lz (strSub x 0 _),lz ⟨#[c]⟩,lz (strSub x (_ + (⟨#[c]⟩:Str).length) x.length)]=_
   rw [c0d,c0d,c6m,List.drop_zero,Nat.sub_zero]
   have e:(⟨#[c]⟩:Str).length=1:=rfl
   rw [e,take_of_length_le (l:=(lz x).drop _) (by rw [length_drop];omega)]
 . rw [if_neg h,if_neg h]
   rfl
theorem a2u (x:Str) (c:Nat):Txt.contains x ⟨#[c]⟩=decide (c ∈ lz x):=found_one x c
end L2
namespace L2
open PySem PySem.Spec PyProof.Rows
section
variable {X:Cx}
theorem b2W:∀ l:List (Str × Tok),Vals ((l.map (·.1)).map V.str) (strValues l)
 | []=>.nil
 | (a,t)::r=>.cons ⟨t,rfl⟩ (b2W r)
theorem b7m (z y:Str) (hz:z.length<=100000):(Txt.split z y).length<=100002:=by
 unfold Txt.split
 split
 . simp
 . split
   . simp
   . have e1:=StrLaws.occ_length_le z y 0 z.length (z.length + 1)
     rw [length_partsBetween];omega
theorem b0B:MtR X "str.split" (fun x xs H Q=>∃ z y,x=.str z/\xs=[.str y]/\(y.length==0)=false/\z.length<=100000/\∀ p,H p=none->Q (.ref p) (upd H p (.lst ((Txt.split z y).map V.str)))):=by
 intro pins s σ H x xs v us Q I rx rxs h
 obtain ⟨z,y,rfl,rfl,hy,hz,q⟩:=h
 obtain ⟨t,rfl⟩:=rx
 obtain ⟨u,rfl,t2,rfl⟩:=vals1 rxs
 have hf:H s.heap.objs.size=none:=I.hok.fresh (Nat.le_refl _)
 have q':=q _ hf
 have hs:=b7m z y hz
 have hl:100002<=sizeLine:=by decide
 have fin:∀ (l:List (Str × Tok)) (k:Nat),l.map (·.1)=Txt.split z y->EP X pins σ Q (.ref s.heap.objs.size) { s with toks:=k,heap:=s.heap.push { cls:=.type "list",data:=.seq (strValues l).toArray } }:=fun l k e=>by
  rw [<-e] at q' hs
  refine ⟨.ref s.heap.objs.size,_,I.laid (t':=k) (o:=.lst ((l.map (·.1)).map V.str)) (fun b ob q=>Heap.get?_push_of_some _ q) (Nat.le_refl _) ?_,rfl,q'⟩
  exact ⟨by rw [length_map];omega,_,0,b2W l,Heap.get?_push_size _ rfl⟩
 have hn:(Builtin.Str.partsBetween z (Builtin.Str.occurrences z y 0 z.length (z.length + 1)) y.length).length<=sizeLine:=by
  have e1:=StrLaws.occ_length_le z y 0 z.length (z.length + 1)
  rw [length_partsBetween];omega
 cases h1:(decide (z.length < y.length)||decide (Builtin.Str.strKind z < Builtin.Str.strKind y))
 . cases hff:(Builtin.Str.occurrences z y 0 z.length (z.length + 1)).isEmpty
   . refine call_meets F.slot_str_split (typeIs_str _ _ _) F.entry_str_split (F.args_str_split_2 _ _) (meets_str_split_sep z y t t2 h1 hy hff (by omega) hn) ?_
     show EP X pins σ Q _ { s with toks:=_,heap:=s.heap.push { cls:=.type "list",data:=.seq (strsFrom s.toks (Builtin.Str.partsBetween z (Builtin.Str.occurrences z y 0 z.length (z.length + 1)) y.length)).toArray } }
     rw [strsFrom_eq]
     exact fin (numbered s.toks _) _ ((numbered_texts _ _).trans ((if_neg (ne_true_of_eq_false h1)).trans (if_neg (ne_true_of_eq_false hff))).symm)
   . exact call_meets F.slot_str_split (typeIs_str _ _ _) F.entry_str_split (F.args_str_split_2 _ _) (meets_str_split_not_found z y t t2 h1 hy hff) (fin [(z,t)] s.toks ((if_neg (ne_true_of_eq_false h1)).trans (if_pos hff)).symm)
 . exact call_meets F.slot_str_split (typeIs_str _ _ _) F.entry_str_split (F.args_str_split_2 _ _) (meets_str_split_cannot_occur z y t t2 h1) (fin [(z,t)] s.toks (if_pos h1).symm)
noncomputable def a0S:PyData->List PyData->Option PV
 | .str z,[.str y]=>if (y.length==0)=false/\z.length<=100000 then some (.own ((Txt.split z y).map .str)) else none
 | _,_=>none
theorem a6x {d:PyData} {l:List PyData} {pv:PV} (h:a0S d l=some pv):∃ z,d=.str z:=by
 unfold a0S at h
 split at h
 . exact ⟨_,rfl⟩
 . cases h
theorem b1W {K:PySem.W.Frag}:MNX K (fun x xs H Q=>∃ z y,x=.str z/\xs=[.str y]/\(y.length==0)=false/\z.length<=100000/\∀ p,H p=none->Q (.ref p) (upd H p (.lst ((Txt.split z y).map V.str)))) a0S:=by
 intro O va H z xs ds pv Q D hx hf q
 unfold a0S at hf
 split at hf
 . rename_i z' y e
   cases e
   split at hf
   . rename_i hp
     cases hf
     obtain ⟨x,rfl,h⟩:=hx.inv1
     cases h
     exact ⟨z,y,rfl,rfl,hp.1,hp.2,fun p hp=>q _ _ (j4.new hp) (a4o hp (b0U _))⟩
   . cases hf
 . cases hf
theorem b5r:O4 X (.type "str") (fun xs H Q=>∃ z,xs=[.str z]/\Q (.str z) H):=by
 intro pins s σ H xs us Q I r h
 obtain ⟨z,rfl,q⟩:=h
 obtain ⟨u,rfl,t,rfl⟩:=vals1 r
 exact PySem.P.str_of_str ⟨.str _,H,I,⟨_,rfl⟩,q⟩
noncomputable def b1k:List PyData->Option PV
 | [.str z]=>some (.dat (.str z))
 | _=>none
theorem c5c {K:PySem.W.Frag}:RNX K (fun xs H Q=>∃ z,xs=[.str z]/\Q (.str z) H) b1k:=by
 intro O va H xs ds pv Q D hx hf q
 unfold b1k at hf
 split at hf
 . cases hf
   obtain ⟨x,rfl,h⟩:=hx.inv1
   cases h
   exact ⟨_,rfl,q _ H (j4.refl H) (Dt.str _)⟩
 . cases hf
end
section
variable {X:Cx} {CX:CXT} {k i:Nat} {f:Addr} {fd:FuncData} {ps:List Str} {sp:Sp} {E:XK} {x:Str} {p pos:Pos} {e:Expr} {es:List Expr} {t:TA} {fr:Bool} {Fl:Ds->Option (List PyData)}
noncomputable def b8S (i:Nat) (f:Addr) (u:TE):TE:=fun σ H Q=>σ[i]? = some (some (.ref f))/\u σ H Q
theorem c1Q (hv:PE X (.Name x p) (Z5 i)) (F:m6 X.prog X.w X.K X.mg X.base CX k f fd ps sp) (hr:M7 k X.A) (hk:PySem.W.keepIn X.K (.ref f)=true) (hb:Binds X.K fd ps []) (hx:Passes CX X E)
  (ha:PA X (e::es) t) (he:starEach (e::es) X.env=(false,eval e X.env)::starEach es X.env:=by rfl) (hpl:(backTo pos (starEach es X.env)).any (·.1)=false:=by rfl) :
  PE X (.Call (.Name x p) (e::es) [] pos) (b8S i f (a4W sp [] E t)):=by
 intro pins s σ H Q I h
 obtain ⟨hs,h⟩:=h
 refine wpAny_Call_Name_kw (thn (hv pins s σ H (fun v H'=>v=.ref f/\a4W sp [] E t σ H' Q) I ⟨_,hs,rfl,h⟩) fun u s1 ⟨v,H1,I1,r,ev,q⟩=>?_)
 subst ev
 cases r
 refine PySem.W.callWith_K (h₀:=X.base) I1.ok.mod.kin hk (thn (ha pos pins s1 σ H1 _ I1 q) fun us s2 ⟨vs,H2,I2,r,q⟩=>⟨I2.kIn,?_⟩) he hpl
 exact b9c F hr hb .nil hx I2 r q
noncomputable def a3s (i:Nat) (nm:Str) (f:List PyData->Option PV) (Fl:Ds->Option (List PyData)):Ds->Option PV:=fun ds=>match ds[i]? with
 | some (some (.dat (.dict [(.str n,.none)])))=>if n=nm then (Fl ds).bind f else none
 | _=>none
theorem Dt.fnOf {K:PySem.W.Frag} {H:Hp} {v:V} {nm:Str} {f:Addr} (h:Dt K H v (.dict [(.str nm,.none)])) (hn:PySem.W.nsIn K mainGlobals nm=some (some (.ref f))):v=.ref f:=by
 generalize hd:PyData.dict [(.str nm,.none)]=d at h
 cases h with
 | fn h =>
  unfold fnD at hd
  injection hd with hd
  injection hd with h1 _
  injection h1 with h1 _
  injection h1 with h1
  subst h1
  rw [hn] at h
  injection h with h
  injection h with h
  injection h with h
  rw [h]
 | exc _ _ _ _ _=>unfold a0d at hd;injection hd with hd;injection hd with h1 _;injection h1 with h1 _;cases h1
 | _=>cases hd
theorem a6D {K':PySem.W.Frag} {f':List PyData->Option PV} {nm:Str} (eK:X.K=K') (hn:PySem.W.nsIn K' mainGlobals nm=some (some (.ref f))) (hv:PE X (.Name x p) (Z5 i)) (G:m6 X.prog X.w K' X.mg X.base CX k f fd ps (spF K' f')) (hr:M7 k X.A) (hk:PySem.W.keepIn K' (.ref f)=true) (hb:Binds K' fd ps []) (hx:Passes CX X E)
  (ha:PAX X fr (e::es) t Fl) (he:starEach (e::es) X.env=(false,eval e X.env)::starEach es X.env:=by rfl) (hpl:(backTo pos (starEach es X.env)).any (·.1)=false:=by rfl) :
  PX X fr (.Call (.Name x p) (e::es) [] pos) (b8S i f (a4W (spF K' f') [] E t)) (a3s i nm f' Fl):=by
 subst eK
 refine ⟨c1Q hv G hr hk hb hx ha.p he hpl,?_⟩
 intro O i4 as σ H ds pv Q S hf q
 unfold a3s at hf
 split at hf
 . rename_i n hd
   split at hf
   . rename_i en
     subst en
     obtain ⟨v,e1,h⟩:=S.slot i _ hd
     have:=h.fnOf hn
     subst this
     exact ⟨e1,b6q (E:=E) (f:=f') ha O i4 as σ H ds pv Q S hf q⟩
   . cases hf
 . cases hf
noncomputable def a4I (F1 F2:Ds->Option PV):Ds->Option PV:=fun ds=>match F1 ds with
 | some pv=>some pv
 | none=>F2 ds
theorem b4C {t1 t2:TE} {F1 F2:Ds->Option PV} {ex:Expr} (h1:PX X fr ex t1 F1) (h2:PX X fr ex t2 F2):PX X fr ex (fun σ H Q=>t1 σ H Q\/t2 σ H Q) (a4I F1 F2):=⟨by
 intro pins s σ H Q I h
 rcases h with h | h
 . exact h1.p pins s σ H Q I h
 . exact h2.p pins s σ H Q I h,by
 intro O i4 as σ H ds pv Q S hf q
 unfold a4I at hf
 split at hf
 . rename_i pv' e
   cases hf
   exact .inl (h1.t O i4 as σ H ds _ Q S e q)
 . exact .inr (h2.t O i4 as σ H ds _ Q S hf q)⟩
end
noncomputable def a2R:Value->Bool
 | .none=>true
 | _=>false
noncomputable def a0A:PyData->Bool
 | .none=>true
 | .bool _=>true
 | .int _=>true
 | .str _=>true
 | .tuple _=>true
 | _=>false
theorem b9P {X:Cx} {pins:List (Addr × Obj)} {σ:St} {H:Hp} {s:Shared} {A:Around} (I:Inv X pins σ H s) (hu:A.units < cLine) {x:V} {u:Value} {d:PyData} (h:Dt X.K H x d) (r:RelV x u) (hp:a0A d=true):SeqAt.EqAt A s u .none (a2R u)/\a2R u=q9 d:=by
 cases h with
 | non=>cases r;exact ⟨SeqAt.EqAt.same _,rfl⟩
 | bl b=>cases r;exact ⟨SeqAt.EqAt.bool_none b,rfl⟩
 | int i=>obtain ⟨t,rfl⟩:=r;exact ⟨SeqAt.EqAt.int_none i t,rfl⟩
 | str y=>obtain ⟨t,rfl⟩:=r;exact ⟨SeqAt.EqAt.str_none y t,rfl⟩
 | tup h t =>
  cases r
  obtain ⟨its,rv,pl,_⟩:=I.tuple h
  exact ⟨SeqAt.EqAt.tuple_none pl hu,rfl⟩
 | lst _ _=>cases hp
 | exc _ _ _ _ _=>cases hp
 | fn _=>cases hp
theorem b4M {X:Cx} {pins:List (Addr × Obj)} {σ:St} {H:Hp} {s:Shared} {A:Around} (I:Inv X pins σ H s) (hu:A.units < cLine):∀ {xs:List V} {us:List Value} {l:List PyData},Dts X.K H xs l->Vals xs us->l.all a0A=true->(∀ u ∈ us,SeqAt.EqAt A s u .none (a2R u))/\us.any a2R=l.any q9
 | _,_,_,.nil,.nil,_=>⟨fun u hu=>(by cases hu),rfl⟩
 | _,_,_,.cons h t,.cons r rr,g=>by
  rw [all_cons,Bool.and_eq_true] at g
  obtain ⟨a1,a2⟩:=b9P I hu h r g.1
  obtain ⟨b1,b2⟩:=b4M I hu t rr g.2
  refine ⟨fun u' hu'=>?_,by rw [any_cons,any_cons,a2,b2]⟩
  rcases mem_cons.mp hu' with rfl | z
  . exact a1
  . exact b1 u' z
noncomputable def b2g (K:PySem.W.Frag):R2:=fun x y H Q=>∃ p xs l,x=.non/\y=.ref p/\SqL K H p xs/\Dts K H xs l/\l.all a0A=true/\Q (.bl (l.any q9)) H
theorem b9x {X:Cx} (hu:X.A.in1.units < cLine):OpR X (compareOp .In) (b2g X.K):=by
 intro pins s σ H x y v u Q I rx ry h
 obtain ⟨p,xs,l,rfl,rfl,hq,hd,hp,q⟩:=h
 cases rx
 cases ry
 obtain ⟨its,r,pl,hz⟩:=I.list hq
 obtain ⟨a1,a2⟩:=b4M (A:=X.A.in1) I hu hd r hp
 refine SeqAt.in_listAt a2R pl.isList (fun w hw=>a1 w (by simpa using hw)) ⟨.bl _,H,I,rfl,?_⟩
 rw [show its.toArray.any a2R=its.any a2R by simp,a2]
 exact q
noncomputable def a6d:PyData->PyData->Option PV
 | .none,.list l=>if l.all a0A=true then some (.dat (.bool (l.any q9))) else none
 | _,_=>none
theorem c1e {K:PySem.W.Frag}:R2X K (b2g K) a6d:=by
 intro O va H x y d e pv Q D hx hy hf q
 cases hx with
 | non =>
  cases hy with
  | lst hs ht =>
   rename_i a xs l
   have hf':(if l.all a0A=true then some (PV.dat (.bool (l.any q9))) else none)=some pv:=hf
   split at hf'
   . rename_i hc
     cases hf'
     exact ⟨a,xs,l,rfl,rfl,t7.seq hs,ht.same t7,hc,q _ H (j4.refl H) (Dt.bl _)⟩
   . cases hf'
  | _=>cases hf
 | _=>cases hf
theorem c2n {A:Around} (h:A.units + 64 < cLine):A.in1.units < cLine:=by
 show A.units + 1 < cLine
 omega
noncomputable abbrev rJoin (K:PySem.W.Frag):V->List V->Hp->VK->Prop:=fun x xs H Q=>∃ z a ts,x=.str z/\xs=[.ref a]/\SqL K H a (ts.map V.str)/\JoinOk z ts=true/\Q (.str (Txt.join z ts)) H
section
variable {X:Cx} {fr:Bool} {o e:Expr} {es:List Expr} {to:TE} {t:TA} {Fo:Ds->Option PV} {Fl:Ds->Option (List PyData)} {apos cpos:Pos} {name:Str} {id:String} {r:V->List V->Hp->VK->Prop} {f:PyData->List PyData->Option PV}
theorem a0z {K':PySem.W.Frag} (eK:X.K=K') (slot:Slot "str" name id) (hty:typeOf (.builtin id)=pure (.type "method_descriptor")) (hm:MtR X id r) (hr:MNX K' r f) (hs0:∀ d l pv,f d l=some pv->∃ z,d=.str z) (ho:PX X fr o to Fo) (ha:PAX X fr (e::es) t Fl)
  (hbase:attributeBase o name X.env (eval o X.env)=eval o X.env:=by rfl)
  (hfew:((backTo cpos (starEach (e::es) X.env)).all (fun x=>!x.1)&&(backToKw cpos (keywordEach [] X.env)).all (fun x=>x.1.isSome)
   && decide ((e::es).length + ([]:List Keyword).length + (if ([]:List Keyword).isEmpty then 0 else 1) < 30))=true:=by rfl)
  (hline:(apos.endLine==cpos.line)=true:=by rfl) (hs:starEach (e::es) X.env=(false,eval e X.env)::starEach es X.env:=by rfl) (hplain:(backTo cpos (starEach es X.env)).any (·.1)=false:=by rfl) :
  PX X fr (.Call (.Attribute o name apos) (e::es) [] cpos) (tBM K' "str" r to t) (Q9 f Fo Fl):=by
 subst eK
 exact c7e slot hty hm hr hs0 ho ha hbase hfew hline hs hplain
end
section
variable {X:Cx}
noncomputable def P2 {α:Type} (l:List α) (k:Nat) (y:α):List α:=l.take k++y::l.drop k
noncomputable def b6x:V->List V->Hp->VK->Prop:=fun x vs H Q=>∃ l xs k y,x=.ref l/\vs=[.int ((k:Nat):Int),y]/\H l=some (.lst xs)/\xs.length < 1000000/\k<=xs.length/\Q .non (upd H l (.lst (P2 xs k y)))
theorem b9T:MtM X "list.insert" b6x:=by
 intro pins s σ H x vs v us Q I rx rv h
 obtain ⟨l,xs,k,y,rfl,rfl,hH,hz,hk,q⟩:=h
 cases rx
 obtain ⟨u0,u,rfl,r0,ru⟩:=vals2 rv
 obtain ⟨t,rfl⟩:=r0
 obtain ⟨z,its,n,r,hl,e⟩:=I.c2d hH
 have hx:=r.length
 have s6:(1000000:Nat) < sizeLine:=by decide
 have hf:Builtin.List.listFitsIndex ((k:Nat):Int)=true:=by
  unfold Builtin.List.listFitsIndex
  simp
  omega
 have hn:¬(!Builtin.List.listFitsIndex ((k:Nat):Int))=true:=by rw [hf];decide
 have hsz:its.toArray.size<=sizeLine:=by rw [size_toArray];omega
 have hk':(if ((k:Nat):Int) < 0 then (((k:Nat):Int) + (its.toArray.size:Int)).toNat else min ((k:Nat):Int).toNat its.toArray.size)=k:=by
  rw [if_neg (by omega),Int.toNat_natCast,size_toArray]
  omega
 clear hf
 generalize ((k:Nat):Int)=kk at *
 refine call_meets F.slot_list_insert ⟨_,e,rfl⟩ F.entry_list_insert (F.args_list_insert_3 _ _ _) (PySem.AutoSeq1.list_insert_list_int_val_1 l its.toArray n kk t u hn hsz) ⟨e,?_⟩
 refine ⟨.non,_,I.c2e (its':=P2 its k u) hH e ?_ ?_ ?_,rfl,q⟩
 . show (its.toArray.extract 0 (if kk < 0 then (kk + (its.toArray.size:Int)).toNat else min kk.toNat its.toArray.size)).push u++its.toArray.extract (if kk < 0 then (kk + (its.toArray.size:Int)).toNat else min kk.toNat its.toArray.size)=_
   rw [hk']
   unfold P2
   simp
   exact take_of_length_le (by rw [length_drop];exact Nat.le_refl _)
 . unfold P2
   exact (r.take k).append (.cons ru (r.drop k))
 . unfold P2
   rw [length_append,length_cons,length_take,length_drop]
   omega
end
noncomputable def a8U (i:Nat) (Fk F:Ds->Option PV):Ds->Option Out:=fun ds=>(Fk ds).bind fun kv=>(F ds).bind fun pv=>match kv.d,ds[i]? with
 | .int k,some (some (.own l))=>if 0<=k/\k.toNat<=l.length/\l.length < 1000000 then some (.next (ds.set i (some (.own (P2 l k.toNat pv.d))))) else none
 | _,_=>none
section
variable {X:Cx} {e k o:Expr} {te tk:TE} {F Fk:Ds->Option PV} {pos cpos apos:Pos}
theorem b6z (i:Nat) (ho:PE X o (Z5 i)) (hk:PX X true k tk Fk) (he:PX X true e te F) (hst:starEach [k,e] X.env=(false,eval k X.env)::starEach [e] X.env:=by rfl) (hst2:starEach [e] X.env=(false,eval e X.env)::starEach [] X.env:=by rfl)
  (hbase:attributeBase o "insert" X.env (eval o X.env)=eval o X.env:=by rfl)
  (hfew:((backTo cpos (starEach [k,e] X.env)).all (fun x=>!x.1)&&(backToKw cpos (keywordEach [] X.env)).all (fun x=>x.1.isSome)
   && decide ([k,e].length + ([]:List Keyword).length + (if ([]:List Keyword).isEmpty then 0 else 1) < 30))=true:=by rfl)
  (hline:(apos.endLine==cpos.line)=true:=by rfl) (hplain:(backTo cpos (starEach [e] X.env)).any (·.1)=false:=by rfl)
  (hs:swapsWith (.Call (.Attribute o "insert" apos) [k,e] [] cpos) none pos.line X.env=pure false:=by rfl) :
  PSX X (.Expr (.Call (.Attribute o "insert" apos) [k,e] [] cpos) pos) (b3Y (tBM X.K "list" b6x (Z5 i) (a1w tk (a1w te a8j)))) (a8U i Fk F) :=
 ⟨a9A (b7z PySem.F.plainAttrs_list PySem.F.slot_list_insert PySem.F.type_list_insert b9T ho (a0I hk.p (a0I he.p a6b hst2) hst) hbase hfew hline hst hplain) hs,by
 intro O i4 as σ H ds D o S h q
 unfold a8U at h
 cases e1:Fk ds with
 | none=>rw [e1] at h;cases h
 | some kv =>
  cases e2:F ds with
  | none=>rw [e1,e2] at h;cases h
  | some pv =>
   rw [e1,e2] at h
   simp only [Option.bind_some] at h
   split at h
   . rename_i kk l hkk hd
     split at h
     . rename_i hl
       obtain ⟨hl0,hl1,hl2⟩:=hl
       cases h
       obtain ⟨a,xs,z1,z2,z3,z4⟩:=S.slot i _ hd
       refine ⟨_,z1,.inl ⟨rfl,xs,SqL.of z3⟩,?_⟩
       refine hk.t O i4 as σ H ds kv _ S e1 fun w H1 s1 r1=>?_
       have dk:=r1.dt S.dm
       rw [hkk] at dk
       cases dk
       have S1:=S.grow s1
       refine he.t O i4 as σ H1 ds pv _ S1 e2 fun v H2 s2 r2=>?_
       have hx:=z4.length
       refine ⟨a,xs,kk.toNat,v,rfl,by rw [Int.toNat_of_nonneg hl0],s2 _ _ (s1 _ _ z3),by omega,by omega,q as σ _ ?_⟩
       have zz:=(z4.same (P8 s1)).same (P8 s2)
       unfold P2
       exact (S1.grow s2).turn (xs:=xs) hd z1 z2 ((zz.take _).append (.cons (r2.dt S1.dm) (zz.drop _)))
     . cases h
   . cases h⟩
end
section
variable {X:Cx}
theorem c2b:MtR X "str.upper" (fun x xs H Q=>∃ z,x=.str z/\xs=[]/\(Txt.upper z).length<=1000000/\Q (.str (Txt.upper z)) H):=by
 intro pins s σ H x xs v us Q I rx rxs h
 obtain ⟨z,rfl,rfl,hz,q⟩:=h
 obtain ⟨t,rfl⟩:=rx
 cases rxs
 refine SC.upper ?_ ⟨.str _,H,I.tok _,⟨_,rfl⟩,q⟩
 have s6:(1000000:Nat) < sizeLine:=by decide
 show decide ((Txt.upper z).length > sizeLine)=false
 exact decide_eq_false (by omega)
noncomputable def a8b:PyData->Option PV
 | .str z=>if (Txt.upper z).length<=1000000 then some (.dat (.str (Txt.upper z))) else none
 | _=>none
theorem c1F {fr:Bool} {o:Expr} {to:TE} {Fo:Ds->Option PV} {apos cpos:Pos} (ho:PX X fr o to Fo) (hbase:attributeBase o "upper" X.env (eval o X.env)=eval o X.env:=by rfl) (hline:(apos.endLine==cpos.line)=true:=by rfl) :
  PX X fr (.Call (.Attribute o "upper" apos) [] [] cpos) (c1o X.K "str" (fun x xs H Q=>∃ z,x=.str z/\xs=[]/\(Txt.upper z).length<=1000000/\Q (.str (Txt.upper z)) H) to) (fUn a8b Fo) :=
 ⟨b9t F.plainAttrs_str F.slot_str_upper F.type_str_upper c2b ho.p hbase hline,by
 intro O i4 as σ H ds pv Q S hf q
 unfold fUn at hf
 cases h1:Fo ds with
 | none=>rw [h1] at hf;cases hf
 | some x =>
  rw [h1] at hf
  simp only [Option.bind_some] at hf
  refine ho.t O i4 as σ H ds x _ S h1 fun v H1 e1 r1=>?_
  have d1:=r1.dt S.dm
  unfold a8b at hf
  split at hf
  . rename_i z ez
    rw [ez] at d1
    cases d1
    split at hf
    . rename_i hz
      cases hf
      exact ⟨rfl,z,rfl,rfl,hz,q _ H1 e1 (Dt.str _)⟩
    . cases hf
  . cases hf⟩
end
section
variable {X:Cx} {C CS fi f:Addr} {fld x y cn n:Str} {fd:FuncData} {ps:List Str} {sp:Sp} {k i j:Nat} {e:Expr} {es:List Expr} {t:TA} {tb:TS} {p p1 p2 p3 p4 p5 pos:Pos} {b₀:Stmt} {suite:List Stmt}
theorem c3V (hst:X.stack=X.env::X.outer/\X.env.frame=some X.env.locals) (hnx:∀ e s,¬ X.xe e s) (F:m6 X.prog X.w X.K X.mg X.base (CX1 X.prog X.w) k f fd ps sp) (hr:M7 k X.A) (hg:Gl X x) (hm:X.mg x=some (.ref f)) (hk:PySem.W.keepIn X.K (.ref f)=true) (hb:Binds X.K fd ps [])
  (ha:PA X (e::es) t) (T:a5K X.K C CS fi fld) (hgc:Gl X cn) (hmc:X.mg cn=some (.ref C)) (hN:X.N.Nodup) (hj:X.N[j]? = some n) (hn:X.env.scope.names.lookup n=some .local) (hs:∀ ea,PSs (X.marked ea) (b₀::suite) tb)
  (hdb:(x==("__debug__" : Str))=false:=by decide) (hdc:(cn==("__debug__" : Str))=false:=by decide) (he:starEach (e::es) X.env=(false,eval e X.env)::starEach es X.env:=by rfl) (hpl:(backTo pos (starEach es X.env)).any (·.1)=false:=by rfl)
  (hsw:swapsWith (.Call (.Name x p) (e::es) [] pos) none p2.line X.env=pure false:=by rfl) :
  PS X (.Try [.Expr (.Call (.Name x p) (e::es) [] pos) p2] [.ExceptHandler (some (.Name cn p3)) (some n) (b₀::suite) p4] [] [] p5) (c5m C nxE j sp t tb):=by
 intro pins s σ H D I h
 refine wpAny_Try_except (wpAny_execs_cons (wpAny_Expr_any (wpAny_Call_Name_kw (a6h I hg hm ?_ hdb)) I.quiet hsw))
 refine PySem.W.callWith_K (h₀:=X.base) I.ok.mod.kin hk (wpAny_mono (ha pos pins s σ H _ I h) (fun us s1 ⟨vs,H1,I1,r,q⟩=>⟨I1.kIn,?_⟩) fun e s z=>(hnx e s z).elim) he hpl
 have hl:us.length=ps.length:=by rw [<-r.length];exact F.len _ _ _ _ q
 have hbd:=hb s1 us I1.kIn (by rw [append_nil];exact hl)
 rw [append_nil] at hbd
 refine wpAny_call (codeAny_mono (F.run X.A X.stack s1 H1 ⟨us,[]⟩ us vs _ _ hr I1.c2x hbd r q) fun r s' hq=>?_)
 cases r with
 | error e =>
  have hq':CX1 X.prog X.w X.stack H1 s1 (fun ev _ H2=>∃ ea dx,ev=.ref ea/\H2 ea=some (.ext (ExcAt ea C dx))/\tb (a9O j D) (σ.set j (some (.ref ea))) H2) e s':=hq
  exact c6G hst T hgc hmc hN hj hn hs I1 hq' (fun ev H' z=>z) hdc
 | ok fl =>
  cases fl with
  | ret u =>
   obtain ⟨v,H2,I2,rv,q2⟩:=I1.after hq
   exact wpAny_execs_nil (wpAny_execs_nil ⟨_,H2,I2,q2⟩)
  | next=>exact False.elim hq
  | brk=>exact False.elim hq
  | cont=>exact False.elim hq
end
section
variable {X:Cx} {C CS fi f:Addr} {fld x y cn n:Str} {fd:FuncData} {ps:List Str} {FX:List PyData->Option (PV ⊕ PyData)} {k i j:Nat} {e:Expr} {es:List Expr} {t:TA} {tb:TS} {Fl:Ds->Option (List PyData)} {Gb:Ds->Option Out} {p p1 p2 p3 p4 p5 pos:Pos} {b₀:Stmt} {suite:List Stmt}
theorem c1G (hst:X.stack=X.env::X.outer/\X.env.frame=some X.env.locals) (hnx:∀ e s,¬ X.xe e s) (F:m6 X.prog X.w X.K X.mg X.base (CX1 X.prog X.w) k f fd ps (spX X.K FX)) (hr:M7 k X.A) (hg:Gl X x) (hm:X.mg x=some (.ref f)) (hk:PySem.W.keepIn X.K (.ref f)=true) (hb:Binds X.K fd ps [])
  (ha:PAX X true (e::es) t Fl) (T:a5K X.K C CS fi fld) (hgc:Gl X cn) (hmc:X.mg cn=some (.ref C)) (hN:X.N.Nodup) (hj:X.N[j]? = some n) (hn:X.env.scope.names.lookup n=some .local) (hs:∀ ea,a4N (X.marked ea) (b₀::suite) tb Gb)
  (hdb:(x==("__debug__" : Str))=false:=by decide) (hdc:(cn==("__debug__" : Str))=false:=by decide) (he:starEach (e::es) X.env=(false,eval e X.env)::starEach es X.env:=by rfl) (hpl:(backTo pos (starEach es X.env)).any (·.1)=false:=by rfl)
  (hsw:swapsWith (.Call (.Name x p) (e::es) [] pos) none p2.line X.env=pure false:=by rfl) :
  PSX X (.Try [.Expr (.Call (.Name x p) (e::es) [] pos) p2] [.ExceptHandler (some (.Name cn p3)) (some n) (b₀::suite) p4] [] [] p5) (c5m C nxE j (spX X.K FX) t tb) (b4e C j FX Fl Gb):=by
 refine ⟨c3V hst hnx F hr hg hm hk hb ha.p T hgc hmc hN hj hn (fun ea=>(hs ea).p) hdb hdc he hpl hsw,?_⟩
 intro O i4 as σ H ds D o S hf q
 unfold b4e at hf
 cases h1:Fl ds with
 | none=>rw [h1] at hf;cases hf
 | some l =>
  rw [h1] at hf
  simp only [Option.bind_some] at hf
  cases h2:FX l with
  | none=>rw [h2] at hf;cases hf
  | some a =>
   rw [h2] at hf
   simp only [Option.bind_some] at hf
   refine ha.t O i4 as σ H ds l _ S h1 fun vs H1 e1 r1=>?_
   have D1:=(S.grow e1).dm (fr:=true)
   have hh:∀ H,hid H (vis true as) O=hid H [] (O++(vis true as).filterMap id):=fun H=>b1O (bs:=[])
   have hv:vis true as=as:=rfl
   refine ⟨O++(vis true as).filterMap id,l,a,fun b hb=>?_,by rw [<-hh];exact r1,h2,?_⟩
   . rcases mem_append.mp hb with hb | hb
     . exact D1.o b hb
     . obtain ⟨x,hx,e⟩:=List.mem_filterMap.mp hb
       have e':x=some b:=e
       subst e'
       exact D1.a b hx
   . cases a with
     | inl pv =>
      cases hf
      intro v H2 e2 r2
      have r3:RX X.K O (vis true as) H1 H2 v pv:=by
       cases pv with
       | dat d =>
        have r2':Dt X.K (hid H2 [] (O++(vis true as).filterMap id)) v d:=r2
        rw [<-hh] at r2'
        exact r2'
       | own l =>
        obtain ⟨a,xs,e3,e4,e5,r3⟩:=r2
        refine ⟨a,xs,e3,e4,e5,?_⟩
        rw [show (some a::vis true as:As)=[some a]++vis true as from rfl,b1O]
        exact r3
      exact q _ _ _ (S.grow (e1.trans e2))
     | inr x =>
      have hf':(if isExc C x=true then (Gb (ds.set j (some (.dat x)))).bind (b1j j) else none)=some o:=hf
      intro ea H2 e2 r2
      by_cases hx:isExc C x=true
      . rw [if_pos hx] at hf'
        rw [<-hh] at r2
        obtain ⟨ea',dx,ev,hea⟩:=r2.isExc hx
        cases ev
        refine ⟨ea,dx,rfl,t7 _ _ hea,?_⟩
        cases h3:Gb (ds.set j (some (.dat x))) with
        | none=>rw [h3] at hf';cases hf'
        | some o' =>
         rw [h3] at hf'
         simp only [Option.bind_some] at hf'
         exact (hs ea).t O i4 _ _ H2 _ (a9O j D) o' ((S.grow (e1.trans e2)).set j r2) h3 (q.hand hf')
      . rw [if_neg hx] at hf';cases hf'
end
end L2
set_option maxHeartbeats 4000000
namespace Law
open PySem L2
noncomputable section
noncomputable abbrev a9k:PyData:=(.str "0123456789")
noncomputable abbrev a2Z:PyData:=(.int 60)
noncomputable abbrev a9j:PyData:=(.int 24)
noncomputable abbrev a9i:PyData:=(.int 6)
noncomputable abbrev a3N:PyData:=(.int 1000000)
noncomputable abbrev a7R:PyData:=(.int 1000)
noncomputable abbrev a0f:PyData:=(.int 8)
noncomputable abbrev a5n:PyData:=(.str "abcdefghijklmnopqrstuvwxyz")
noncomputable abbrev a0F:PyData:=(.tuple [(fnD "read_amount"),(fnD "read_amount"),(fnD "read_amount"),(fnD "read_amount"),(fnD "read_share"),(fnD "read_share"),(fnD "read_amount")])
noncomputable abbrev R7:PyData:=(.tuple [(fnD "read_amount"),(fnD "read_amount")])
noncomputable abbrev a2v:PyData:=(.tuple [(fnD "read_price"),(fnD "read_amount"),(fnD "read_price"),(fnD "read_amount")])
noncomputable abbrev a0Z:PyData:=(.tuple [(fnD "read_name"),(fnD "read_amount"),(fnD "read_amount"),(fnD "read_amount"),(fnD "read_amount")])
noncomputable def Y8:Ds->Option Bool:=(m4 (fOp W6 (d5 1) (fC (.int 0))))
noncomputable def Y9:Ds->Option Out:=(i8 (j6 2 (fOp Z1 (d5 0) (d5 1))) (i8 (j6 0 (d5 1)) (j6 1 (d5 2))))
noncomputable def J4:List PyData->Option PV:=fnF 2 3 (i8 (a3r (a2b 1) Y8 Y9) (R9 0))
noncomputable def Y7:List PyData->Option PV:=fnF 2 3 (i8 (gIf (m4 (fOp v5 (d5 1) (fC (.int 0)))) a8T o8) (i8 (j6 2 (g0 J4 (d4 (g0 b1c (d4 (d5 0) e8)) (d4 (g0 b1c (d4 (d5 1) e8)) e8)))) (i8 (gIf (m4 (fOp ltD (d5 1) (fC (.int 0)))) (j6 2 (fUn a6M (d5 2))) o8) (p8 (R6 (d4 (fOp a3e (d5 0) (d5 2)) (d4 (fOp a3e (d5 1) (d5 2)) e8)))))))
noncomputable def a3d:Ds->Option Bool:=(m4 (fOp geD (d5 3) (d5 1)))
noncomputable def b2J:Ds->Option Out:=(i8 (a2j 2 (Q9 a7S (g0 a4j (d4 (fOp Z1 (d5 3) (d5 1)) e8)) (d4 (fC (.int 60)) e8))) (j6 3 (fOp a3e (d5 3) (d5 1))))
noncomputable def L9:List PyData->Option PV:=fnF 1 4 (i8 (j6 1 (fOp c1K (fC (.int 10)) (fC (.int 60)))) (i8 (a0t 2 (B1 e8)) (i8 (j6 3 (d5 0)) (i8 (a3r (a2b 3) a3d b2J) (i8 (a2j 2 (g0 a4j (d4 (d5 3) e8))) (i8 (a9K 2 List.reverse) (p8 (U1 (Q9 V8 (fC (.str "")) (d4 (d5 2) e8))))))))))
noncomputable def a0k:List PyData->Option PV:=fnF 1 2 (i8 (j6 1 (g0 L9 (d4 (g0 b1c (d4 (fOp ixD (d5 0) (fC (.int 0))) e8)) e8))) (i8 (gIf (m4 (fOp ltD (fOp ixD (d5 0) (fC (.int 0))) (fC (.int 0)))) (j6 1 (fOp m5 (fC (.str "-")) (d5 1))) o8) (i8 (gIf (m4 (fOp W6 (fOp ixD (d5 0) (fC (.int 1))) (fC (.int 1)))) (j6 1 (fOp m5 (fOp m5 (d5 1) (fC (.str "/"))) (g0 L9 (d4 (fOp ixD (d5 0) (fC (.int 1))) e8)))) o8) (R9 1))))
noncomputable def E9:Ds->Option Out:=(gIf (m4 (fOp (or2 a3p a1h) (d5 1) (fC a9k))) (p8 (fC .none)) o8)
noncomputable def B5:List PyData->Option PV:=fnF 1 2 (i8 (gIf (bOr (m4 (fOp v5 (d5 0) (fC (.str "")))) (m4 (fOp gtD (g0 H0 (d4 (d5 0) e8)) (fC a2Z)))) (p8 (fC .none)) o8) (i8 (a2i (iWk (d5 0)) (G3 1) E9) (p8 (g0 (or1 intD b4b) (d4 (d5 0) e8)))))
noncomputable def O9:List PyData->Option PV:=fnF 1 2 (i8 (gIf (a5J (m4 (Q9 a2D (d5 0) (d4 (fC (.str "-")) e8)))) (p8 (g0 B5 (d4 (d5 0) e8))) o8) (i8 (j6 1 (g0 B5 (d4 (fSl p7 (d5 0) (A5 (fC (.int 1))) D8) e8))) (i8 (gIf (m4 (fOp isD (d5 1) (fC .none))) (p8 (fC .none)) o8) (p8 (fUn a6M (d5 1))))))
noncomputable def C9:List PyData->Option PV:=fnF 1 5 (i8 (j6 1 (Q9 a9C (d5 0) (d4 (fC (.str "/")) e8))) (i8 (j6 2 (g0 O9 (d4 (fOp ixD (d5 1) (fC (.int 0))) e8))) (i8 (j6 3 (fC (.int 1))) (i8 (gIf (m4 (fOp v5 (fOp ixD (d5 1) (fC (.int 1))) (fC (.str "/")))) (j6 3 (g0 B5 (d4 (fOp ixD (d5 1) (fC (.int 2))) e8))) o8) (i8 (gIf (bOr (m4 (fOp isD (d5 2) (fC .none))) (bOr (m4 (fOp isD (d5 3) (fC .none))) (m4 (fOp v5 (d5 3) (fC (.int 0)))))) (p8 (fC .none)) o8) (i8 (j6 4 (g0 Y7 (d4 (d5 2) (d4 (d5 3) e8)))) (i8 (gIf (m4 (fOp W6 (g0 a0k (d4 (d5 4) e8)) (d5 0))) (p8 (fC .none)) o8) (R9 4))))))))
noncomputable def C8:List PyData->Option PV:=fnF 2 3 (i8 (j6 2 (g0 C9 (d4 (d5 0) e8))) (i8 (gIf (bOr (m4 (fOp isD (d5 2) (fC .none))) (bOr (m4 (fOp W6 (fOp ixD (d5 2) (fC (.int 1))) (fC (.int 1)))) (bOr (m4 (fOp ltD (fOp ixD (d5 2) (fC (.int 0))) (d5 1))) (m4 (fOp gtD (fOp ixD (d5 2) (fC (.int 0))) (fC a3N)))))) (p8 (fC .none)) o8) (p8 (fOp ixD (d5 2) (fC (.int 0))))))
noncomputable def D4:List PyData->Option PV:=fnF 1 1 (p8 (g0 C8 (d4 (d5 0) (d4 (fC (.int 0)) e8))))
noncomputable def L8:List PyData->Option PV:=fnF 1 1 (p8 (g0 C8 (d4 (d5 0) (d4 (fUn a6M (fC a3N)) e8))))
noncomputable def L7:List PyData->Option PV:=fnF 1 2 (i8 (j6 1 (g0 C9 (d4 (d5 0) e8))) (i8 (gIf (bOr (m4 (fOp isD (d5 1) (fC .none))) (bOr (m4 (fOp leD (fOp ixD (d5 1) (fC (.int 0))) (fC (.int 0)))) (bOr (m4 (fOp gtD (fOp ixD (d5 1) (fC (.int 0))) (fOp ixD (d5 1) (fC (.int 1))))) (m4 (fOp gtD (fOp ixD (d5 1) (fC (.int 1))) (fC a7R)))))) (p8 (fC .none)) o8) (R9 1)))
noncomputable def J8:Ds->Option Out:=(gIf (m4 (fOp (or2 a3p a1h) (d5 1) (fC a5n))) (p8 (fC .none)) o8)
noncomputable def J6:List PyData->Option PV:=fnF 1 2 (i8 (gIf (bOr (m4 (fOp v5 (d5 0) (fC (.str "")))) (m4 (fOp gtD (g0 H0 (d4 (d5 0) e8)) (fC a0f)))) (p8 (fC .none)) o8) (i8 (a2i (iWk (d5 0)) (G3 1) J8) (R9 0)))
noncomputable def A6:Ds->Option PV:=(a4I (a3s 0 "read_amount" D4 (d4 (d5 1) e8)) (a4I (a3s 0 "read_name" J6 (d4 (d5 1) e8)) (a4I (a3s 0 "read_price" L8 (d4 (d5 1) e8)) (a3s 0 "read_share" L7 (d4 (d5 1) e8)))))
noncomputable def o5:List PyData->Option PV:=fnF 2 3 (i8 (gIf (m4 (fOp W6 (g0 H0 (d4 (d5 0) e8)) (g0 H0 (d4 (d5 1) e8)))) (p8 (fC .none)) o8) (i8 (j6 2 (O2 (iFn a6p (d4 (d5 1) (d4 (d5 0) e8))) (a1C 2) G4 A6)) (i8 (gIf (m4 (fOp a6d (fC .none) (d5 2))) (p8 (fC .none)) o8) (p8 (g0 a4i (d4 (d5 2) e8))))))
noncomputable def z9:List PyData->Option PV:=fnF 1 2 (i8 (j6 1 (g0 o5 (d4 (fSl p7 (d5 0) (A5 (fC (.int 1))) D8) (d4 (fC a0F) e8)))) (i8 (gIf (bOr (m4 (fOp W6 (fOp ixD (d5 0) (fC (.int 0))) (fC (.str "store")))) (bOr (m4 (fOp isD (d5 1) (fC .none))) (m4 (fOp gtD (fOp ixD (d5 1) (fC (.int 1))) (fOp ixD (d5 1) (fC (.int 0))))))) (p8 (fC .none)) o8) (R9 1)))
noncomputable def A7:List PyData->Option PV:=fnF 1 3 (i8 (j6 1 (g0 o5 (d4 (fSl p7 (d5 0) (A5 (fC (.int 1))) (A5 (fC (.int 3)))) (d4 (fC R7) e8)))) (i8 (gIf (bOr (m4 (fOp W6 (fOp ixD (d5 0) (fC (.int 0))) (fC (.str "hour")))) (m4 (fOp isD (d5 1) (fC .none)))) (p8 (fC .none)) o8) (i8 (gIf (m4 (fOp v5 (fSl p7 (d5 0) (A5 (fC (.int 3))) D8) (B1 (d4 (fC (.str "dark")) e8)))) (p8 (fOp m5 (d5 1) (R6 (d4 (fC .none) e8)))) o8) (i8 (j6 2 (g0 o5 (d4 (fSl p7 (d5 0) (A5 (fC (.int 4))) D8) (d4 (fC a2v) e8)))) (i8 (gIf (bOr (m4 (fOp W6 (fSl p7 (d5 0) (A5 (fC (.int 3))) (A5 (fC (.int 4)))) (B1 (d4 (fC (.str "line")) e8)))) (m4 (fOp isD (d5 2) (fC .none)))) (p8 (fC .none)) o8) (p8 (fOp m5 (d5 1) (R6 (d4 (d5 2) e8)))))))))
noncomputable def E3:List PyData->Option PV:=fnF 2 3 (i8 (j6 2 (g0 o5 (d4 (fSl p7 (d5 0) (A5 (fC (.int 1))) D8) (d4 (fC a0Z) e8)))) (i8 (gIf (bOr (m4 (fOp W6 (fOp ixD (d5 0) (fC (.int 0))) (fC (.str "work")))) (m4 (fOp isD (d5 2) (fC .none)))) (p8 (fC .none)) o8) (i8 (gIf (bOr (m4 (fOp gtD (fOp ixD (d5 2) (fC (.int 2))) (fOp ixD (d5 2) (fC (.int 3))))) (m4 (fOp geD (fOp ixD (d5 2) (fC (.int 3))) (d5 1)))) (p8 (fC .none)) o8) (R9 2))))
noncomputable def D7:Ds->Option Out:=(i8 (j6 3 (g0 A7 (d4 (d5 2) e8))) (i8 (gIf (m4 (fOp isD (d5 3) (fC .none))) (R9 1) o8) (a2j 1 (d5 3))))
noncomputable def B9:List PyData->Option PV:=fnF 1 4 (i8 (a0t 1 (B1 e8)) (i8 (a2i (iWk (fSl p7 (d5 0) D8 (A5 (fC a9j)))) (G3 2) D7) (R9 1)))
noncomputable def C4:Ds->Option Out:=(i8 (j6 5 (g0 E3 (d4 (d5 4) (d4 (d5 1) e8)))) (i8 (gIf (bOr (m4 (fOp isD (d5 5) (fC .none))) (m4 (fOp (or2 inD a6U) (U1 (fOp ixD (d5 5) (fC (.int 0)))) (U1 (d5 3))))) (R9 2) o8) (i8 (a2j 2 (d5 5)) (a2j 3 (fOp ixD (d5 5) (fC (.int 0)))))))
noncomputable def C7:List PyData->Option PV:=fnF 2 6 (i8 (a0t 2 (B1 e8)) (i8 (a0t 3 (B1 e8)) (i8 (a2i (iWk (fSl p7 (d5 0) D8 (A5 (fC a9i)))) (G3 4) C4) (R9 2))))
noncomputable def a9u:Ds->Option PV:=(Q9 a0S (d5 0) (d4 (fC (.str " ")) e8))
noncomputable def O8 (cE:Addr):List PyData->Option (PV ⊕ PyData):=fnX 1 6 (i8 (j6 1 (O2 (iWk (d5 0)) C1 G4 a9u)) (i8 (j6 2 (fIf (m4 (fOp v5 (d5 1) (B1 e8))) (fC .none) (g0 z9 (d4 (fOp ixD (d5 1) (fC (.int 0))) e8)))) (i8 (gIf (m4 (fOp isD (d5 2) (fC .none))) (b2y a3m cE "place" (d4 (fC (.int 0)) e8)) o8) (i8 (j6 3 (g0 B9 (d4 (fSl p7 (d5 1) (A5 (fC (.int 1))) D8) e8))) (i8 (gIf (m4 (fOp v5 (d5 3) (B1 e8))) (b2y a3m cE "place" (d4 (fC (.int 1)) e8)) o8) (i8 (j6 4 (g0 C7 (d4 (fSl p7 (d5 1) (A5 (fOp m5 (fC (.int 1)) (g0 H0 (d4 (d5 3) e8)))) D8) (d4 (g0 H0 (d4 (d5 3) e8)) e8)))) (i8 (j6 5 (fOp m5 (fOp m5 (fC (.int 1)) (g0 H0 (d4 (d5 3) e8))) (g0 H0 (d4 (d5 4) e8)))) (i8 (gIf (m4 (fOp ltD (d5 5) (g0 H0 (d4 (d5 1) e8)))) (b2y a3m cE "place" (d4 (d5 5) e8)) o8) (p8 (R6 (d4 (g0 a4i (d4 (d5 3) e8)) (d4 (d5 2) (d4 (g0 a4i (d4 (d5 4) e8)) e8)))))))))))))
noncomputable def b1g:Ds->Option PV:=(Q9 a0S (d5 0) (d4 (fC (.str " ")) e8))
noncomputable def a1u:List PyData->Option PV:=fnF 1 6 (i8 (j6 1 (O2 (iWk (d5 0)) C1 G4 b1g)) (i8 (j6 2 (fIf (m4 (fOp v5 (d5 1) (B1 e8))) (fC .none) (g0 z9 (d4 (fOp ixD (d5 1) (fC (.int 0))) e8)))) (i8 (gIf (m4 (fOp isD (d5 2) (fC .none))) a8T o8) (i8 (j6 3 (g0 B9 (d4 (fSl p7 (d5 1) (A5 (fC (.int 1))) D8) e8))) (i8 (gIf (m4 (fOp v5 (d5 3) (B1 e8))) a8T o8) (i8 (j6 4 (g0 C7 (d4 (fSl p7 (d5 1) (A5 (fOp m5 (fC (.int 1)) (g0 H0 (d4 (d5 3) e8)))) D8) (d4 (g0 H0 (d4 (d5 3) e8)) e8)))) (i8 (j6 5 (fOp m5 (fOp m5 (fC (.int 1)) (g0 H0 (d4 (d5 3) e8))) (g0 H0 (d4 (d5 4) e8)))) (i8 (gIf (m4 (fOp ltD (d5 5) (g0 H0 (d4 (d5 1) e8)))) a8T o8) (p8 (R6 (d4 (g0 a4i (d4 (d5 3) e8)) (d4 (d5 2) (d4 (g0 a4i (d4 (d5 4) e8)) e8)))))))))))))
noncomputable def i5:List PyData->Option PV:=fnF 3 5 (i8 (j6 3 (fC (.int 0))) (i8 (gIf (m4 (fOp gtD (g0 H0 (d4 (d5 0) e8)) (fC (.int 0)))) (i8 (j6 3 (fOp ixD (d5 0) (fOp Z1 (d5 1) (g0 H0 (d4 (d5 0) e8))))) (gIf (m4 (fOp v5 (fOp Z1 (fOp ixD (d5 0) (fC (.int 0))) (fC (.int 2))) (fC (.int 1)))) (p8 (fOp Z1 (fOp Z1 (fOp c1u (fOp a3e (d5 3) (fC (.int 2))) (fOp a1l (fC (.int 32)) (fOp a3e (d5 1) (g0 H0 (d4 (d5 0) e8))))) (fC (.int 4294967296))) (d5 2))) o8)) o8) (i8 (j6 4 (fOp Z1 (fOp m5 (fOp a1l (fOp Z1 (d5 3) (fC (.int 2147483647))) (fC (.int 48271))) (fOp a1l (fOp a1l (fOp m5 (d5 1) (fC (.int 1))) (fOp m5 (d5 1) (fC (.int 5)))) (fC (.int 69621)))) (fC (.int 2147483629)))) (p8 (fOp Z1 (fOp Z1 (fOp a1l (d5 4) (fOp m5 (d5 4) (fC (.int 40692)))) (fC (.int 2147483587))) (d5 2))))))
noncomputable def a7x (R:List PyData->Option PV):Ds->Option PV:=(g0 R (d4 (d5 0) (d4 (d5 1) e8)))
noncomputable def V4 (R:List PyData->Option PV):List PyData->Option PV:=fnF 2 2 (i8 (gIf (bOr (m4 (U0 "tuple" (d5 1))) (m4 (U0 "list" (d5 1)))) (i8 (gIf (bOr (m4 (fOp W6 (U0 "tuple" (d5 0)) (U0 "tuple" (d5 1)))) (m4 (fOp W6 (U0 "list" (d5 0)) (U0 "list" (d5 1))))) (p8 (fC (.bool false))) o8) (p8 (a5H (fOp v5 (g0 H0 (d4 (d5 0) e8)) (g0 H0 (d4 (d5 1) e8))) (g0 b5C (d4 (O2 (iFn a6p (d4 (d5 0) (d4 (d5 1) e8))) (a1C 2) G4 (a7x R)) e8))))) o8) (i8 (gIf (bOr (m4 (U0 "bool" (d5 1))) (m4 (U0 "bool" (d5 0)))) (p8 (a5H (U0 "bool" (d5 1)) (a5H (U0 "bool" (d5 0)) (fOp v5 (d5 0) (d5 1))))) o8) (i8 (gIf (m4 (U0 "int" (d5 1))) (p8 (a5H (U0 "int" (d5 0)) (fOp v5 (d5 0) (d5 1)))) o8) (i8 (gIf (m4 (fOp isD (d5 1) (fC .none))) (p8 (fOp isD (d5 0) (fC .none))) o8) (p8 (a5H (U0 "str" (d5 0)) (fOp v5 (d5 0) (d5 1))))))))
noncomputable def J2:Nat->List PyData->Option PV
 | 0=>fun _=>none
 | n + 1=>V4 (J2 n)
noncomputable def V5:List PyData->Option PV:=J2 5
noncomputable def a2A:Ds->Option Bool:=(m4 (fOp W6 (d5 1) (fC (.int 0))))
noncomputable def a2B:Ds->Option Out:=(b2A 0 1 (d4 (d5 1) (d4 (fOp Z1 (d5 0) (d5 1)) e8)))
noncomputable def Y5:List PyData->Option PV:=fnF 2 2 (i8 (a3r (a2b 1) a2A a2B) (p8 (g0 b1c (d4 (d5 0) e8))))
noncomputable def Y4:List PyData->Option PV:=fnF 2 3 (i8 (j6 2 (g0 Y5 (d4 (d5 0) (d4 (d5 1) e8)))) (i8 (gIf (m4 (fOp ltD (d5 1) (fC (.int 0)))) (j6 2 (fUn a6M (d5 2))) o8) (p8 (R6 (d4 (fOp a3e (d5 0) (d5 2)) (d4 (fOp a3e (d5 1) (d5 2)) e8))))))
noncomputable def p6:List PyData->Option PV:=fnF 3 4 (i8 (j6 3 (g0 i5 (d4 (d5 0) (d4 (d5 1) (d4 (fC (.int 6)) e8))))) (i8 (gIf (m4 (fOp ltD (d5 3) (fC (.int 4)))) (p8 (g0 i5 (d4 (d5 0) (d4 (fOp m5 (d5 1) (fC (.int 1))) (d4 (fC (.int 21)) e8))))) o8) (i8 (gIf (m4 (fOp v5 (d5 3) (fC (.int 4)))) (R9 2) o8) (p8 (g0 i5 (d4 (d5 0) (d4 (fOp m5 (d5 1) (fC (.int 1))) (d4 (fOp m5 (d5 2) (fC (.int 1))) e8))))))))
noncomputable def U7:List PyData->Option PV:=fnF 2 2 (p8 (fOp a1l (g0 p6 (d4 (d5 0) (d4 (d5 1) (d4 (fC (.int 1000000)) e8)))) (fOp ixD (B1 (d4 (fC (.int 1)) (d4 (fC (.int 1)) (d4 (fUn a6M (fC (.int 1))) e8)))) (g0 i5 (d4 (d5 0) (d4 (fOp m5 (d5 1) (fC (.int 2))) (d4 (fC (.int 3)) e8)))))))
noncomputable def U6:List PyData->Option PV:=fnF 2 3 (i8 (gIf (m4 (fOp v5 (g0 i5 (d4 (d5 0) (d4 (fOp m5 (fC (.int 700)) (d5 1)) (d4 (fC (.int 8)) e8)))) (fC (.int 0)))) (p8 (fOp ixD (B1 (d4 (R6 (d4 (fC (.int 1)) (d4 (fC (.int 1000)) e8))) (d4 (R6 (d4 (fC (.int 999)) (d4 (fC (.int 1000)) e8))) e8))) (g0 i5 (d4 (d5 0) (d4 (fOp m5 (fC (.int 701)) (d5 1)) (d4 (fC (.int 2)) e8)))))) o8) (i8 (j6 2 (fOp m5 (fC (.int 1)) (g0 i5 (d4 (d5 0) (d4 (d5 1) (d4 (fOp ixD (B1 (d4 (fC (.int 12)) (d4 (fC (.int 1000)) e8))) (g0 i5 (d4 (d5 0) (d4 (fOp m5 (d5 1) (fC (.int 1))) (d4 (fC (.int 2)) e8))))) e8)))))) (p8 (g0 Y4 (d4 (fOp m5 (fC (.int 1)) (g0 i5 (d4 (d5 0) (d4 (fOp m5 (d5 1) (fC (.int 2))) (d4 (d5 2) e8))))) (d4 (d5 2) e8))))))
noncomputable def a3h:Ds->Option PV:=(fOp ixD (d5 4) (g0 i5 (d4 (d5 1) (d4 (fOp m5 (d5 2) (d5 0)) (d4 (fC (.int 26)) e8)))))
noncomputable def a5L:Ds->Option PV:=(Q9 V8 (fC (.str "")) (d4 (fSl p7 (d5 5) D8 (A5 (fOp m5 (fC (.int 1)) (d5 0)))) e8))
noncomputable def a1v:Ds->Option Out:=(i8 (j6 9 (fOp ixD (d5 3) (fOp Z1 (fOp m5 (fOp a1l (fC (.int 7)) (d5 8)) (fC (.int 3))) (fC (.int 26))))) (a2j 5 (Q9 V8 (fC (.str "")) (d4 (fOp m5 (fOp m5 (fSl p7 (d5 4) D8 (A5 (d5 7))) (B1 (d4 (d5 9) e8))) (fSl p7 (d5 4) (A5 (fOp m5 (d5 7) (fC (.int 1)))) (A5 (d5 6)))) e8))))
noncomputable def a0l:List PyData->Option PV:=fnF 3 10 (i8 (j6 3 (fC (.str "abcdefghijklmnopqrstuvwxyz"))) (i8 (j6 4 (O2 (iFn a4p (d4 (fC (.int 8)) e8)) C1 G4 a3h)) (i8 (a0t 5 (fSl p7 (B1 (d4 (fC (.str "hour")) (d4 (fC (.str "work")) (d4 (fC (.str "dark")) (d4 (fC (.str "line")) (d4 (fC (.str "store")) (d4 (fC (.str "x")) e8))))))) D8 (A5 (d5 2)))) (i8 (gIf (m4 (fOp v5 (g0 i5 (d4 (d5 0) (d4 (fOp m5 (d5 1) (fC (.int 8))) (d4 (fC (.int 3)) e8)))) (fC (.int 0)))) (a0t 5 (O2 (iFn a4p (d4 (d5 2) e8)) C1 G4 a5L)) o8) (i8 (gIf (m4 (fOp v5 (g0 i5 (d4 (d5 0) (d4 (fOp m5 (d5 1) (fC (.int 9))) (d4 (fC (.int 3)) e8)))) (fC (.int 0)))) (i8 (j6 6 (fOp m5 (fC (.int 1)) (g0 i5 (d4 (d5 0) (d4 (fOp m5 (d5 1) (fC (.int 10))) (d4 (fC (.int 8)) e8)))))) (i8 (j6 7 (g0 i5 (d4 (d5 0) (d4 (fOp m5 (d5 1) (fC (.int 11))) (d4 (d5 6) e8))))) (i8 (a0t 5 (B1 e8)) (a2i (iFn a4p (d4 (d5 2) e8)) (G3 8) a1v)))) o8) (R9 5))))))
noncomputable def U8:List PyData->Option PV:=fnF 2 3 (i8 (gIf (m4 (fOp v5 (g0 i5 (d4 (d5 0) (d4 (d5 1) (d4 (fC (.int 3)) e8)))) (fC (.int 0)))) (p8 (fC .none)) o8) (i8 (j6 2 (R6 (d4 (g0 U7 (d4 (d5 0) (d4 (fOp m5 (d5 1) (fC (.int 1))) e8))) (d4 (g0 p6 (d4 (d5 0) (d4 (fOp m5 (d5 1) (fC (.int 4))) (d4 (fC (.int 1000000)) e8)))) e8)))) (p8 (fOp m5 (d5 2) (R6 (d4 (g0 U7 (d4 (d5 0) (d4 (fOp m5 (d5 1) (fC (.int 6))) e8))) (d4 (g0 p6 (d4 (d5 0) (d4 (fOp m5 (d5 1) (fC (.int 9))) (d4 (fC (.int 1000000)) e8)))) e8)))))))
noncomputable def a3k:Ds->Option Out:=(i8 (j6 4 (fOp m5 (fC (.int 100)) (fOp a1l (fC (.int 16)) (d5 3)))) (i8 (j6 5 (g0 p6 (d4 (d5 0) (d4 (d5 4) (d4 (fC (.int 1000000)) e8))))) (a2j 2 (R6 (d4 (d5 5) (d4 (g0 p6 (d4 (d5 0) (d4 (fOp m5 (d5 4) (fC (.int 2))) (d4 (fC (.int 1000000)) e8)))) (d4 (g0 U8 (d4 (d5 0) (d4 (fOp m5 (d5 4) (fC (.int 4))) e8))) e8)))))))
noncomputable def a3j:Ds->Option Out:=(i8 (j6 4 (fOp m5 (fC (.int 40)) (fOp a1l (fC (.int 10)) (d5 11)))) (i8 (j6 12 (g0 i5 (d4 (d5 0) (d4 (d5 4) (d4 (d5 1) e8))))) (i8 (j6 13 (fOp m5 (d5 12) (g0 i5 (d4 (d5 0) (d4 (fOp m5 (d5 4) (fC (.int 1))) (d4 (fOp c1p (d5 1) (d5 12)) e8)))))) (i8 (j6 14 (g0 p6 (d4 (d5 0) (d4 (fOp m5 (d5 4) (fC (.int 2))) (d4 (fC (.int 1000000)) e8))))) (a2j 9 (R6 (d4 (fOp ixD (d5 10) (d5 11)) (d4 (d5 14) (d4 (d5 12) (d4 (d5 13) (d4 (g0 p6 (d4 (d5 0) (d4 (fOp m5 (d5 4) (fC (.int 4))) (d4 (fC (.int 1000000)) e8)))) e8)))))))))))
noncomputable def a0n:List PyData->Option PV:=fnF 1 15 (i8 (j6 1 (fOp m5 (fC (.int 1)) (g0 i5 (d4 (d5 0) (d4 (fC (.int 0)) (d4 (fOp ixD (B1 (d4 (fC (.int 4)) (d4 (fC (.int 24)) e8))) (g0 i5 (d4 (d5 0) (d4 (fC (.int 1)) (d4 (fC (.int 2)) e8))))) e8)))))) (i8 (a0t 2 (B1 e8)) (i8 (a2i (iFn a4p (d4 (d5 1) e8)) (G3 3) a3k) (i8 (j6 6 (g0 p6 (d4 (d5 0) (d4 (fC (.int 2)) (d4 (fC (.int 1000000)) e8))))) (i8 (j6 7 (fOp ixD (B1 (d4 (fC (.int 0)) (d4 (d5 6) (d4 (g0 i5 (d4 (d5 0) (d4 (fC (.int 4)) (d4 (fOp m5 (d5 6) (fC (.int 1))) e8)))) e8)))) (g0 i5 (d4 (d5 0) (d4 (fC (.int 5)) (d4 (fC (.int 3)) e8)))))) (i8 (j6 8 (R6 (d4 (d5 6) (d4 (d5 7) (d4 (g0 p6 (d4 (d5 0) (d4 (fC (.int 6)) (d4 (fC (.int 1000000)) e8)))) (d4 (g0 p6 (d4 (d5 0) (d4 (fC (.int 8)) (d4 (fC (.int 1000000)) e8)))) e8)))))) (i8 (j6 8 (fOp m5 (d5 8) (R6 (d4 (g0 U6 (d4 (d5 0) (d4 (fC (.int 10)) e8))) (d4 (g0 U6 (d4 (d5 0) (d4 (fC (.int 13)) e8))) (d4 (g0 p6 (d4 (d5 0) (d4 (fC (.int 16)) (d4 (fC (.int 1000000)) e8)))) e8)))))) (i8 (a0t 9 (B1 e8)) (i8 (j6 10 (g0 a0l (d4 (d5 0) (d4 (fC (.int 20)) (d4 (fC (.int 6)) e8))))) (i8 (a2i (iFn a4p (d4 (g0 i5 (d4 (d5 0) (d4 (fC (.int 18)) (d4 (fC (.int 7)) e8)))) e8)) (G3 11) a3j) (p8 (U1 (R6 (d4 (g0 a4i (d4 (d5 2) e8)) (d4 (d5 8) (d4 (g0 a4i (d4 (d5 9) e8)) e8))))))))))))))))
noncomputable def M9:List PyData->Option PV:=fnF 1 1 (i8 (gIf (m4 (fOp v5 (fOp ixD (d5 0) (fC (.int 1))) (fC (.int 1)))) (p8 (g0 a4j (d4 (fOp ixD (d5 0) (fC (.int 0))) e8))) o8) (p8 (fOp m5 (fOp m5 (g0 a4j (d4 (fOp ixD (d5 0) (fC (.int 0))) e8)) (fC (.str "/"))) (g0 a4j (d4 (fOp ixD (d5 0) (fC (.int 1))) e8)))))
noncomputable def a7y:Ds->Option PV:=(g0 (or1 a4j b1k) (d4 (d5 0) e8))
noncomputable def J3:List PyData->Option PV:=fnF 1 1 (p8 (Q9 V8 (fC (.str " ")) (d4 (O2 (iWk (d5 0)) C1 G4 a7y) e8)))
noncomputable def a3i:Ds->Option Out:=(gIf (m4 (fOp isD (d5 8) (fC .none))) (a2j 5 (g0 J3 (d4 (R6 (d4 (fC (.str "hour")) (d4 (d5 6) (d4 (d5 7) (d4 (fC (.str "dark")) e8))))) e8))) (a2j 5 (g0 J3 (d4 (fOp m5 (R6 (d4 (fC (.str "hour")) (d4 (d5 6) (d4 (d5 7) (d4 (fC (.str "line")) e8))))) (d5 8)) e8))))
noncomputable def a5M:Ds->Option PV:=(g0 J3 (d4 (fOp m5 (R6 (d4 (fC (.str "work")) e8)) (d5 0)) e8))
noncomputable def a0m:List PyData->Option PV:=fnF 1 9 (i8 (c2r (b0q 3 (a1d 1 (a1d 2 (a1d 3 b0r)))) (d5 0)) (i8 (j6 4 (R6 (d4 (g0 M9 (d4 (fOp ixD (d5 2) (fC (.int 4))) e8)) (d4 (g0 M9 (d4 (fOp ixD (d5 2) (fC (.int 5))) e8)) e8)))) (i8 (a0t 5 (B1 (d4 (g0 J3 (d4 (fOp m5 (fOp m5 (fOp m5 (R6 (d4 (fC (.str "store")) e8)) (fSl p7 (d5 2) D8 (A5 (fC (.int 4))))) (d5 4)) (fSl p7 (d5 2) (A5 (fC (.int 6))) D8)) e8)) e8))) (i8 (a2i (iWk (d5 1)) (b0q 3 (a1d 6 (a1d 7 (a1d 8 b0r)))) a3i) (p8 (U1 (fOp m5 (d5 5) (O2 (iWk (d5 3)) C1 G4 a5M))))))))
noncomputable def V1:List PyData->Option PV:=fnF 1 2 (i8 (j6 1 (B1 (d4 (fC (.str "")) (d4 (fC (.str " ")) (d4 (fC (.str "store")) (d4 (fC (.str "store 1 1 1 1 1 1")) (d4 (fC (.str "store 1 2 1 1 1 1 1")) (d4 (fC (.str "store 1 1 1 1 0 1 1")) e8)))))))) (i8 (j6 1 (fOp m5 (d5 1) (B1 (d4 (fC (.str "store 1 1 1 1 1 0 1")) (d4 (fC (.str "store 1 1 1 1 3/2 1 1")) (d4 (fC (.str "store 1 1 1 1 1 2 1")) e8)))))) (i8 (j6 1 (fOp m5 (d5 1) (B1 (d4 (fC (.str "store 1 1 1 1 2/4 1 1")) (d4 (fC (.str "store 1 1 1 1 1 1/1001 1")) (d4 (fC (.str "store 1 1 1 1 1 1 -1")) e8)))))) (i8 (j6 1 (fOp m5 (d5 1) (B1 (d4 (fC (.str "store -1 0 1 1 1 1 1")) (d4 (fC (.str "store 1 1 1 1 1 1 1 1")) (d4 (fC (.str "store 1 1 1 1 -1/2 1 1")) e8)))))) (i8 (j6 1 (fOp m5 (d5 1) (B1 (d4 (fC (.str "store 1000001 1 1 1 1 1 1")) (d4 (fC (.str "store 1 1 1/2 1 1 1 1")) (d4 (fC (.str "Store 1 1 1 1 1 1 1")) (d4 (fC (.str "hour")) e8))))))) (i8 (j6 1 (fOp m5 (d5 1) (B1 (d4 (fC (.str "hour 1")) (d4 (fC (.str "hour 1 1")) (d4 (fC (.str "hour 1 1 line")) (d4 (fC (.str "hour 1 1 dark 1")) (d4 (fC (.str "hour 1 1 light")) e8)))))))) (i8 (j6 1 (fOp m5 (d5 1) (B1 (d4 (fC (.str "hour 1 1 line 1 1 1")) (d4 (fC (.str "hour 1 1 line 1 1 1 1 1")) (d4 (fC (.str "hour 1 1 dark 1 1 1 1")) (d4 (fC (.str "hour -1 1 dark")) e8))))))) (i8 (j6 1 (fOp m5 (d5 1) (B1 (d4 (fC (.str "hour 1 -1 dark")) (d4 (fC (.str "hour 01 1 dark")) (d4 (fC (.str "hour 1 1000001 dark")) (d4 (fC (.str "hour 1 1 line 1 -1 1 1")) e8))))))) (i8 (j6 1 (fOp m5 (d5 1) (B1 (d4 (fC (.str "hour 1 1 line 1 1 1 -1")) (d4 (fC (.str "hour 1 1 line 1000001 1 1 1")) (d4 (fC (.str "hour 1/2 1 dark")) e8)))))) (i8 (j6 1 (fOp m5 (d5 1) (B1 (d4 (fC (.str "hour 1 1 line 1 1 -1000001 1")) (d4 (fC (.str "hour 1 1 line x 1 1 1")) (d4 (fC (.str "hour 1 1 line -0 1 1 1")) e8)))))) (i8 (j6 1 (fOp m5 (d5 1) (B1 (d4 (fC (.str "hour 1 1 DARK")) (d4 (fC (.str "work")) (d4 (fC (.str "work a")) (d4 (fC (.str "work a 1")) (d4 (fC (.str "work a 1 0 0")) (d4 (fC (.str "work a 1 0 0 1 1")) e8))))))))) (i8 (j6 1 (fOp m5 (d5 1) (B1 (d4 (fC (.str "work a 1 1 0 1")) (d4 (fC (.str "work a 1 0 24 1")) (d4 (fC (.str "work A 1 0 0 1")) (d4 (fC (.str "work a1 1 0 0 1")) e8))))))) (i8 (j6 1 (fOp m5 (d5 1) (B1 (d4 (fC (.str "work ninelettr 1 0 0 1")) (d4 (fC (.str "work a -1 0 0 1")) (d4 (fC (.str "work a 1 -1 0 1")) (d4 (fC (.str "work a 1 0 0 -1")) e8))))))) (i8 (j6 1 (fOp m5 (d5 1) (B1 (d4 (fC (.str "work a 1000001 0 0 1")) (d4 (fC (.str "work a 1 0 0 1000001")) (d4 (fC (.str "work a 01 0 0 1")) (d4 (fC (.str "work a 1 0 0 1/2")) e8))))))) (i8 (j6 1 (fOp m5 (d5 1) (B1 (d4 (fC (.str "work a 1 0 1/2 1")) (d4 (fC (.str "work a x 0 0 1")) (d4 (fC (.str "end")) (d4 (fC (.str "dark")) (d4 (fC (.str "line")) (d4 (fC (.str "hour 1 1 line 1 1 1 +1")) e8))))))))) (i8 (j6 1 (fOp m5 (d5 1) (B1 (d4 (fC (.str "work a 1_0 0 0 1")) e8)))) (p8 (fOp ixD (d5 1) (fOp Z1 (d5 0) (fC (.int 63)))))))))))))))))))))
noncomputable def a5N:Ds->Option PV:=(d5 0)
noncomputable def a1t:Ds->Option Bool:=(m4 (fOp v5 (fOp ixD (d5 2) (d5 0)) (fC (.str " "))))
noncomputable def Y6:List PyData->Option PV:=fnF 2 5 (i8 (j6 2 (g0 i5 (d4 (d5 0) (d4 (fC (.int 801)) (d4 (fC (.int 4)) e8))))) (i8 (j6 3 (O2 (iFn a4p (d4 (g0 H0 (d4 (d5 1) e8)) e8)) C1 a1t a5N)) (i8 (gIf (m4 (fOp v5 (d5 2) (fC (.int 0)))) (p8 (fOp m5 (fC (.str " ")) (d5 1))) o8) (i8 (gIf (m4 (fOp v5 (d5 2) (fC (.int 1)))) (p8 (fOp m5 (d5 1) (fC (.str " ")))) o8) (i8 (j6 4 (fOp ixD (d5 3) (g0 i5 (d4 (d5 0) (d4 (fC (.int 802)) (d4 (g0 H0 (d4 (d5 3) e8)) e8)))))) (p8 (fOp m5 (fOp m5 (fSl p7 (d5 1) D8 (A5 (d5 4))) (fC (.str " "))) (fSl p7 (d5 1) (A5 (d5 4)) D8))))))))
noncomputable def b1V:Ds->Option PV:=(d5 0)
noncomputable def a3Z:Ds->Option Bool:=(m4 (fOp (or2 inD a6U) (fOp ixD (fOp ixD (d5 3) (d5 0)) (fC (.int 0))) (fC (.str "-0123456789"))))
noncomputable def a0v:List PyData->Option PV:=fnF 2 8 (i8 (j6 2 (Q9 a0S (d5 1) (d4 (fC (.str " ")) e8))) (i8 (j6 3 (g0 i5 (d4 (d5 0) (d4 (fC (.int 803)) (d4 (fC (.int 3)) e8))))) (i8 (gIf (m4 (fOp v5 (d5 3) (fC (.int 0)))) (p8 (fOp m5 (fOp m5 (d5 1) (fC (.str " "))) (fOp ixD (B1 (d4 (fC (.str "7")) (d4 (fC (.str "x")) (d4 (fOp ixD (d5 2) (fUn a6M (fC (.int 1)))) e8)))) (g0 i5 (d4 (d5 0) (d4 (fC (.int 804)) (d4 (fC (.int 3)) e8))))))) o8) (i8 (gIf (m4 (fOp v5 (d5 3) (fC (.int 1)))) (p8 (Q9 V8 (fC (.str " ")) (d4 (fSl p7 (d5 2) D8 (A5 (fUn a6M (fC (.int 1))))) e8))) o8) (i8 (j6 4 (O2 (iFn b7r (d4 (fC (.int 1)) (d4 (g0 H0 (d4 (d5 2) e8)) e8))) C1 a3Z b1V)) (i8 (j6 5 (fOp ixD (d5 4) (g0 i5 (d4 (d5 0) (d4 (fC (.int 805)) (d4 (g0 H0 (d4 (d5 4) e8)) e8)))))) (i8 (j6 6 (fOp ixD (d5 2) (d5 5))) (i8 (j6 7 (B1 (d4 (fOp m5 (fC (.str "+")) (d5 6)) (d4 (fOp m5 (fC (.str "0")) (d5 6)) (d4 (fOp m5 (d5 6) (fC (.str "_0"))) (d4 (fC (.str "1000001")) (d4 (fC (.str "-1000001")) (d4 (fOp m5 (d5 6) (fC (.str "x"))) (d4 (fOp m5 (d5 6) (fC (.str "/1"))) (d4 (fC (.str "1/1001")) (d4 (fC (.str "1000/1001")) e8))))))))))) (p8 (Q9 V8 (fC (.str " ")) (d4 (fOp m5 (fOp m5 (fSl p7 (d5 2) D8 (A5 (d5 5))) (B1 (d4 (fOp ixD (d5 7) (g0 i5 (d4 (d5 0) (d4 (fC (.int 806)) (d4 (fC (.int 9)) e8))))) e8))) (fSl p7 (d5 2) (A5 (fOp m5 (d5 5) (fC (.int 1)))) D8)) e8)))))))))))
noncomputable def Y3:List PyData->Option PV:=fnF 2 6 (i8 (j6 2 (g0 i5 (d4 (d5 0) (d4 (fC (.int 807)) (d4 (fC (.int 6)) e8))))) (i8 (a6X 1 (a0t 1 (g0 a9G (d4 (d5 1) e8)))) (i8 (j6 3 (fLF (U1 (g0 i5 (d4 (d5 0) (d4 (fC (.int 808)) (d4 (fOp m5 (g0 H0 (d4 (d5 1) e8)) (fC (.int 1))) e8))))))) (i8 (gIf (bOr (m4 (fOp v5 (d5 2) (fC (.int 0)))) (m4 (fOp v5 (U1 (d5 3)) (U1 (g0 H0 (d4 (d5 1) e8)))))) (a8U 1 (d5 3) (g0 V1 (d4 (g0 i5 (d4 (d5 0) (d4 (fC (.int 809)) (d4 (fC (.int 63)) e8)))) e8))) (gIf (m4 (fOp v5 (d5 2) (fC (.int 1)))) (a2h 1 (d5 3) (g0 Y6 (d4 (d5 0) (d4 (a1L 1 (d5 3)) e8)))) (gIf (m4 (fOp v5 (d5 2) (fC (.int 2)))) (a2h 1 (d5 3) (fOp m5 (fUn a8b (fOp ixD (a1L 1 (d5 3)) (fC (.int 0)))) (fSl p7 (a1L 1 (d5 3)) (A5 (fC (.int 1))) D8))) (gIf (m4 (fOp v5 (d5 2) (fC (.int 3)))) (i8 (j6 3 (g0 i5 (d4 (d5 0) (d4 (fC (.int 810)) (d4 (fC (.int 2)) e8))))) (a6X 1 (a0t 1 (fSl p7 (d5 1) D8 (A5 (d5 3)))))) (a2h 1 (d5 3) (g0 a0v (d4 (d5 0) (d4 (a1L 1 (d5 3)) e8)))))))) (i8 (gIf (m4 (fOp v5 (g0 i5 (d4 (d5 0) (d4 (fC (.int 811)) (d4 (fC (.int 2)) e8)))) (fC (.int 0)))) (i8 (j6 4 (fOp m5 (fOp m5 (d5 3) (fC (.int 1))) (g0 i5 (d4 (d5 0) (d4 (fC (.int 812)) (d4 (fC (.int 9)) e8)))))) (i8 (j6 5 (g0 V1 (d4 (g0 i5 (d4 (d5 0) (d4 (fC (.int 813)) (d4 (fC (.int 63)) e8)))) e8))) (a8U 1 (fLF (U1 (g0 minD (d4 (g0 H0 (d4 (d5 1) e8)) (d4 (d5 4) e8))))) (d5 5)))) o8) (p8 (U1 (R6 (d4 (d5 1) (d4 (d5 3) e8))))))))))
noncomputable def M8 (cE:Addr):List PyData->Option PV:=fnF 1 3 (i8 (j6 1 (fC .none)) (i8 (b4e cE 2 (O8 cE) (d4 (d5 0) e8) (j6 1 (d5 2))) (i8 (gIf (bOr (m4 (fOp isD (d5 1) (fC .none))) (bOr (a5J (m4 (a7o cE true (d5 1)))) (a5J (m4 (a7o cE true (d5 1)))))) (p8 (fC .none)) o8) (i8 (gIf (bOr (m4 (a7o cE false (d5 1))) (m4 (a7o cE false (d5 1)))) (p8 (fC .none)) o8) (i8 (gIf (bOr (m4 (a7o cE false (d5 1))) (m4 (a7o cE false (d5 1)))) (p8 (fC .none)) o8) (p8 (b5l "place" (d5 1))))))))
noncomputable def a4a (cE:Addr):List PyData->Option PV:=fnF 1 4 (i8 (j6 1 (g0 a0n (d4 (d5 0) e8))) (i8 (j6 2 (g0 a0m (d4 (d5 1) e8))) (i8 (j6 3 (g0 Y3 (d4 (d5 0) (d4 (d5 2) e8)))) (i8 (gIf (a5J (m4 (g0 V5 (d4 (g0 (M8 cE) (d4 (fOp ixD (d5 3) (fC (.int 0))) e8)) (d4 (fOp ixD (d5 3) (fC (.int 1))) e8))))) (p8 (fC (.bool false))) o8) (p8 (g0 V5 (d4 (g0 a1u (d4 (d5 2) e8)) (d4 (d5 1) e8))))))))
end
end Law
set_option maxHeartbeats 400000
local macro_rules | `(tactic| walk_at "r") => `(tactic| simp only [L2.fnF, L2.a9J, L2.a1Q, L2.b0o, L2.b0p, L2.a8q, L2.b2z, L2.a8O, L2.b0H, L2.a5h, L2.gIf, L2.p8, L2.R9, L2.b8h, L2.o8, L2.b8i, L2.b5g, L2.b8k, L2.b8j, L2.b2A, L2.a1j, L2.a2i, L2.a3r, L2.a6X, L2.a8V, L2.d5, L2.fC, L2.fOp, L2.fUn, L2.g0, L2.R6, L2.B1, L2.fSl, L2.fIf, L2.a5H, L2.fOr, L2.c2t, L2.b5m, L2.U0, L2.b8m, L2.Flat, L2.U1, L2.frz, L2.O2, L2.D8, L2.A5, L2.a6m, L2.a3c, L2.d4, L2.e8, L2.m4, L2.a5J, L2.c2I, L2.bOr, L2.G4, L2.iFn, L2.iSq, L2.a6z, L2.a8p, L2.b0w, L2.a8G, L2.a0Y, L2.a0j, L2.G3, L2.b0q, L2.a1d, L2.b0r, L2.C1, L2.a1C, L2.PV.t9, L2.PV.a3g, L2.a2b,
 L2.a1O,L2.b0k,L2.b2m,L2.b2p,L2.b2w,L2.b2x,L2.a4J,L2.b0A,L2.a7p,L2.b0z,L2.b2t,L2.K5,L2.b1b,L2.b0y,L2.a3q,L2.b0E,L2.a8i,L2.b0j,L2.a6R,L2.a8N,L2.b2d,L2.b0m,L2.a2S,L2.a5w,L2.b0W,L2.b0G,L2.a8P,L2.a8k,L2.a9h,L2.a1L,L2.b5k,L2.a9K,L2.q9,L2.b8y,L2.b8x,L2.b8w,L2.b8v,L2.b8u,L2.b8t,L2.b8s,L2.isI,L2.b2a,String.reduceBEq,
 Option.bind_some,Option.bind_none,Option.map_some,Option.map_none,map_cons,map_nil,length_cons,length_nil,List.replicate,cons_append,nil_append,append_nil,set_cons_zero,set_cons_succ,List.getElem?_cons_zero,List.getElem?_cons_succ,Nat.reduceAdd,Nat.reduceSub,Nat.reduceEqDiff,Nat.reduceLeDiff,Nat.reduceLT,Int.reduceToNat,Int.cast_ofNat_Int,eq_self,
 if_true,if_false,reduceIte,decide_eq_true_eq,decide_true,decide_false,Bool.false_eq_true,Bool.not_eq_true',decide_eq_false_iff_not,Bool.not_true,Bool.not_false,not_true_eq_false,not_false_eq_true,Bool.true_or,Bool.false_or,Bool.or_true,Bool.or_false,Bool.and_true,Bool.true_and,Bool.and_false,Bool.false_and,reduceCtorEq,and_self])
namespace Law
open PySem L2
noncomputable abbrev gc (a b:Int):Int:=(Int.gcd a b:Nat)
theorem b5b (x y:Int):Int.gcd y (x.fmod y)=Int.gcd x y:=by
 rw [Int.fmod_def]
 apply Nat.dvd_antisymm
 . apply Int.dvd_gcd
   . have h1:((Int.gcd y (x - y * x.fdiv y):Nat):Int) ∣ y:=Int.gcd_dvd_left ..
     have h2:((Int.gcd y (x - y * x.fdiv y):Nat):Int) ∣ x - y * x.fdiv y:=Int.gcd_dvd_right ..
     have h3:=Int.dvd_add h2 (Int.dvd_mul_of_dvd_left (c:=x.fdiv y) h1)
     rwa [Int.sub_add_cancel] at h3
   . exact Int.gcd_dvd_left ..
 . apply Int.dvd_gcd
   . exact Int.gcd_dvd_right ..
   . exact Int.dvd_sub (Int.gcd_dvd_left ..) (Int.dvd_mul_of_dvd_left (Int.gcd_dvd_right ..))
theorem a6e (x:Int) {y:Int} (h:y ≠ 0):(x.fmod y).natAbs < y.natAbs:=by
 rcases Int.lt_or_gt_of_ne h with hy | hy
 . have e:Int.fmod x y=x % y + if 0<=y\/y ∣ x then 0 else y:=Int.fmod_eq_emod
   have h1:=Int.emod_nonneg x h
   have h2:=Int.emod_lt x h
   split at e <;> omega
 . have h1:=Int.fmod_nonneg_of_pos x hy
   have h2:=Int.fmod_lt_of_pos x hy
   omega
noncomputable def D6 (t b:Int):Int × Int:=(t.fdiv (if b < 0 then -gc t b else gc t b),b.fdiv (if b < 0 then -gc t b else gc t b))
structure c8b (m:Nat) (q:Int × Int):Prop where
 pos:0 < q.2
 low:Int.gcd q.1 q.2=1
 bt:Bt m q.1
 bb:Bt m q.2
theorem c3n {m:Nat} {t b:Int} (hb:b ≠ 0) (h:Bt m b):Bt m (gc t b):=h.of_le (by
 have h1:=Int.gcd_le_natAbs_right t hb
 show ((Int.gcd t b:Nat):Int).natAbs<=_
 omega)
theorem c3m {t b:Int} (hb:b ≠ 0):gc t b ≠ 0:=by
 have h1:=Int.gcd_pos_of_ne_zero_right t hb
 show ((Int.gcd t b:Nat):Int) ≠ 0
 omega
theorem c6A (t b:Int):gc (if t < 0 then -t else t) (if b < 0 then -b else b)=gc t b:=by
 show ((Int.gcd _ _:Nat):Int)=(Int.gcd t b:Nat)
 have e1:∀ x y:Int,Int.gcd (if x < 0 then -x else x) y=Int.gcd x y:=fun x y=>by split <;> simp
 have e2:∀ x y:Int,Int.gcd x (if y < 0 then -y else y)=Int.gcd x y:=fun x y=>by split <;> simp
 rw [e1,e2]
noncomputable abbrev fr (q:Int × Int):PyData:=.tuple [.int q.1,.int q.2]
theorem b5I (x y:Int) (z:Option PV):Y8 [iD x,iD y,z]=some (!decide (y=0)):=by
 unfold Y8
 walk_at "r"
theorem c2N (x:Int) {y:Int} (z:Option PV) (h:y ≠ 0):Y9 [iD x,iD y,z]=some (.next [iD y,iD (x.fmod y),iD (x.fmod y)]):=by
 unfold Y9
 walk_at "r"
 rw [S6 h]
 walk_at "r"
theorem c0B {x y:Int} (hx:0<=x) (hy:0<=y):J4 [.int x,.int y]=some (.dat (.int (gc x y))):=by
 unfold J4
 walk_at "r"
 obtain ⟨ds',h1,⟨x',y',z',rfl,hg,hx',hy'⟩,h3⟩:=b2M (Fc:=Y8) (G:=Y9) (fun ds=>∃ x' y' z',ds=[iD x',iD y',z']/\gc x' y'=gc x y/\0<=x'/\0<=y') (fun ds=>a2b 1 ds - 1) (by
  rintro ds ⟨x',y',z',rfl,hg,hx',hy'⟩
  rw [b5I]
  by_cases h:y'=0
  . left;simp [h]
  . right
    refine ⟨by simp [h],_,c2N x' z' h,⟨y',x'.fmod y',_,rfl,?_,hy',Int.fmod_nonneg_of_pos x' (by omega)⟩,?_⟩
    . rw [<-hg]
      show ((Int.gcd y' (x'.fmod y'):Nat):Int)=(Int.gcd x' y':Nat)
      rw [b5b]
    . have:=a6e x' h
      walk_at "r"
      omega) (y.natAbs + 1) [iD x,iD y,none] ⟨x,y,none,rfl,rfl,hx,hy⟩ (by walk_at "r";omega)
 rw [b5I] at h3
 have hz:y'=0:=by simpa using h3
 subst hz
 have e:gc x' 0=x':=by show ((Int.gcd x' 0:Nat):Int)=x';rw [Int.gcd_zero_right];omega
 rw [h1,<-hg,e]
 walk_at "r"
theorem b6c {t b:Int} (hb:b ≠ 0) (hbb:Bt 8000 b):Y7 [.int t,.int b]=some (.dat (fr (D6 t b))):=by
 unfold Y7
 walk_at "r"
 rw [if_neg hb]
 walk_at "r"
 rw [c0B (by split <;> omega) (by split <;> omega),c6A]
 walk_at "r"
 have hg:=c3m (t:=t) hb
 have hgb:=c3n (t:=t) hb hbb
 unfold D6
 by_cases h0:b < 0
 . simp only [if_pos h0]
   walk_at "r"
   rw [U4 (by omega) hgb.neg,U4 (by omega) hgb.neg]
   rfl
 . simp only [if_neg h0]
   walk_at "r"
   rw [U4 hg hgb,U4 hg hgb]
   rfl
theorem c4Q {j:Int} (h0:0<=j:=by decide) (h1:j<=1000000:=by decide):a9v 10 j:=⟨h0,h1,by decide⟩
end Law
local macro_rules | `(tactic| walk_at "t") => `(tactic| simp only [L2.fnF, L2.a4I, L2.a9H, L2.Q9, L2.B1, L2.iWk, L2.b4h, L2.a2D, L2.findD, L2.a9J, L2.a1Q, L2.b0o, L2.b0p, L2.a8q, L2.b2z, L2.a8O, L2.b0H, L2.a5h, L2.gIf, L2.p8, L2.R9, L2.b8h, L2.o8, L2.b8i, L2.b5g, L2.b8k, L2.b8j, L2.b2A, L2.a1j, L2.a2i, L2.a3r, L2.a6X, L2.a8V, L2.d5, L2.fC, L2.fOp, L2.fUn, L2.g0, L2.R6, L2.B1, L2.fSl, L2.fIf, L2.a5H, L2.fOr, L2.c2t, L2.b5m, L2.U0, L2.b8m, L2.Flat, L2.U1, L2.frz, L2.O2, L2.D8, L2.A5, L2.a6m, L2.a3c, L2.d4, L2.e8, L2.m4, L2.a5J, L2.c2I, L2.bOr, L2.G4, L2.iFn, L2.iSq, L2.a6z, L2.a8p, L2.b0w, L2.a8G, L2.a0Y, L2.a0j, L2.G3, L2.b0q, L2.a1d, L2.b0r, L2.C1, L2.a1C, L2.PV.t9, L2.PV.a3g, L2.a2b,
 L2.a1O,L2.b0k,L2.b2m,L2.b2p,L2.b2w,L2.b2x,L2.a4J,L2.b0A,L2.a7p,L2.b0z,L2.b2t,L2.K5,L2.b1b,L2.b0y,L2.a3q,L2.b0E,L2.a8i,L2.b0j,L2.a6R,L2.a8N,L2.b2d,L2.b0m,L2.a2S,L2.a5w,L2.b0W,L2.b0G,L2.a8P,L2.a8k,L2.a9h,L2.a1L,L2.b5k,L2.a9K,L2.b1I,L2.b1L,L2.b1M,L2.b1K,L2.b1J,L2.b8y,L2.b8x,L2.b8w,L2.b8v,L2.b8u,L2.b8t,L2.b8s,L2.isI,L2.b2a,String.reduceBEq,
 Option.bind_some,Option.bind_none,Option.map_some,Option.map_none,map_cons,map_nil,length_cons,length_nil,List.replicate,cons_append,nil_append,append_nil,set_cons_zero,set_cons_succ,List.getElem?_cons_zero,List.getElem?_cons_succ,Nat.reduceAdd,Nat.reduceSub,Nat.reduceEqDiff,Nat.reduceLeDiff,Nat.reduceLT,Int.reduceToNat,Int.cast_ofNat_Int,eq_self,
 if_true,if_false,reduceIte,decide_eq_true_eq,decide_true,decide_false,Bool.false_eq_true,Bool.not_eq_true',decide_eq_false_iff_not,Bool.not_true,Bool.not_false,not_true_eq_false,not_false_eq_true,Bool.true_or,Bool.false_or,Bool.or_true,Bool.or_false,Bool.and_true,Bool.true_and,Bool.and_false,Bool.false_and,reduceCtorEq,and_self])
namespace Law
open PySem L2 PySem.NumText PySem.StrLaws
noncomputable abbrev j8 (i:Int):Str:=Str.ofString (toString i)
theorem c2g {n:Nat} (h:n < 10 ^ 60):n.log2 < 1920:=by
 by_cases h0:n=0
 . subst h0;decide
 . exact (Nat.log2_lt h0).mpr (Nat.lt_of_lt_of_le (Nat.lt_trans h (show 10 ^ 60 < 2 ^ 200 by decide)) (Nat.pow_le_pow_right (by decide) (by decide)))
theorem a6v {i:Int} (h:i.natAbs < 10 ^ 60):a4j [.int i]=some (.dat (.str (j8 i))):=by
 show (if i.natAbs.log2 < 1920 then some (PV.dat (.str (j8 i))) else none)=_
 rw [if_pos (c2g h)]
theorem c0l (z:Str) (h:z.length<=1000):V8 (.str "") [.list [.str z]]=some (.dat (.str z)):=by
 have e:strsOf [.str z]=some [z]:=rfl
 unfold V8
 simp only [e,Option.bind_some]
 have hj:JoinOk "" [z]=true:=by
  unfold JoinOk
  show (!decide (0 + z.length + 0 > sizeLine))=true
  have : ¬ (0 + z.length + 0 > sizeLine) := by have := a4u; have : (1000 : Nat) <= sizeLine := by decide
                                               omega
  rw [decide_eq_false this]
  rfl
 rw [if_pos hj]
 rfl
theorem a0K {i:Int} (h:i.natAbs < 10 ^ 60):(j8 i).length<=61:=by
 rw [u4,X8]
 have hl:=(a6K (n:=i.natAbs) (k:=60) (by decide)).mpr h
 unfold H9
 split
 . rw [length_cons];omega
 . omega
theorem b1P {n:Int} (h0:0<=n) (h:n.natAbs < 10 ^ 60):L9 [.int n]=some (.dat (.str (j8 n))):=by
 have hC:a3d [iD n,iD (10 ^ 60),some (.own []),iD n]=some false:=by
  unfold a3d
  walk_at "t"
  congr 1
  exact decide_eq_false (by omega)
 unfold L9
 walk_at "t"
 rw [c1J c4Q]
 walk_at "t"
 rw [a7V hC]
 walk_at "t"
 rw [a6v h,U5 (l:=[]) _ rfl (by decide)]
 walk_at "t"
 show ((V8 (.str "") [.list [.str (j8 n)]]).bind _).bind _=_
 rw [c0l _ (Nat.le_trans (a0K h) (by decide))]
 rfl
theorem M6 {x y:Str} (h:x.length + y.length<=1000000):m5 (.str x) (.str y)=some (.dat (.str (x++y))):=by
 show (if x.length + y.length<=1000000 then some (PV.dat (.str (x++y))) else none)=_
 rw [if_pos h]
theorem c0i:lz (Str.ofString "-")=[45]:=by decide +kernel
theorem a1S:lz (Str.ofString "/")=[47]:=by decide +kernel
theorem b9V {i:Int} (h:i < 0):((Str.ofString "-")++j8 (-i))=j8 i:=by
 apply D3
 rw [D5,c0i,X8,X8]
 unfold H9
 rw [if_neg (by omega),if_pos h,Int.natAbs_neg]
 rfl
noncomputable def B7 (p:Int × Int):Str:=if p.2=1 then j8 p.1 else j8 p.1++(Str.ofString "/")++j8 p.2
structure Small (p:Int × Int):Prop where
 top:p.1.natAbs < 10 ^ 60
 bot:p.2.natAbs < 10 ^ 60
 pos:0 < p.2
theorem b6V {p:Int × Int} (h:Small p):a0k [fr p]=some (.dat (.str (B7 p))):=by
 have hb0:0<=p.2:=by have:=h.pos;omega
 have lt1:=a0K h.top
 have lt2:=a0K h.bot
 have ls:(Str.ofString "/").length=1:=by decide +kernel
 have lm:(Str.ofString "-").length=1:=by decide +kernel
 have ha:0<=(if p.1 < 0 then -p.1 else p.1):=by split <;> omega
 have han:(if p.1 < 0 then -p.1 else p.1).natAbs < 10 ^ 60:=by
  split
  . rw [Int.natAbs_neg];exact h.top
  . exact h.top
 unfold a0k B7
 walk_at "t"
 rw [b1P ha han]
 walk_at "t"
 have hs:(if p.1 < 0 then c2h (m5 (.str (Str.ofString "-")) (.str (j8 (if p.1 < 0 then -p.1 else p.1)))) 1 [some (.dat (fr p)),some (.dat (.str (j8 (if p.1 < 0 then -p.1 else p.1))))] else some (Out.next [some (.dat (fr p)),some (.dat (.str (j8 (if p.1 < 0 then -p.1 else p.1))))]))=some (Out.next [some (.dat (fr p)),some (.dat (.str (j8 p.1)))]):=by
  by_cases hn:p.1 < 0
  . have l3:=a0K (i:=-p.1) (by rw [Int.natAbs_neg];exact h.top)
    rw [if_pos hn,if_pos hn,M6 (by omega),b9V hn]
    rfl
  . rw [if_neg hn,if_neg hn]
 rw [hs]
 walk_at "t"
 by_cases h1:p.2=1
 . rw [if_neg (by simpa using h1),if_pos h1]
   walk_at "t"
 . rw [if_pos (by simpa using h1),if_neg h1,M6 (by omega)]
   walk_at "t"
   rw [b1P hb0 h.bot]
   walk_at "t"
   rw [M6 (by rw [u4,D5,length_append,<-u4,<-u4];omega)]
   walk_at "t"
noncomputable def dig (c:Nat):Bool:=decide (48<=c/\c<=57)
theorem a9S {cs:List Nat}:cs.all dig=true ↔ AllDigits cs:=by
 rw [all_eq_true]
 exact ⟨fun h c hc=>of_decide_eq_true (h c hc),fun h c hc=>decide_eq_true (h c hc)⟩
theorem c4D:lz (Str.ofString "0123456789")=[48,49,50,51,52,53,54,55,56,57]:=by decide +kernel
theorem c4K (c:Nat):decide (c ∈ lz (Str.ofString "0123456789"))=dig c:=by
 rw [c4D]
 unfold dig
 rw [Bool.eq_iff_iff,decide_eq_true_eq,decide_eq_true_eq]
 simp only [mem_cons,not_mem_nil,or_false]
 omega
theorem b9O (c:Nat):(or2 a3p a1h) (.str ⟨#[c]⟩) (.str (Str.ofString "0123456789"))=some (.dat (.bool (!dig c))):=by
 show a1h (.str ⟨#[c]⟩) (.str (Str.ofString "0123456789"))=_
 show some (PV.dat (.bool (!Txt.contains (Str.ofString "0123456789") ⟨#[c]⟩)))=_
 rw [a2u,c4K]
noncomputable def O0 (cs:List Nat):Option Nat:=if cs ≠ []/\cs.length<=60/\cs.all dig=true then some (digitsVal cs) else none
noncomputable def b4P:Option Nat->PyData
 | none=>.none
 | some n=>.int (n:Nat)
noncomputable def b2u:Option Int->PyData
 | none=>.none
 | some n=>.int n
theorem c0X (z:Str) (c:Nat):E9 [some (.dat (.str z)),some (.dat (.str ⟨#[c]⟩))]=if dig c=true then some (.next [some (.dat (.str z)),some (.dat (.str ⟨#[c]⟩))]) else some (.ret (.dat .none)):=by
 unfold E9
 walk_at "t"
 rw [show (a9k:PyData)=.str (Str.ofString "0123456789") from rfl,b9O]
 walk_at "t"
 cases dig c <;> rfl
theorem b0b (z:Str):∀ (l:List Nat) (y:Option PV),(l.all dig=true->∃ y',K6 (G3 1) E9 (l.map fun c=>.str ⟨#[c]⟩) [some (.dat (.str z)),y]=some (.next [some (.dat (.str z)),y']))/\(l.all dig=false->K6 (G3 1) E9 (l.map fun c=>.str ⟨#[c]⟩) [some (.dat (.str z)),y]=some (.ret (.dat .none)))
 | [],y=>⟨fun _=>⟨y,rfl⟩,fun h=>by cases h⟩
 | c::r,y=>by
  obtain ⟨h1,h2⟩:=b0b z r (some (.dat (.str ⟨#[c]⟩)))
  have hb:=c0X z c
  rw [all_cons,map_cons]
  cases hc:dig c with
  | true =>
   rw [hc,if_pos rfl] at hb
   have e:=a0X (gt:=G3 1) (G:=E9) (d:=.str ⟨#[c]⟩) (r:=r.map fun c=>.str ⟨#[c]⟩) (ds:=[some (.dat (.str z)),y]) rfl hb
   rw [e,Bool.true_and]
   exact ⟨h1,h2⟩
  | false =>
   rw [hc,if_neg (by decide)] at hb
   refine ⟨fun h=>(by cases h),fun _=>?_⟩
   unfold K6
   show (E9 [some (.dat (.str z)),some (.dat (.str ⟨#[c]⟩))]).bind _=_
   rw [hb]
   rfl
theorem eq_empty (z:Str):(z=(Str.ofString "")) ↔ lz z=[]:=⟨fun h=>by rw [h];decide +kernel,fun h=>D3 (by rw [h];decide +kernel)⟩
theorem a4v {z:Str} (h:z.length<=1000000):H0 [.str z]=some (.dat (.int (z.length:Nat))):=by
 show (if z.length<=1000000 then some (PV.dat (.int (z.length:Nat))) else none)=_
 rw [if_pos h]
theorem c2m {z:Str} (h1:AllDigits (lz z)) (h2:lz z ≠ []) (h3:(lz z).length<=60):(or1 intD b4b) [.str z]=some (.dat (.int (digitsVal (lz z):Nat))):=by
 have hl:=u4 z
 show (if z.length<=640 then (PySem.intText? z).bind fun n=>some (PV.dat (.int n)) else none)=_
 rw [if_pos (by omega),intText_digits h1 h2 (by omega)]
 rfl
theorem a6A {z:Str} (hz:z.length<=1000):B5 [.str z]=some (.dat (b4P (O0 (lz z)))):=by
 have hl:=u4 z
 unfold B5 O0
 walk_at "t"
 rw [a4v (by omega),show (a2Z:PyData)=.int 60 from rfl]
 walk_at "t"
 by_cases h1:lz z=[]
 . rw [if_pos ((eq_empty z).mpr h1),if_neg (show ¬ (lz z ≠ []/\(lz z).length<=60/\(lz z).all dig=true) from fun hh=>hh.1 h1)]
   rfl
 . rw [if_neg (fun e=>h1 ((eq_empty z).mp e))]
   by_cases h2:(lz z).length<=60
   . have e2:¬ ((z.length:Int) > 60):=by omega
     walk_at "t"
     rw [if_neg (show ¬ ((60:Int) < (z.length:Nat)) by omega)]
     walk_at "t"
     obtain ⟨f1,f2⟩:=b0b z (lz z) none
     cases h3:(lz z).all dig with
     | true =>
      obtain ⟨y',f1⟩:=f1 h3
      rw [if_pos ⟨h1,h2,rfl⟩]
      show (R4 (K6 (G3 1) E9 ((lz z).map fun c=>.str ⟨#[c]⟩) [some (.dat (.str z)),none]) _).bind _=_
      rw [f1]
      walk_at "t"
      rw [c2m (a9S.mp h3) h1 h2]
      rfl
     | false =>
      rw [if_neg (show ¬ (lz z ≠ []/\(lz z).length<=60/\false=true) from fun hh=>by cases hh.2.2)]
      show (R4 (K6 (G3 1) E9 ((lz z).map fun c=>.str ⟨#[c]⟩) [some (.dat (.str z)),none]) _).bind _=_
      rw [f2 h3]
      rfl
   . have e2:((z.length:Int) > 60):=by omega
     rw [if_neg (show ¬ (lz z ≠ []/\(lz z).length<=60/\(lz z).all dig=true) from fun hh=>h2 hh.2.1)]
     walk_at "t"
     rw [if_pos (show (60:Int) < (z.length:Nat) by omega)]
     rfl
theorem b9G:(Str.ofString "-")=⟨#[45]⟩:=D3 (by decide +kernel)
theorem b9F:(Str.ofString "/")=⟨#[47]⟩:=D3 (by decide +kernel)
noncomputable def Q7 (cs:List Nat):Option Int:=if cs.head? = some 45 then (O0 (cs.drop 1)).map fun n=>-((n:Nat):Int) else (O0 cs).map fun n=>((n:Nat):Int)
theorem c1Y (o:Option Nat):b4P o=b2u (o.map fun n=>((n:Nat):Int)):=by cases o <;> rfl
theorem a8o {z:Str} (h:z.length<=1000000) (i:Nat):p7 (.str z) (some (i:Int)) none=some (.dat (.str (Txt.slice z (some (i:Int)) none))):=by
 show (if z.length<=1000000 then some (PV.dat (.str (Txt.slice z (some (i:Int)) none))) else none)=_
 rw [if_pos h]
theorem c3E {z:Str} (h:z.length<=1000000) (i:Nat):p7 (.str z) none (some (i:Int))=some (.dat (.str (Txt.slice z none (some (i:Int))))):=by
 show (if z.length<=1000000 then some (PV.dat (.str (Txt.slice z none (some (i:Int))))) else none)=_
 rw [if_pos h]
theorem b7t {z:Str} (hz:z.length<=1000):O9 [.str z]=some (.dat (b2u (Q7 (lz z)))):=by
 have hl:=u4 z
 unfold O9 Q7
 walk_at "t"
 rw [b9G,b7j]
 walk_at "t"
 by_cases h:(lz z).head? = some 45
 . rw [if_pos h]
   simp only [h,decide_true,Bool.not_true,Bool.false_eq_true,if_false]
   walk_at "t"
   rw [show (1:Int)=((1:Nat):Int) from rfl,a8o (by omega)]
   walk_at "t"
   rw [a6A (Nat.le_trans (Txt.slice_le z _ _) hz),show lz (Txt.slice z (some 1) none)=(lz z).drop 1 from a6g z 1]
   walk_at "t"
   cases O0 ((lz z).drop 1) with
   | none=>rfl
   | some n=>rfl
 . rw [if_neg h]
   simp only [h,decide_false,Bool.not_false,if_true]
   rw [a6A hz,c1Y]
   rfl
theorem c5j {cs:List Nat} (h:AllDigits cs):digitsVal cs < 10 ^ cs.length:=by
 have key:∀ (l:List Nat) (a:Nat),AllDigits l->l.foldl (fun acc c=>acc * 10 + (c - 48)) a < (a + 1) * 10 ^ l.length:=by
  intro l
  induction l with
  | nil=>intro a _;simp
  | cons d l ih =>
   intro a hl
   have hd:=hl.head
   have:=ih (a * 10 + (d - 48)) hl.tail
   rw [List.foldl_cons]
   refine Nat.lt_of_lt_of_le this ?_
   rw [length_cons,Nat.pow_succ,Nat.mul_comm (10 ^ l.length) 10,<-Nat.mul_assoc]
   exact Nat.mul_le_mul_right _ (by omega)
 have:=key cs 0 h
 simpa [digitsVal] using this
theorem b0t {cs:List Nat} {n:Nat} (h:O0 cs=some n):n < 10 ^ 60:=by
 unfold O0 at h
 split at h
 . rename_i hh
   cases h
   exact Nat.lt_of_lt_of_le (c5j (a9S.mp hh.2.2)) (Nat.pow_le_pow_right (by decide) hh.2.1)
 . cases h
theorem c1C {cs:List Nat} {n:Int} (h:Q7 cs=some n):n.natAbs < 10 ^ 60:=by
 unfold Q7 at h
 split at h
 . cases e:O0 (cs.drop 1) with
   | none=>rw [e] at h;cases h
   | some m =>
    rw [e] at h
    cases h
    have:=b0t e
    rw [Int.natAbs_neg]
    exact this
 . cases e:O0 cs with
   | none=>rw [e] at h;cases h
   | some m =>
    rw [e] at h
    cases h
    exact b0t e
noncomputable def W7 (cs:List Nat):List Nat:=if 47 ∈ cs then cs.take (cs.idxOf 47) else cs
noncomputable def a2s (cs:List Nat):List Nat:=if 47 ∈ cs then cs.drop (cs.idxOf 47 + 1) else []
noncomputable def frO:Option (Int × Int)->PyData
 | none=>.none
 | some q=>fr q
noncomputable def judge (cs:List Nat):Option Int->Option Nat->Option (Int × Int)
 | some t,some b=>if b=0 then none else if lz (B7 (D6 t b))=cs then some (D6 t b) else none
 | _,_=>none
noncomputable def C6 (cs:List Nat):Option (Int × Int):=judge cs (Q7 (W7 cs)) (if 47 ∈ cs then O0 (a2s cs) else some 1)
theorem c0A (z:Str):∃ a b c,a2t z ⟨#[47]⟩=[a,b,c]/\lz a=W7 (lz z)/\lz b=(if 47 ∈ lz z then [47] else [])/\lz c=a2s (lz z):=by
 have h:=c4O z 47
 unfold W7 a2s
 have three:∀ {l:List Str} {p q r:List Nat},l.map lz=[p,q,r]->∃ a b c,l=[a,b,c]/\lz a=p/\lz b=q/\lz c=r:=fun {l p q r} h=>by
  have hl:=congrArg List.length h
  rw [length_map] at hl
  obtain ⟨a,b,c,rfl⟩:=c7O hl
  simp only [map_cons,map_nil,List.cons.injEq,and_true] at h
  exact ⟨a,b,c,rfl,h.1,h.2.1,h.2.2⟩
 by_cases hm:47 ∈ lz z
 . rw [if_pos hm] at h
   simp only [if_pos hm]
   exact three h
 . rw [if_neg hm] at h
   simp only [if_neg hm]
   exact three h
theorem b5S {z:Str} (h:z.length<=1000):a9C (.str z) [.str (Str.ofString "/")]=some (.dat (.tuple ((a2t z ⟨#[47]⟩).map .str))):=by
 show (if ((Str.ofString "/").length==0)=false/\z.length<=1000000 then some (PV.dat (.tuple ((a2t z (Str.ofString "/")).map .str))) else none)=_
 rw [if_pos ⟨by decide +kernel,by omega⟩,b9F]
theorem c2B (cs:List Nat):(W7 cs).length<=cs.length:=by
 unfold W7
 split
 . rw [length_take];omega
 . exact Nat.le_refl _
theorem c2A (cs:List Nat):(a2s cs).length<=cs.length:=by
 unfold a2s
 split
 . rw [length_drop];omega
 . exact Nat.zero_le _
theorem b6L (t:Int) {g:Int}:(t / g).natAbs<=t.natAbs:=Int.natAbs_ediv_le_natAbs t g
theorem c0g {t b:Int} (hb:0 < b) (h1:t.natAbs < 10 ^ 60) (h2:b.natAbs < 10 ^ 60):Small (D6 t b):=by
 have hg:0 < Int.gcd t b:=Int.gcd_pos_of_ne_zero_right t (by omega)
 have hgi:(0:Int) < gc t b:=by show (0:Int) < ((Int.gcd t b:Nat):Int);omega
 have e:D6 t b=(t / gc t b,b / gc t b):=by
  unfold D6
  rw [if_neg (by omega),Int.fdiv_eq_ediv_of_nonneg _ (by omega),Int.fdiv_eq_ediv_of_nonneg _ (by omega)]
 have d2:gc t b ∣ b:=Int.gcd_dvd_right ..
 rw [e]
 exact ⟨Nat.lt_of_le_of_lt (b6L t) h1,Nat.lt_of_le_of_lt (b6L b) h2,Int.ediv_pos_of_pos_of_dvd hb (by omega) d2⟩
theorem c6H {i:Int} (h:i.natAbs < 10 ^ 60):Bt 8000 i:=⟨Nat.lt_of_lt_of_le (Nat.lt_trans h (show 10 ^ 60 < 2 ^ 200 by decide)) (Nat.pow_le_pow_right (by decide) (by decide))⟩
theorem a1o {z:Str} (hz:z.length<=1000):C9 [.str z]=some (.dat (frO (C6 (lz z)))):=by
 have hl:=u4 z
 obtain ⟨a,b,c,ec,la,lb,lc⟩:=c0A z
 have za:a.length<=1000:=by rw [u4,la];exact Nat.le_trans (c2B _) (by omega)
 have zc:c.length<=1000:=by rw [u4,lc];exact Nat.le_trans (c2A _) (by omega)
 have eb:(b=(Str.ofString "/")) ↔ 47 ∈ lz z:=by
  constructor
  . intro e
    rw [e,a1S] at lb
    by_cases hm:47 ∈ lz z
    . exact hm
    . rw [if_neg hm] at lb;cases lb
  . intro hm
    rw [if_pos hm] at lb
    exact D3 (by rw [lb,a1S])
 unfold C9 C6
 walk_at "t"
 rw [b5S hz,ec]
 walk_at "t"
 rw [b7t za,la]
 walk_at "t"
 rw [a6A zc,lc]
 walk_at "t"
 have hs:(if b=(Str.ofString "/") then some (Out.next [some (PV.dat (PyData.str z)),some (PV.dat (PyData.tuple [.str a,.str b,.str c])),some (PV.dat (b2u (Q7 (W7 (lz z))))),some (PV.dat (b4P (O0 (a2s (lz z))))),none]) else some (Out.next [some (PV.dat (PyData.str z)),some (PV.dat (PyData.tuple [.str a,.str b,.str c])),some (PV.dat (b2u (Q7 (W7 (lz z))))),some (PV.dat (PyData.int 1)),none]))
   = some (Out.next [some (PV.dat (PyData.str z)),some (PV.dat (PyData.tuple [.str a,.str b,.str c])),some (PV.dat (b2u (Q7 (W7 (lz z))))),some (PV.dat (b4P (if 47 ∈ lz z then O0 (a2s (lz z)) else some 1))),none]):=by
  by_cases hm:47 ∈ lz z
  . rw [if_pos (eb.mpr hm),if_pos hm]
  . rw [if_neg (fun e=>hm (eb.mp e)),if_neg hm]
    rfl
 rw [hs]
 have hbig:∀ n,(if 47 ∈ lz z then O0 (a2s (lz z)) else some 1)=some n->n < 10 ^ 60:=fun n h=>by
  split at h
  . exact b0t h
  . cases h;decide
 generalize hB:(if 47 ∈ lz z then O0 (a2s (lz z)) else some 1)=B at hbig
 generalize hA:Q7 (W7 (lz z))=A
 cases A with
 | none=>rfl
 | some t =>
  have ht:=c1C hA
  cases B with
  | none=>rfl
  | some n =>
   have hn:=hbig n rfl
   walk_at "t"
   rw [show b2u (some t)=.int t from rfl,show b4P (some n)=.int ((n:Nat):Int) from rfl]
   walk_at "t"
   rw [show judge (lz z) (some t) (some n)=(if n=0 then none else if lz (B7 (D6 t ((n:Nat):Int)))=lz z then some (D6 t ((n:Nat):Int)) else none) from rfl]
   by_cases h0:n=0
   . rw [if_pos (show ((n:Nat):Int)=0 by omega),if_pos h0]
     rfl
   . rw [if_neg (show ¬ (((n:Nat):Int)=0) by omega),if_neg h0]
     walk_at "t"
     have hs:=c0g (t:=t) (b:=((n:Nat):Int)) (by omega) ht hn
     rw [b6c (b:=((n:Nat):Int)) (by omega) (c6H (i:=((n:Nat):Int)) hn)]
     walk_at "t"
     rw [b6V hs]
     walk_at "t"
     have ez:(B7 (D6 t ((n:Nat):Int))=z) ↔ lz (B7 (D6 t ((n:Nat):Int)))=lz z:=⟨fun e=>by rw [e],D3⟩
     by_cases he:B7 (D6 t ((n:Nat):Int))=z
     . rw [if_pos (ez.mp he),if_neg (by simpa using he)]
       rfl
     . rw [if_neg (fun e=>he (ez.mpr e)),if_pos (by simpa using he)]
       rfl
theorem a4w {n:Int} (h:0<=n):H9 n=G5 n.natAbs:=by
 unfold H9
 rw [if_neg (by omega)]
theorem b9M {n:Nat} {c:Nat} (h:(G5 n).head? = some c):48<=c/\c<=57:=U3 n c (List.mem_of_mem_head? (by rw [h];rfl))
theorem a5b {n:Nat} (h:n < 10 ^ 60):O0 (G5 n)=some n:=by
 have hp:=b1z n
 have hl:=(a6K (n:=n) (k:=60) (by decide)).mpr h
 unfold O0
 rw [if_pos ⟨hp.2.1,hl,a9S.mpr hp.1⟩,a6J]
theorem a8y {n:Int} (h:n.natAbs < 10 ^ 60):Q7 (H9 n)=some n:=by
 unfold Q7 H9
 split
 . rename_i h0
   rw [if_pos (show (45::G5 n.natAbs).head? = some 45 from rfl),show (45::G5 n.natAbs).drop 1=G5 n.natAbs from rfl,a5b h]
   show some (-((n.natAbs:Nat):Int))=_
   congr 1
   omega
 . rename_i h0
   rw [if_neg (fun q=>by have:=b9M q;omega),a5b h]
   show some ((n.natAbs:Nat):Int)=_
   congr 1
   omega
theorem a2a (n:Nat):47 ∉ G5 n:=fun h=>by
 have:=U3 n 47 h
 omega
theorem a0U (n:Int):47 ∉ H9 n:=by
 unfold H9
 split
 . intro h
   rcases mem_cons.mp h with h | h
   . cases h
   . exact a2a _ h
 . exact a2a _
theorem a6c {a b:String}:(Str.ofString a=Str.ofString b)=(a=b):=by
 refine propext ⟨fun h=>?_,fun h=>by rw [h]⟩
 rw [Str.ofString_eq_toList,Str.ofString_eq_toList] at h
 injection h with h
 injection h with h
 have:a.toList=b.toList:=List.map_inj_right (fun x y e=>Char.toNat_inj.mp e) |>.mp h
 exact String.toList_inj.mp this
theorem a6f (s:Str):∀ (ws:List Str),lz (Str.join s ws)=(match ws with | []=>[] | w::r=>lz w++(r.map fun x=>lz s++lz x).flatten)
 | []=>rfl
 | [w]=>by simp [Str.join]
 | w::x::r=>by
  have ih:=a6f s (x::r)
  show lz (w++s++Str.join s (x::r))=_
  rw [D5,D5,ih]
  simp [append_assoc]
theorem b3f {c:Nat}:∀ (a b:List (List Nat)) (x y:List Nat),(∀ l ∈ x::a,c ∉ l)->(∀ l ∈ y::b,c ∉ l)->x++(a.map fun z=>c::z).flatten=y++(b.map fun z=>c::z).flatten->x=y/\a=b
 | a,b,x,y,ha,hb,e=>by
  have key:∀ (x y:List Nat) (p q:List Nat),c ∉ x->c ∉ y->(p=[]\/p.head? = some c)->(q=[]\/q.head? = some c)->x++p=y++q->x=y/\p=q:=by
   intro x
   induction x with
   | nil =>
    intro y p q hx hy hp hq e
    cases y with
    | nil=>exact ⟨rfl,e⟩
    | cons d y =>
     rw [nil_append] at e
     rcases hp with rfl | hp
     . simp at e
     . rw [e] at hp
       simp at hp
       exact absurd (by simp [hp]) hy
   | cons d x ih =>
    intro y p q hx hy hp hq e
    cases y with
    | nil =>
     rw [nil_append] at e
     rcases hq with rfl | hq
     . simp at e
     . rw [<-e] at hq
       simp at hq
       exact absurd (by simp [hq]) hx
    | cons d' y =>
     rw [cons_append,cons_append] at e
     injection e with e1 e2
     obtain ⟨h1,h2⟩:=ih y p q (fun z=>hx (mem_cons_of_mem _ z)) (fun z=>hy (mem_cons_of_mem _ z)) hp hq e2
     exact ⟨by rw [e1,h1],h2⟩
  have hd:∀ l:List (List Nat),(l.map fun z=>c::z).flatten=[]\/((l.map fun z=>c::z).flatten).head? = some c:=fun l=>by
   cases l with
   | nil=>exact .inl rfl
   | cons z l=>exact .inr rfl
  obtain ⟨h1,h2⟩:=key x y _ _ (ha x (by simp)) (hb y (by simp)) (hd a) (hd b) e
  refine ⟨h1,?_⟩
  cases a with
  | nil =>
   cases b with
   | nil=>rfl
   | cons z b=>simp at h2
  | cons z a =>
   cases b with
   | nil=>simp at h2
   | cons z' b =>
    have h2':c::(z++(a.map fun z=>c::z).flatten)=c::(z'++(b.map fun z=>c::z).flatten):=by simpa using h2
    injection h2' with _ h3
    obtain ⟨h4,h5⟩:=b3f a b z z' (fun l hl=>ha l (mem_cons_of_mem _ hl)) (fun l hl=>hb l (mem_cons_of_mem _ hl)) h3
    rw [h4,h5]
termination_by a=>a.length
theorem b7n {c:Nat} {ws:List Str} (hn:ws ≠ []) (hf:∀ w ∈ ws,c ∉ lz w):Txt.split (Txt.join ⟨#[c]⟩ ws) ⟨#[c]⟩=ws:=by
 have hj:=join_split (Txt.join ⟨#[c]⟩ ws) ⟨#[c]⟩
 have hs:=split_free (Txt.join ⟨#[c]⟩ ws) c
 have hp:=PyProof.Rows.split_pos (Txt.join ⟨#[c]⟩ ws) ⟨#[c]⟩
 rw [show Txt.join ⟨#[c]⟩ ws=Str.join ⟨#[c]⟩ ws from glued_eq_join _ _] at *
 generalize Txt.split (Str.join ⟨#[c]⟩ ws) ⟨#[c]⟩=S at *
 cases S with
 | nil=>simp at hp
 | cons y b =>
  cases ws with
  | nil=>exact absurd rfl hn
  | cons x a =>
   have e:=congrArg lz hj
   rw [a6f,a6f] at e
   have e':lz y++((b.map lz).map fun z=>c::z).flatten=lz x++((a.map lz).map fun z=>c::z).flatten:=by
    rw [map_map,map_map]
    exact e
   obtain ⟨h1,h2⟩:=b3f (b.map lz) (a.map lz) (lz y) (lz x) (fun l hl=>by
    rcases mem_cons.mp hl with rfl | hl
    . exact hs y (by simp)
    . obtain ⟨w,hw,rfl⟩:=mem_map.mp hl
      exact hs w (by simp [hw])) (fun l hl=>by
    rcases mem_cons.mp hl with rfl | hl
    . exact hf x (by simp)
    . obtain ⟨w,hw,rfl⟩:=mem_map.mp hl
      exact hf w (by simp [hw])) e'
   rw [D3 h1,List.map_inj_right (fun x y e=>D3 e) |>.mp h2]
theorem b0K (k:Nat):∀ (ts:List Str) (n:Nat),(∀ t ∈ ts,t.length<=130)->ts.foldl (fun a t=>a + t.length + k) n<=n + ts.length * (130 + k)
 | [],n,_=>by simp
 | t::ts,n,h=>by
  have ht:=h t (by simp)
  have ih:=b0K k ts (n + t.length + k) fun x hx=>h x (by simp [hx])
  rw [List.foldl_cons,length_cons,Nat.add_mul]
  omega
theorem a6u:∀ l:List Str,strsOf (l.map .str)=some l
 | []=>rfl
 | a::l=>by rw [map_cons];unfold strsOf;rw [a6u l];rfl
theorem b8V:(Str.ofString " ")=⟨#[32]⟩:=D3 (by decide +kernel)
theorem c2l {ws:List Str} (hl:ws.length<=700) (h:∀ w ∈ ws,w.length<=130):V8 (.str (Str.ofString " ")) [.list (ws.map .str)]=some (.dat (.str (Txt.join ⟨#[32]⟩ ws))):=by
 show ((strsOf (ws.map .str)).bind fun ts=>if JoinOk (Str.ofString " ") ts=true then some (PV.dat (PyData.str (Txt.join (Str.ofString " ") ts))) else none)=_
 rw [a6u,b8V]
 have hj:JoinOk ⟨#[32]⟩ ws=true:=by
  have f:=b0K 1 ws 0 h
  unfold JoinOk
  rw [List.foldl_toArray]
  show (!decide (ws.foldl (fun a t=>a + t.length + 1) 0 > sizeLine))=true
  have s:(92000:Nat)<=sizeLine:=by decide
  rw [decide_eq_false (by omega)]
  rfl
 simp only [Option.bind_some,hj,if_true]
theorem b4X {ws:List Str} (hl:ws.length<=700) (h:∀ w ∈ ws,w.length<=130):(Txt.join ⟨#[32]⟩ ws).length<=92000:=by
 have e:=size_glued ⟨#[32]⟩ ws
 have s:(ws.map (·.length)).sum<=ws.length * 130:=by
  clear hl e
  induction ws with
  | nil=>simp
  | cons w r ih =>
   have:=h w (by simp)
   have:=ih fun x hx=>h x (by simp [hx])
   simp only [map_cons,List.sum_cons,length_cons,Nat.add_mul]
   omega
 have:(Txt.join ⟨#[32]⟩ ws).length=(ws.map (·.length)).sum + (ws.length - 1) * 1:=e
 omega
theorem a8n {ws:List Str} (hn:ws ≠ []) (hl:ws.length<=700) (h:∀ w ∈ ws,w.length<=130) (hf:∀ w ∈ ws,32 ∉ lz w):a0S (.str (Txt.join ⟨#[32]⟩ ws)) [.str (Str.ofString " ")]=some (.own (ws.map .str)):=by
 have hj:=b4X hl h
 unfold a0S
 rw [b8V]
 simp only
 rw [if_pos ⟨by decide,by omega⟩,b7n hn hf]
theorem b2n (n:Int):D6 n 1=(n,1):=by
 have h1:gc n 1=1:=by show ((Int.gcd n 1:Nat):Int)=1;simp
 unfold D6
 rw [if_neg (by decide),h1]
 simp
theorem b1s {n:Int} (h:n.natAbs < 10 ^ 60):C6 (H9 n)=some (n,1):=by
 have hs:=a0U n
 unfold C6 W7
 rw [if_neg hs,if_neg hs,a8y h]
 show (if (1:Nat)=0 then none else if lz (B7 (D6 n ((1:Nat):Int)))=H9 n then some (D6 n ((1:Nat):Int)) else none)=some (n,1)
 rw [if_neg (by decide),show (((1:Nat):Int))=1 from rfl,b2n]
 have e:lz (B7 (n,1))=H9 n:=by
  unfold B7
  rw [if_pos rfl]
  exact X8 n
 rw [if_pos e]
theorem a9P {A B:List Nat} (h:47 ∉ A):W7 (A++47::B)=A/\a2s (A++47::B)=B:=by
 have hm:47 ∈ A++47::B:=mem_append_right _ mem_cons_self
 have hi:(A++47::B).idxOf 47=A.length:=by
  rw [List.idxOf_append,if_neg h,List.idxOf_cons_self,Nat.zero_add]
 unfold W7 a2s
 rw [if_pos hm,if_pos hm,hi,List.take_left,<-List.drop_drop,List.drop_left]
 exact ⟨rfl,rfl⟩
theorem a2K {q:Int × Int} (hq:0 < q.2):lz (B7 q)=if q.2=1 then H9 q.1 else H9 q.1++47::G5 q.2.natAbs:=by
 unfold B7
 split
 . rw [X8]
 . rw [D5,D5,a1S,X8,X8,a4w (n:=q.2) (by omega),append_assoc]
   rfl
theorem b3e {t b:Int} (hb:0 < b) (h:Int.gcd t b=1):D6 t b=(t,b):=by
 unfold D6
 rw [if_neg (by omega)]
 have e:gc t b=1:=by show ((Int.gcd t b:Nat):Int)=1;rw [h];rfl
 rw [e,Int.fdiv_one,Int.fdiv_one]
theorem b7u {q:Int × Int} (h0:0 < q.2) (h1:Int.gcd q.1 q.2=1) (hs:Small q) (hn:q.1.natAbs < 10 ^ 60) (hd:q.2.natAbs < 10 ^ 60):C6 (lz (B7 q))=some q:=by
 by_cases c:q.2=1
 . have e:lz (B7 q)=H9 q.1:=by rw [a2K h0,if_pos c]
   rw [e,b1s hn]
   exact congrArg some (Prod.ext rfl c.symm)
 . have e:lz (B7 q)=H9 q.1++47::G5 q.2.natAbs:=by rw [a2K h0,if_neg c]
   have hm:47 ∈ lz (B7 q):=by rw [e];exact mem_append_right _ mem_cons_self
   obtain ⟨c1,c2⟩:=a9P (A:=H9 q.1) (B:=G5 q.2.natAbs) (a0U q.1)
   unfold C6
   rw [if_pos hm]
   rw [show W7 (lz (B7 q))=H9 q.1 by rw [e];exact c1,show a2s (lz (B7 q))=G5 q.2.natAbs by rw [e];exact c2,a8y hn,a5b hd]
   have eb:((q.2.natAbs:Nat):Int)=q.2:=by omega
   show (if q.2.natAbs=0 then none else if lz (B7 (D6 q.1 ((q.2.natAbs:Nat):Int)))=lz (B7 q) then some (D6 q.1 ((q.2.natAbs:Nat):Int)) else none)=some q
   rw [if_neg (by omega),eb,b3e h0 h1,if_pos rfl]
theorem b1A {n:Int} (h : -1000000<=n/\n<=1000000):n.natAbs < 10 ^ 60:=Nat.lt_of_le_of_lt (show n.natAbs<=1000000 by omega) (by decide)
theorem b2V {n least:Int} (h0:least<=n) (h1:n<=1000000) (hl : -1000000<=least):C8 [.str (j8 n),.int least]=some (.dat (.int n)):=by
 have hn:n.natAbs < 10 ^ 60:=b1A ⟨by omega,h1⟩
 have rf:=a1o (z:=j8 n) (Nat.le_trans (a0K hn) (by decide))
 rw [X8,b1s hn] at rf
 unfold C8
 walk_at "t"
 rw [rf]
 walk_at "t"
 show _=_
 unfold frO
 walk_at "t"
 rw [if_neg (by omega),decide_eq_false (show ¬ 1000000 < n by omega)]
 walk_at "t"
theorem b7v {n:Int} (h0:0<=n) (h1:n<=1000000):D4 [.str (j8 n)]=some (.dat (.int n)):=by
 unfold D4
 walk_at "t"
 rw [b2V h0 h1 (by decide)]
 walk_at "t"
theorem b9e {n:Int} (h0 : -1000000<=n) (h1:n<=1000000):L8 [.str (j8 n)]=some (.dat (.int n)):=by
 unfold L8
 walk_at "t"
 rw [b2V h0 h1 (by decide)]
 walk_at "t"
structure Shr (q:Int × Int):Prop where
 pos:0 < q.1
 le:q.1<=q.2
 most:q.2<=1000
 low:Int.gcd q.1 q.2=1
theorem Shr.small {q:Int × Int} (h:Shr q):Small q:=by
 have:=h.pos;have:=h.le;have:=h.most
 exact ⟨b1A ⟨by omega,by omega⟩,b1A ⟨by omega,by omega⟩,by omega⟩
theorem Shr.len {q:Int × Int} (h:Shr q):(B7 q).length<=130:=by
 have s:=h.small
 have l1:=a0K s.top
 have l2:=a0K s.bot
 unfold B7
 split
 . omega
 . rw [u4,D5,D5,length_append,length_append,a1S,<-u4,<-u4]
   show _ + 1 + _<=130
   omega
theorem b9d {q:Int × Int} (h:Shr q):L7 [.str (B7 q)]=some (.dat (fr q)):=by
 have p0:=h.pos;have p1:=h.le;have p2:=h.most
 have s:=h.small
 have rf:=a1o (z:=B7 q) (Nat.le_trans h.len (by decide))
 rw [b7u s.pos h.low s s.top s.bot] at rf
 unfold L7
 walk_at "t"
 rw [rf]
 walk_at "t"
 show _=_
 unfold frO
 walk_at "t"
 rw [if_neg (by omega),if_neg (by omega),decide_eq_false (show ¬ 1000 < q.2 by omega)]
 walk_at "t"
noncomputable def ltr (c:Nat):Bool:=decide (97<=c/\c<=122)
structure Nm (z:Str):Prop where
 ne:lz z ≠ []
 len:(lz z).length<=8
 all:(lz z).all ltr=true
theorem b2o:lz (Str.ofString "abcdefghijklmnopqrstuvwxyz")=[97,98,99,100,101,102,103,104,105,106,107,108,109,110,111,112,113,114,115,116,117,118,119,120,121,122]:=by decide +kernel
theorem c4A {c:Nat} (h:ltr c=true):c ∈ lz (Str.ofString "abcdefghijklmnopqrstuvwxyz"):=by
 rw [b2o]
 have:=of_decide_eq_true h
 simp only [mem_cons,not_mem_nil,or_false]
 omega
theorem b6T (z:Str) {c:Nat} (h:ltr c=true):J8 [some (.dat (.str z)),some (.dat (.str ⟨#[c]⟩))]=some (.next [some (.dat (.str z)),some (.dat (.str ⟨#[c]⟩))]):=by
 have e:(or2 a3p a1h) (.str ⟨#[c]⟩) (.str (Str.ofString "abcdefghijklmnopqrstuvwxyz"))=some (.dat (.bool false)):=by
  show some (PV.dat (.bool (!Txt.contains (Str.ofString "abcdefghijklmnopqrstuvwxyz") ⟨#[c]⟩)))=_
  rw [a2u,decide_eq_true (c4A h)]
  rfl
 unfold J8
 walk_at "t"
 rw [show (a5n:PyData)=.str (Str.ofString "abcdefghijklmnopqrstuvwxyz") from rfl,e]
 walk_at "t"
theorem b3h (z:Str):∀ (l:List Nat) (y:Option PV),l.all ltr=true->∃ y',K6 (G3 1) J8 (l.map fun c=>.str ⟨#[c]⟩) [some (.dat (.str z)),y]=some (.next [some (.dat (.str z)),y'])
 | [],y,_=>⟨y,rfl⟩
 | c::r,y,h=>by
  rw [all_cons,Bool.and_eq_true] at h
  obtain ⟨y',e⟩:=b3h z r (some (.dat (.str ⟨#[c]⟩))) h.2
  refine ⟨y',?_⟩
  rw [map_cons,a0X rfl (b6T z h.1)]
  exact e
theorem b4u {z:Str} (h:Nm z):J6 [.str z]=some (.dat (.str z)):=by
 have hl:=u4 z
 have h8:=h.len
 unfold J6
 walk_at "t"
 rw [a4v (by omega),show (a0f:PyData)=.int 8 from rfl]
 walk_at "t"
 rw [if_neg (fun e=>h.ne ((eq_empty z).mp e)),decide_eq_false (show ¬ ((8:Int) < (z.length:Nat)) by omega)]
 walk_at "t"
 obtain ⟨y',f1⟩:=b3h z (lz z) none h.all
 show (R4 (K6 (G3 1) J8 ((lz z).map fun c=>.str ⟨#[c]⟩) [some (.dat (.str z)),none]) _).bind _=_
 rw [f1]
 walk_at "t"
inductive Wrd where
 | am (n:Int)
 | pr (n:Int)
 | sh (q:Int × Int)
 | nm (z:Str)
noncomputable def Wrd.rd:Wrd->PyData
 | .am _=>fnD "read_amount"
 | .pr _=>fnD "read_price"
 | .sh _=>fnD "read_share"
 | .nm _=>fnD "read_name"
noncomputable def Wrd.w:Wrd->Str
 | .am n=>j8 n
 | .pr n=>j8 n
 | .sh q=>B7 q
 | .nm z=>z
noncomputable def Wrd.v:Wrd->PyData
 | .am n=>.int n
 | .pr n=>.int n
 | .sh q=>fr q
 | .nm z=>.str z
noncomputable def Wrd.ok:Wrd->Prop
 | .am n=>0<=n/\n<=1000000
 | .pr n=>-1000000<=n/\n<=1000000
 | .sh q=>Shr q
 | .nm z=>Nm z
theorem a1D {a b:String} (h:a ≠ b) {f:List PyData->Option PV} {Fl:Ds->Option (List PyData)} {r:Ds}:a3s 0 (Str.ofString b) f Fl (some (.dat (fnD (Str.ofString a)))::r)=none:=by
 show (if Str.ofString a=Str.ofString b then _ else none)=none
 rw [if_neg (by rw [a6c];exact h)]
theorem a3Y {a:String} {f:List PyData->Option PV} {Fl:Ds->Option (List PyData)} {r:Ds}:a3s 0 (Str.ofString a) f Fl (some (.dat (fnD (Str.ofString a)))::r)=(Fl (some (.dat (fnD (Str.ofString a)))::r)).bind f:=by
 show (if Str.ofString a=Str.ofString a then _ else none)=_
 rw [if_pos rfl]
theorem S8 {F1 F2:Ds->Option PV} {ds:Ds} (h:F1 ds=none):a4I F1 F2 ds=F2 ds:=by unfold a4I;rw [h]
theorem a1N {F1 F2:Ds->Option PV} {ds:Ds} {pv:PV} (h:F1 ds=some pv):a4I F1 F2 ds=some pv:=by unfold a4I;rw [h]
theorem b6S {x:Wrd} (h:x.ok) (r:Ds):A6 (some (.dat x.rd)::some (.dat (.str x.w))::r)=some (.dat x.v):=by
 unfold A6
 cases x with
 | am n=>exact a1N (a3Y.trans (b7v h.1 h.2))
 | nm z=>exact (S8 (a1D (by decide))).trans (a1N (a3Y.trans (b4u h)))
 | pr n=>exact (S8 (a1D (by decide))).trans ((S8 (a1D (by decide))).trans (a1N (a3Y.trans (b9e h.1 h.2))))
 | sh q=>exact (S8 (a1D (by decide))).trans ((S8 (a1D (by decide))).trans ((S8 (a1D (by decide))).trans (a3Y.trans (b9d h))))
theorem b1w {ds:Ds}:∀ l:List Wrd,(∀ x ∈ l,x.ok)->D9 (a1C 2) G4 A6 ds (List.zipWith (fun x y=>.tuple [x,y]) (l.map Wrd.rd) (l.map fun x=>.str x.w))=some (l.map Wrd.v)
 | [],_=>rfl
 | x::l,h=>by
  have ih:=b1w (ds:=ds) l fun y hy=>h y (mem_cons_of_mem _ hy)
  show (A6 (some (.dat x.rd)::some (.dat (.str x.w))::ds)).bind (fun y=>(D9 (a1C 2) G4 A6 ds (List.zipWith (fun x y=>.tuple [x,y]) (l.map Wrd.rd) (l.map fun x=>.str x.w))).bind fun l=>some (y.d::l))=_
  rw [b6S (h x mem_cons_self),ih]
  rfl
theorem b6p (x:Wrd):a0A x.v=true/\q9 x.v=false:=by cases x <;> exact ⟨rfl,rfl⟩
theorem a2H {l:List Wrd} (h:∀ x ∈ l,x.ok) (hl:l.length<=100):o5 [.list (l.map fun x=>.str x.w),.tuple (l.map Wrd.rd)]=some (.dat (.tuple (l.map Wrd.v))):=by
 have e1:a6d .none (.list (l.map Wrd.v))=some (.dat (.bool false)):=by
  show (if (l.map Wrd.v).all a0A=true then some (PV.dat (.bool ((l.map Wrd.v).any q9))) else none)=_
  rw [if_pos (by rw [all_eq_true];intro d hd;obtain ⟨x,_,rfl⟩:=mem_map.mp hd;exact (b6p x).1)]
  congr 3
  rw [List.any_eq_false]
  intro d hd
  obtain ⟨x,_,rfl⟩:=mem_map.mp hd
  rw [(b6p x).2];decide
 unfold o5
 walk_at "t"
 rw [length_map,length_map]
 walk_at "t"
 rw [show a6p [.tuple (l.map Wrd.rd),.list (l.map fun x=>.str x.w)]=some (List.zipWith (fun x y=>.tuple [x,y]) (l.map Wrd.rd) (l.map fun x=>.str x.w)) from rfl]
 walk_at "t"
 rw [if_pos (by rw [length_zipWith,length_map,length_map];omega),b1w l h]
 walk_at "t"
 rw [e1]
 walk_at "t"
 try rw [if_pos (by rw [length_map];omega)]
 try walk_at "t"
noncomputable abbrev Q2:=Int × Int
structure Hr where
 sun:Int
 need:Int
 line:Option (Int × Int × Int × Int)
noncomputable def a0M:Option (Int × Int × Int × Int)->PyData
 | none=>.none
 | some (a,b,c,d)=>.tuple [.int a,.int b,.int c,.int d]
noncomputable def w9 (h:Hr):PyData:=.tuple [.int h.sun,.int h.need,a0M h.line]
structure Wk where
 name:Str
 J1:Int
 first:Int
 last:Int
 most:Int
noncomputable def o7 (w:Wk):PyData:=.tuple [.str w.name,.int w.J1,.int w.first,.int w.last,.int w.most]
structure C3 where
 hs:List Hr
 size:Int
 start:Int
 fill:Int
 take:Int
 kept:Q2
 left:Q2
 rest:Int
 ws:List Wk
noncomputable def K3 (h:C3):PyData:=.tuple [.int h.size,.int h.start,.int h.fill,.int h.take,fr h.kept,fr h.left,.int h.rest]
noncomputable def a0E (h:C3):PyData:=.tuple [.tuple (h.hs.map w9),K3 h,.tuple (h.ws.map o7)]
theorem c0n (h:C3):ixD (K3 h) (.int 4)=some (.dat (fr h.kept)):=rfl
theorem c0m (h:C3):ixD (K3 h) (.int 5)=some (.dat (fr h.left)):=rfl
theorem a1M {α:Type} (l:List α) (k:Nat):cutD l (some (k:Int)) none=l.drop k:=by
 unfold cutD HT.sIx
 simp only [show ¬ (k:Int) < 0 by omega,if_false,Int.toNat_natCast]
 by_cases h:k<=l.length
 . rw [Nat.min_eq_left h]
   exact take_of_length_le (by rw [length_drop];omega)
 . rw [Nat.min_eq_right (by omega),drop_length,List.drop_eq_nil_of_le (by omega)]
   simp
noncomputable def InM (i:Int):Prop:=0<=i/\i<=1000000
noncomputable def PrM (i:Int):Prop:=-1000000<=i/\i<=1000000
structure Hr5 (x:Hr):Prop where
 sun:InM x.sun
 need:InM x.need
 line:∀ a b c d,x.line=some (a,b,c,d)->PrM a/\InM b/\PrM c/\InM d
structure Wk5 (n:Int) (w:Wk):Prop where
 name:Nm w.name
 J1:InM w.J1
 first:0<=w.first
 fl:w.first<=w.last
 last:w.last < n
 most:InM w.most
structure H5 (h:C3):Prop where
 hs:∀ x ∈ h.hs,Hr5 x
 h1:1<=h.hs.length
 hl:h.hs.length<=24
 size:InM h.size
 start:InM h.start
 full:h.start<=h.size
 fill:InM h.fill
 take:InM h.take
 kept:Shr h.kept
 left:Shr h.left
 rest:InM h.rest
 ws:∀ w ∈ h.ws,Wk5 h.hs.length w
 wl:h.ws.length<=6
 nd:(h.ws.map Wk.name).Nodup
noncomputable def A9 (h:C3):List Wrd:=[.am h.size,.am h.start,.am h.fill,.am h.take,.sh h.kept,.sh h.left,.am h.rest]
noncomputable def B2 (h:C3):List Str:=(Str.ofString "store")::(A9 h).map Wrd.w
noncomputable def T2:Int × Int × Int × Int->List Wrd:=fun l=>[.pr l.1,.am l.2.1,.pr l.2.2.1,.am l.2.2.2]
noncomputable def A2 (x:Hr):List Str:=match x.line with
 | none=>[(Str.ofString "hour"),j8 x.sun,j8 x.need,(Str.ofString "dark")]
 | some l=>[(Str.ofString "hour"),j8 x.sun,j8 x.need,(Str.ofString "line")]++(T2 l).map Wrd.w
noncomputable def D0 (w:Wk):List Wrd:=[.nm w.name,.am w.J1,.am w.first,.am w.last,.am w.most]
noncomputable def B6 (w:Wk):List Str:=(Str.ofString "work")::(D0 w).map Wrd.w
theorem a5a {h:C3} (H:H5 h):z9 [.list ((B2 h).map .str)]=some (.dat (K3 h)):=by
 have a1:=H.size;have a2:=H.start;have a3:=H.fill;have a4:=H.take;have a5:=H.kept;have a6:=H.left;have a7:=H.rest;have a8:=H.full
 have p:=a2H (l:=A9 h) (by
  intro x hx
  simp only [A9,mem_cons,not_mem_nil,or_false] at hx
  rcases hx with rfl | rfl | rfl | rfl | rfl | rfl | rfl <;> assumption) (by simp [A9])
 have e1:(.list ((B2 h).map .str):PyData)=.list (.str (Str.ofString "store")::(A9 h).map fun x=>.str x.w):=by
  simp [B2,map_map]
 have e2:PyData.tuple ((A9 h).map Wrd.v)=K3 h:=rfl
 have e3:(a0F:PyData)=.tuple ((A9 h).map Wrd.rd):=rfl
 rw [e2] at p
 rw [e1]
 unfold z9
 walk_at "t"
 rw [show p7 (.list (.str (Str.ofString "store")::(A9 h).map fun x=>.str x.w)) (some 1) none=some (.own ((A9 h).map fun x=>.str x.w)) from rfl,e3]
 walk_at "t"
 rw [p]
 walk_at "t"
 unfold K3
 walk_at "t"
 rw [if_neg (show ¬ h.size < h.start by omega)]
 walk_at "t"
theorem b0s {n:Int} {w:Wk} (H:Wk5 n w) (hn:n<=24):E3 [.list ((B6 w).map .str),.int n]=some (.dat (o7 w)):=by
 have a1:=H.name;have a2:=H.J1;have a3:=H.first;have a4:=H.fl;have a5:=H.last;have a6:=H.most
 have p:=a2H (l:=D0 w) (by
  intro x hx
  simp only [D0,mem_cons,not_mem_nil,or_false] at hx
  rcases hx with rfl | rfl | rfl | rfl | rfl
  . exact a1
  . exact a2
  . exact ⟨a3,by omega⟩
  . exact ⟨by omega,by omega⟩
  . exact a6) (by simp [D0])
 have e1:(.list ((B6 w).map .str):PyData)=.list (.str (Str.ofString "work")::(D0 w).map fun x=>.str x.w):=by
  simp [B6,map_map]
 have e2:PyData.tuple ((D0 w).map Wrd.v)=o7 w:=rfl
 have e3:(a0Z:PyData)=.tuple ((D0 w).map Wrd.rd):=rfl
 rw [e2] at p
 rw [e1]
 unfold E3
 walk_at "t"
 rw [show p7 (.list (.str (Str.ofString "work")::(D0 w).map fun x=>.str x.w)) (some 1) none=some (.own ((D0 w).map fun x=>.str x.w)) from rfl,e3]
 walk_at "t"
 rw [p]
 walk_at "t"
 unfold o7
 walk_at "t"
 rw [if_neg (show ¬ w.last < w.first by omega),decide_eq_false (show ¬ n<=w.last by omega)]
 walk_at "t"
noncomputable def SOk (w:Str):Prop:=PyData.strOk w=true
theorem a5U {w:Str} (h:∀ c ∈ lz w,c < 1114112):SOk w:=by
 unfold SOk PyData.strOk
 rw [Array.all_eq_true']
 intro c hc
 have:c ∈ lz w:=by unfold lz;simpa using hc
 have:=h c this
 simp
 omega
theorem b2e:∀ l:List Str,(∀ w ∈ l,SOk w)->PyData.canLayAll0 (l.map .str)=true/\PyData.depthAll (l.map .str)<=1
 | [],_=>⟨by simp [PyData.canLayAll0],by simp [PyData.depthAll]⟩
 | a::l,h=>by
  obtain ⟨h1,h2⟩:=b2e l fun w hw=>h w (mem_cons_of_mem _ hw)
  have h0:PyData.strOk a=true:=h a mem_cons_self
  exact ⟨by simp [PyData.canLayAll0,PyData.canLay0,h1,h0],by simp [PyData.depthAll,PyData.depth];exact h2⟩
theorem a6y {l:List Str} (h:∀ w ∈ l,SOk w):SeqAt.shaped (.list (l.map .str))=true:=by
 obtain ⟨h1,h2⟩:=b2e l h
 simp [SeqAt.shaped,PyData.canLay0,PyData.depth,h1]
 omega
theorem b0R:∀ l m:List Str,PyData.eqvAll (l.map .str) (m.map .str)=decide (l=m)
 | [],[]=>by simp [PyData.eqvAll]
 | [],b::m=>by simp [PyData.eqvAll]
 | a::l,[]=>by simp [PyData.eqvAll]
 | a::l,b::m=>by
  have ih:=b0R l m
  simp only [map_cons,PyData.eqvAll,ih,PyData.eqv]
  by_cases c:a=b
  . subst c;simp
  . simp [c]
theorem b0S {l m:List Str} (hl:∀ w ∈ l,SOk w) (hm:∀ w ∈ m,SOk w):v5 (.list (l.map .str)) (.list (m.map .str))=some (.dat (.bool (decide (l=m)))):=by
 unfold v5
 split
 . rename_i h _;cases h
 . rw [if_pos ⟨a6y hl,a6y hm⟩]
   simp only [PyData.eqv,b0R]
theorem b4O {l m:List Str} (hl:∀ w ∈ l,SOk w) (hm:∀ w ∈ m,SOk w):W6 (.list (l.map .str)) (.list (m.map .str))=some (.dat (.bool (!decide (l=m)))):=by
 unfold W6
 split
 . rename_i h _;cases h
 . rw [if_pos ⟨a6y hl,a6y hm⟩]
   simp only [PyData.eqv,b0R]
theorem a2T (n:Int):∀ c ∈ H9 n,c=45\/(48<=c/\c<=57):=by
 intro c hc
 unfold H9 at hc
 split at hc
 . rcases mem_cons.mp hc with h | h
   . exact .inl h
   . exact .inr (U3 _ c h)
 . exact .inr (U3 _ c hc)
theorem a5V (n:Int):SOk (j8 n):=a5U fun c hc=>by
 rw [X8] at hc
 have:=a2T n c hc
 omega
theorem a9y {s:String} (h:(lz (Str.ofString s)).all (fun c=>decide (c < 1114112))=true):SOk (Str.ofString s):=a5U fun c hc=>by
 have:=all_eq_true.mp h c hc
 exact of_decide_eq_true this
theorem c1z {x:Hr} (H:Hr5 x):A7 [.list ((A2 x).map .str)]=some (.dat (w9 x)):=by
 have a1:=H.sun;have a2:=H.need;have a3:=H.line
 have p:=a2H (l:=[Wrd.am x.sun,.am x.need]) (by
  intro y hy
  simp only [mem_cons,not_mem_nil,or_false] at hy
  rcases hy with rfl | rfl <;> assumption) (by simp)
 have p':o5 [.list [.str (j8 x.sun),.str (j8 x.need)],R7]=some (.dat (.tuple [.int x.sun,.int x.need])):=p
 obtain ⟨su,ne,ln⟩:=x
 simp only at p' a3
 have hd:SOk (Str.ofString "dark"):=a9y (by decide +kernel)
 have hli:SOk (Str.ofString "line"):=a9y (by decide +kernel)
 cases ln with
 | none =>
  have e:v5 (.list [.str (Str.ofString "dark")]) (.list [.str (Str.ofString "dark")])=some (.dat (.bool true)):=by
   have:=b0S (l:=[(Str.ofString "dark")]) (m:=[(Str.ofString "dark")]) (by simpa using hd) (by simpa using hd)
   rw [decide_eq_true rfl] at this
   exact this
  show A7 [.list [.str (Str.ofString "hour"),.str (j8 su),.str (j8 ne),.str (Str.ofString "dark")]]=some (.dat (.tuple [.int su,.int ne,.none]))
  unfold A7
  walk_at "t"
  rw [show p7 (.list [.str (Str.ofString "hour"),.str (j8 su),.str (j8 ne),.str (Str.ofString "dark")]) (some 1) (some 3)=some (.own [.str (j8 su),.str (j8 ne)]) from rfl]
  walk_at "t"
  rw [p']
  walk_at "t"
  rw [show p7 (.list [.str (Str.ofString "hour"),.str (j8 su),.str (j8 ne),.str (Str.ofString "dark")]) (some 3) none=some (.own [.str (Str.ofString "dark")]) from rfl]
  walk_at "t"
  rw [e]
  walk_at "t"
  rw [show m5 (.tuple [.int su,.int ne]) (.tuple [.none])=some (.dat (.tuple [.int su,.int ne,.none])) from rfl]
  walk_at "t"
 | some l =>
  obtain ⟨a,b,c,d⟩:=l
  obtain ⟨b1,b2,b3,b4⟩:=a3 a b c d rfl
  have q:=a2H (l:=T2 (a,b,c,d)) (by
   intro y hy
   simp only [T2,mem_cons,not_mem_nil,or_false] at hy
   rcases hy with rfl | rfl | rfl | rfl
   . exact b1
   . exact b2
   . exact b3
   . exact b4) (by simp [T2])
  have q':o5 [.list [.str (j8 a),.str (j8 b),.str (j8 c),.str (j8 d)],a2v]=some (.dat (.tuple [.int a,.int b,.int c,.int d])):=q
  have e:v5 (.list [.str (Str.ofString "line"),.str (j8 a),.str (j8 b),.str (j8 c),.str (j8 d)]) (.list [.str (Str.ofString "dark")])=some (.dat (.bool false)):=by
   have:=b0S (l:=[(Str.ofString "line"),j8 a,j8 b,j8 c,j8 d]) (m:=[(Str.ofString "dark")]) (by
    intro w hw
    simp only [mem_cons,not_mem_nil,or_false] at hw
    rcases hw with rfl | rfl | rfl | rfl | rfl
    . exact hli
    . exact a5V _
    . exact a5V _
    . exact a5V _
    . exact a5V _) (by simpa using hd)
   rw [decide_eq_false (by simp)] at this
   exact this
  have e2:W6 (.list [.str (Str.ofString "line")]) (.list [.str (Str.ofString "line")])=some (.dat (.bool false)):=by
   have:=b4O (l:=[(Str.ofString "line")]) (m:=[(Str.ofString "line")]) (by simpa using hli) (by simpa using hli)
   rw [decide_eq_true rfl] at this
   exact this
  show A7 [.list [.str (Str.ofString "hour"),.str (j8 su),.str (j8 ne),.str (Str.ofString "line"),.str (j8 a),.str (j8 b),.str (j8 c),.str (j8 d)]]=some (.dat (.tuple [.int su,.int ne,.tuple [.int a,.int b,.int c,.int d]]))
  generalize eL:[PyData.str (Str.ofString "hour"),.str (j8 su),.str (j8 ne),.str (Str.ofString "line"),.str (j8 a),.str (j8 b),.str (j8 c),.str (j8 d)]=L
  have i0:ixD (.list L) (.int 0)=some (.dat (.str (Str.ofString "hour"))):=by rw [<-eL];rfl
  have s13:p7 (.list L) (some 1) (some 3)=some (.own [.str (j8 su),.str (j8 ne)]):=by rw [<-eL];rfl
  have s3:p7 (.list L) (some 3) none=some (.own [.str (Str.ofString "line"),.str (j8 a),.str (j8 b),.str (j8 c),.str (j8 d)]):=by rw [<-eL];rfl
  have s4:p7 (.list L) (some 4) none=some (.own [.str (j8 a),.str (j8 b),.str (j8 c),.str (j8 d)]):=by rw [<-eL];rfl
  have s34:p7 (.list L) (some 3) (some 4)=some (.own [.str (Str.ofString "line")]):=by rw [<-eL];rfl
  unfold A7
  rw [show R7=R7 from rfl]
  walk_at "t"
  rw [s13]
  walk_at "t"
  rw [p']
  walk_at "t"
  rw [show atI L 0=some (.str (Str.ofString "hour")) from by rw [<-eL];rfl]
  walk_at "t"
  rw [s3]
  walk_at "t"
  rw [e]
  walk_at "t"
  rw [s4]
  walk_at "t"
  rw [q']
  walk_at "t"
  rw [s34]
  walk_at "t"
  rw [e2]
  walk_at "t"
  rw [show m5 (.tuple [.int su,.int ne]) (.tuple [.tuple [.int a,.int b,.int c,.int d]])=some (.dat (.tuple [.int su,.int ne,.tuple [.int a,.int b,.int c,.int d]])) from rfl]
  walk_at "t"
noncomputable abbrev W3 (x:Hr):PyData:=.list ((A2 x).map .str)
noncomputable abbrev B0 (w:Wk):PyData:=.list ((B6 w).map .str)
theorem b5Q {z:Str} (h:Nm z):C6 (lz z)=none:=by
 have nm:∀ c ∈ lz z,97<=c/\c<=122:=fun c hc=>of_decide_eq_true (all_eq_true.mp h.all c hc)
 have h47:47 ∉ lz z:=fun hc=>by have:=nm 47 hc;omega
 have hs:Q7 (lz z)=none:=by
  unfold Q7
  cases e:lz z with
  | nil=>exact absurd e h.ne
  | cons c r =>
   have hc:=nm c (by rw [e];exact mem_cons_self)
   rw [if_neg (by simp;omega)]
   have:O0 (c::r)=none:=by
    unfold O0
    rw [if_neg]
    rintro ⟨_,_,ha⟩
    rw [all_cons,Bool.and_eq_true] at ha
    have:=of_decide_eq_true ha.1
    omega
   rw [this];rfl
 unfold C6 W7
 rw [if_neg h47,hs]
 rfl
theorem b4y {z:Str} (h:Nm z):D4 [.str z]=some (.dat .none):=by
 have hl:=u4 z
 have h8:=h.len
 have rf:=a1o (z:=z) (by omega)
 rw [b5Q h] at rf
 unfold D4 C8
 walk_at "t"
 rw [rf]
 walk_at "t"
 show _=_
 unfold frO
 walk_at "t"
theorem b1q {n:Int} {w:Wk} (H:Wk5 n w) (hn:n<=24):A7 [B0 w]=some (.dat .none):=by
 have a2:=H.J1
 have E1:∀ r:Ds,A6 (some (.dat (fnD "read_amount"))::some (.dat (.str w.name))::r)=some (.dat .none):=fun r=>by
  unfold A6
  exact a1N (a3Y.trans (b4y H.name))
 have E2:∀ r:Ds,A6 (some (.dat (fnD "read_amount"))::some (.dat (.str (j8 w.J1)))::r)=some (.dat (.int w.J1)):=fun r=>b6S (x:=.am w.J1) a2 r
 have p:o5 [.list [.str w.name,.str (j8 w.J1)],R7]=some (.dat .none):=by
  unfold o5
  walk_at "t"
  rw [show a6p [R7,.list [.str w.name,.str (j8 w.J1)]]=some [.tuple [fnD "read_amount",.str w.name],.tuple [fnD "read_amount",.str (j8 w.J1)]] from rfl]
  walk_at "t"
  simp only [D9]
  walk_at "t"
  rw [E1]
  walk_at "t"
  rw [E2]
  walk_at "t"
  rw [show a6d .none (.list [.none,.int w.J1])=some (.dat (.bool true)) from rfl]
  walk_at "t"
 show A7 [.list [.str (Str.ofString "work"),.str w.name,.str (j8 w.J1),.str (j8 w.first),.str (j8 w.last),.str (j8 w.most)]]=_
 unfold A7
 walk_at "t"
 rw [show p7 (.list [.str (Str.ofString "work"),.str w.name,.str (j8 w.J1),.str (j8 w.first),.str (j8 w.last),.str (j8 w.most)]) (some 1) (some 3)=some (.own [.str w.name,.str (j8 w.J1)]) from rfl]
 walk_at "t"
 rw [p]
 walk_at "t"
 try simp
 try walk_at "t"
 try rfl
theorem a8R {r:Option PV} {rest:List PyData}:∀ (hs:List Hr) (done:List PyData) (y2 y3:Option PV),(∀ x ∈ hs,Hr5 x)->done.length + hs.length<=1000 ->
  ∃ z2 z3,K6 (G3 2) D7 (hs.map W3++rest) [r,some (.own done),y2,y3]=K6 (G3 2) D7 rest [r,some (.own (done++hs.map w9)),z2,z3]
 | [],done,y2,y3,_,_=>⟨y2,y3,by simp⟩
 | x::hs,done,y2,y3,h,hl=>by
  rw [length_cons] at hl
  obtain ⟨z2,z3,e⟩:=a8R (r:=r) (rest:=rest) hs (done++[w9 x]) (some (.dat (W3 x))) (some (.dat (w9 x))) (fun y hy=>h y (mem_cons_of_mem _ hy)) (by rw [length_append,length_singleton];omega)
  refine ⟨z2,z3,?_⟩
  have B:D7 [r,some (.own done),some (.dat (W3 x)),y3]=some (.next [r,some (.own (done++[w9 x])),some (.dat (W3 x)),some (.dat (w9 x))]):=by
   have rh:=c1z (h x mem_cons_self)
   have nn:q9 (w9 x)=false:=rfl
   unfold D7
   walk_at "t"
   rw [rh]
   walk_at "t"
   rw [nn]
   walk_at "t"
   rw [U5 (l:=done) _ rfl (by omega)]
   rfl
  rw [map_cons,cons_append,a0X rfl B,e,map_cons,append_assoc]
  rfl
theorem m3 {G1 G2:Ds->Option Out} {ds ds':Ds} (h:G1 ds=some (.next ds')):i8 G1 G2 ds=G2 ds':=by unfold i8;rw [h];rfl
theorem A8 {j:Nat} {F:Ds->Option PV} {ds:Ds} {pv:PV} (h:F ds=some pv):j6 j F ds=some (.next (ds.set j (some (.dat pv.d)))):=by unfold j6;rw [h];rfl
theorem a3t {α:Type} (l:List α) (k:Nat):cutD l none (some (k:Int))=l.take k:=by
 unfold cutD HT.sIx
 simp only [show ¬ (k:Int) < 0 by omega,if_false,Int.toNat_natCast]
 by_cases c:k<=l.length
 . simp [Nat.min_eq_left c]
 . simp [Nat.min_eq_right (by omega:l.length<=k),take_of_length_le (by omega:l.length<=k)]
theorem b9g {hs:List Hr} {ws:List Wk} {n:Int} (h:∀ x ∈ hs,Hr5 x) (hl:hs.length<=24) (hw:∀ w ∈ ws,Wk5 n w) (hn:n<=24):B9 [.list (hs.map W3++ws.map B0)]=some (.own (hs.map w9)):=by
 have ht:(hs.map W3++ws.map B0).take 24=hs.map W3++(ws.map B0).take (24 - hs.length):=by
  rw [take_append,length_map,take_of_length_le (by rw [length_map];omega)]
 generalize eL:hs.map W3++ws.map B0=L
 have hc:p7 (.list L) none (some 24)=some (.own (hs.map W3++(ws.map B0).take (24 - hs.length))):=by
  rw [<-eL,<-ht,<-a3t];rfl
 obtain ⟨z2,z3,e⟩:=a8R (r:=some (.dat (.list L))) (rest:=(ws.map B0).take (24 - hs.length)) hs [] none none h (by simp;omega)
 rw [nil_append] at e
 unfold B9
 walk_at "t"
 rw [hc]
 walk_at "t"
 rw [e]
 cases er:(ws.map B0).take (24 - hs.length) with
 | nil =>
  rw [a6Y]
  walk_at "t"
 | cons d r =>
  have hd:d ∈ ws.map B0:=mem_of_mem_take (by rw [er];exact mem_cons_self)
  obtain ⟨w,hw1,rfl⟩:=mem_map.mp hd
  have rh:=b1q (hw w hw1) hn
  have B:D7 [some (.dat (.list L)),some (.own (hs.map w9)),some (.dat (B0 w)),z3]=some (.ret (.own (hs.map w9))):=by
   unfold D7
   walk_at "t"
   rw [rh]
   walk_at "t"
  unfold K6
  show (R4 ((D7 [some (.dat (.list L)),some (.own (hs.map w9)),some (.dat (B0 w)),z3]).bind _) _).bind _=_
  rw [B]
  walk_at "t"
theorem b4Z {z:Str} {l:List Str} (h:z ∉ l):(or2 inD a6U) (.str z) (.list (l.map .str))=some (.dat (.bool false)):=by
 have h1:(l.map PyData.str).all Flat=true:=by
  rw [all_eq_true]
  intro d hd
  obtain ⟨x,_,rfl⟩:=mem_map.mp hd
  rfl
 have h2:((l.map PyData.str).any fun y=>eqF y (.str z))=false:=by
  rw [List.any_eq_false]
  intro d hd
  obtain ⟨x,hx,rfl⟩:=mem_map.mp hd
  show ¬ ((x==z)=true)
  rw [beq_iff_eq]
  intro e
  subst e
  exact h hx
 have e:inD (.str z) (.list (l.map .str))=some (.dat (.bool false)):=by
  show (if Flat (.str z)=true/\(l.map PyData.str).all Flat=true then some (PV.dat (.bool ((l.map PyData.str).any fun y=>eqF y (.str z)))) else none)=_
  rw [if_pos ⟨rfl,h1⟩,h2]
 unfold or2
 rw [e]
theorem b2K {n:Int} {r:Option PV} (hn:n<=24):∀ (ws done:List Wk) (y4 y5:Option PV),(∀ w ∈ ws,Wk5 n w)->((done++ws).map Wk.name).Nodup->done.length + ws.length<=1000 ->
  ∃ z4 z5,K6 (G3 4) C4 (ws.map B0) [r,iD n,some (.own (done.map o7)),some (.own ((done.map Wk.name).map .str)),y4,y5]=some (.next [r,iD n,some (.own ((done++ws).map o7)),some (.own (((done++ws).map Wk.name).map .str)),z4,z5])
 | [],done,y4,y5,_,_,_=>⟨y4,y5,by rw [append_nil];rfl⟩
 | w::ws,done,y4,y5,h,nd,hl=>by
  rw [length_cons] at hl
  have nd':(((done++[w])++ws).map Wk.name).Nodup:=by rw [append_assoc];exact nd
  obtain ⟨z4,z5,e⟩:=b2K (r:=r) hn ws (done++[w]) (some (.dat (B0 w))) (some (.dat (o7 w))) (fun y hy=>h y (mem_cons_of_mem _ hy)) nd' (by rw [length_append,length_singleton];omega)
  refine ⟨z4,z5,?_⟩
  have hni:w.name ∉ done.map Wk.name:=by
   rw [map_append,map_cons] at nd
   have:=(List.nodup_append.mp nd).2.2
   intro hm
   exact this _ hm _ mem_cons_self rfl
  have B:C4 [r,iD n,some (.own (done.map o7)),some (.own ((done.map Wk.name).map .str)),some (.dat (B0 w)),y5]=some (.next [r,iD n,some (.own ((done++[w]).map o7)),some (.own (((done++[w]).map Wk.name).map .str)),some (.dat (B0 w)),some (.dat (o7 w))]):=by
   have rw1:=b0s (h w mem_cons_self) hn
   have nn:q9 (o7 w)=false:=rfl
   have i0:ixD (o7 w) (.int 0)=some (.dat (.str w.name)):=rfl
   have ni:=b4Z hni
   rw [map_append,map_append,map_append]
   simp only [map_cons,map_nil]
   have ln1:(done.map o7).length < 1000000:=by rw [length_map];omega
   have ln2:((done.map Wk.name).map PyData.str).length < 1000000:=by rw [length_map,length_map];omega
   generalize done.map o7=D1 at *
   generalize (done.map Wk.name).map PyData.str=D2 at *
   unfold C4
   rw [m3 (A8 (pv:=.dat (o7 w)) (by walk_at "t";exact rw1))]
   simp only [set_cons_zero,set_cons_succ,PV.t9]
   rw [m3 (ds':=[r,iD n,some (.own D1),some (.own D2),some (.dat (B0 w)),some (.dat (o7 w))]) (by
    simp only [gIf,bOr,m4,fOp,d5,fC,U1,frz,map_cons,map_nil,List.getElem?_cons_zero,List.getElem?_cons_succ,Option.bind_some,PV.t9,PV.a3g,a2S]
    rw [nn]
    walk_at "t"
    rw [i0]
    walk_at "t"
    rw [ni]
    walk_at "t")]
   rw [m3 (ds':=[r,iD n,some (.own (D1++[o7 w])),some (.own D2),some (.dat (B0 w)),some (.dat (o7 w))]) (by
    rw [a1j]
    exact U5 (i:=2) (l:=D1) (.dat (o7 w)) rfl ln1)]
   rw [a1j]
   exact U5 (i:=3) (l:=D2) (.dat (.str w.name)) rfl ln2
  rw [map_cons,a0X rfl B,e,append_assoc]
  rfl
theorem b9b {ws:List Wk} {n:Int} (hw:∀ w ∈ ws,Wk5 n w) (hn:n<=24) (wl:ws.length<=6) (nd:(ws.map Wk.name).Nodup):C7 [.list (ws.map B0),.int n]=some (.own (ws.map o7)):=by
 obtain ⟨z4,z5,e⟩:=b2K (r:=some (.dat (.list (ws.map B0)))) hn ws [] none none hw (by simpa using nd) (by simp;omega)
 have hc:p7 (.list (ws.map B0)) none (some 6)=some (.own (ws.map B0)):=by
  have:cutD (ws.map B0) none (some ((6:Nat):Int))=ws.map B0:=by rw [a3t,take_of_length_le (by rw [length_map];omega)]
  show some (PV.own (cutD (ws.map B0) none (some 6)))=_
  exact congrArg (fun l=>some (PV.own l)) this
 simp only [map_nil,nil_append] at e
 generalize ws.map B0=R at *
 unfold C7
 walk_at "t"
 rw [hc]
 walk_at "t"
 rw [e]
 walk_at "t"
structure W5 (w:Str):Prop where
 len:w.length<=130
 no:32 ∉ lz w
 ok:SOk w
theorem a1n {n:Int} (h:PrM n):W5 (j8 n):=by
 refine ⟨Nat.le_trans (a0K (b1A h)) (by decide),fun hc=>?_,a5V n⟩
 rw [X8] at hc
 have:=a2T n 32 hc
 omega
theorem c1f {q:Int × Int} (h:Shr q):W5 (B7 q):=by
 have s:=h.small
 have key:∀ c ∈ lz (B7 q),c=45\/c=47\/(48<=c/\c<=57):=by
  intro c hc
  rw [a2K s.pos] at hc
  split at hc
  . rcases a2T _ c hc with z | z
    . exact .inl z
    . exact .inr (.inr z)
  . rcases mem_append.mp hc with z | z
    . rcases a2T _ c z with z | z
      . exact .inl z
      . exact .inr (.inr z)
    . rcases mem_cons.mp z with z | z
      . exact .inr (.inl z)
      . exact .inr (.inr (U3 _ c z))
 refine ⟨h.len,fun hc=>?_,a5U fun c hc=>?_⟩
 . have:=key 32 hc;omega
 . have:=key c hc;omega
theorem c3v {z:Str} (h:Nm z):W5 z:=by
 have nm:∀ c ∈ lz z,97<=c/\c<=122:=fun c hc=>of_decide_eq_true (all_eq_true.mp h.all c hc)
 have hl:=u4 z
 have h8:=h.len
 refine ⟨by omega,fun hc=>?_,a5U fun c hc=>?_⟩
 . have:=nm 32 hc;omega
 . have:=nm c hc;omega
theorem S9 {s:String} (h:((lz (Str.ofString s)).all fun c=>decide (c < 1114112/\c ≠ 32))=true) (hl:(lz (Str.ofString s)).length<=130):W5 (Str.ofString s):=by
 have k:∀ c ∈ lz (Str.ofString s),c < 1114112/\c ≠ 32:=fun c hc=>of_decide_eq_true (all_eq_true.mp h c hc)
 exact ⟨by rw [u4];exact hl,fun hc=>(k 32 hc).2 rfl,a5U fun c hc=>(k c hc).1⟩
theorem b8L {x:Wrd} (h:x.ok):W5 x.w:=by
 cases x with
 | am n=>exact a1n ⟨by have:=h.1;omega,h.2⟩
 | pr n=>exact a1n h
 | sh q=>exact c1f h
 | nm z=>exact c3v h
noncomputable def t6 (h:C3):List (List Str):=B2 h::(h.hs.map A2++h.ws.map B6)
noncomputable def lnS (l:List Str):Str:=Txt.join ⟨#[32]⟩ l
noncomputable def Z9 (h:C3):List PyData:=(t6 h).map fun l=>.str (lnS l)
structure Ln5 (l:List Str):Prop where
 ne:l ≠ []
 len:l.length<=700
 w:∀ w ∈ l,W5 w
theorem a2L {h:C3} (H:H5 h):Ln5 (B2 h):=by
 have a1:=H.size;have a2:=H.start;have a3:=H.fill;have a4:=H.take;have a5:=H.kept;have a6:=H.left;have a7:=H.rest
 refine ⟨by simp [B2],by simp [B2,A9],fun w hw=>?_⟩
 rcases mem_cons.mp hw with rfl | hw
 . exact S9 (by decide +kernel) (by decide +kernel)
 . obtain ⟨x,hx,rfl⟩:=mem_map.mp hw
   refine b8L ?_
   simp only [A9,mem_cons,not_mem_nil,or_false] at hx
   rcases hx with rfl | rfl | rfl | rfl | rfl | rfl | rfl <;> assumption
theorem T9 {n:Int} (h:InM n):PrM n:=⟨by have:=h.1;omega,h.2⟩
theorem a9F {x:Hr} (H:Hr5 x):Ln5 (A2 x):=by
 have a1:=H.sun;have a2:=H.need;have a3:=H.line
 obtain ⟨su,ne,ln⟩:=x
 have wh:W5 (Str.ofString "hour"):=S9 (by decide +kernel) (by decide +kernel)
 cases ln with
 | none =>
  refine ⟨by simp [A2],by simp [A2],fun w hw=>?_⟩
  simp only [A2,mem_cons,not_mem_nil,or_false] at hw
  rcases hw with rfl | rfl | rfl | rfl
  . exact wh
  . exact a1n (T9 a1)
  . exact a1n (T9 a2)
  . exact S9 (by decide +kernel) (by decide +kernel)
 | some l =>
  obtain ⟨a,b,c,d⟩:=l
  obtain ⟨b1,b2,b3,b4⟩:=a3 a b c d rfl
  refine ⟨by simp [A2],by simp [A2,T2],fun w hw=>?_⟩
  simp only [A2,T2,map_cons,map_nil,cons_append,nil_append,mem_cons,not_mem_nil,or_false] at hw
  rcases hw with rfl | rfl | rfl | rfl | rfl | rfl | rfl | rfl
  . exact wh
  . exact a1n (T9 a1)
  . exact a1n (T9 a2)
  . exact S9 (by decide +kernel) (by decide +kernel)
  . exact a1n b1
  . exact a1n (T9 b2)
  . exact a1n b3
  . exact a1n (T9 b4)
theorem a9E {n:Int} {w:Wk} (H:Wk5 n w) (hn:n<=24):Ln5 (B6 w):=by
 have a1:=H.name;have a2:=H.J1;have a3:=H.first;have a4:=H.fl;have a5:=H.last;have a6:=H.most
 refine ⟨by simp [B6],by simp [B6,D0],fun z hz=>?_⟩
 rcases mem_cons.mp hz with rfl | hz
 . exact S9 (by decide +kernel) (by decide +kernel)
 . obtain ⟨x,hx,rfl⟩:=mem_map.mp hz
   refine b8L ?_
   simp only [D0,mem_cons,not_mem_nil,or_false] at hx
   rcases hx with rfl | rfl | rfl | rfl | rfl
   . exact a1
   . exact a2
   . exact ⟨a3,by omega⟩
   . exact ⟨by omega,by omega⟩
   . exact a6
theorem b4T {h:C3} (H:H5 h):∀ l ∈ t6 h,Ln5 l:=by
 have hl:=H.hl
 intro l hl'
 rcases mem_cons.mp hl' with rfl | z
 . exact a2L H
 . rcases mem_append.mp z with z | z
   . obtain ⟨x,hx,rfl⟩:=mem_map.mp z
     exact a9F (H.hs x hx)
   . obtain ⟨w,hw,rfl⟩:=mem_map.mp z
     exact a9E (H.ws w hw) (by omega)
theorem a5W:∀ L:List (List Str),(∀ l ∈ L,Ln5 l)->PyData.canLayAll0 (L.map fun l=>.list (l.map .str))=true/\PyData.depthAll (L.map fun l=>.list (l.map .str))<=3
 | [],_=>⟨by simp [PyData.canLayAll0],by simp [PyData.depthAll]⟩
 | a::L,h=>by
  obtain ⟨h1,h2⟩:=a5W L fun l hl=>h l (mem_cons_of_mem _ hl)
  obtain ⟨g1,g2⟩:=b2e a fun w hw=>((h a mem_cons_self).w w hw).ok
  exact ⟨by simp [PyData.canLayAll0,PyData.canLay0,h1,g1],by simp [PyData.depthAll,PyData.depth];omega⟩
theorem c3F (x:Hr):PyData.canLay0 (w9 x)=true/\PyData.depth (w9 x)<=3:=by
 obtain ⟨s,n,l⟩:=x
 cases l with
 | none=>exact ⟨by simp [w9,a0M,PyData.canLay0,PyData.canLayAll0],by simp [w9,a0M,PyData.depth,PyData.depthAll]⟩
 | some l=>obtain ⟨a,b,c,d⟩:=l;exact ⟨by simp [w9,a0M,PyData.canLay0,PyData.canLayAll0],by simp [w9,a0M,PyData.depth,PyData.depthAll]⟩
theorem b0n:∀ L:List Hr,PyData.canLayAll0 (L.map w9)=true/\PyData.depthAll (L.map w9)<=3
 | []=>⟨by simp [PyData.canLayAll0],by simp [PyData.depthAll]⟩
 | a::L=>by
  obtain ⟨h1,h2⟩:=b0n L
  obtain ⟨g1,g2⟩:=c3F a
  exact ⟨by simp [PyData.canLayAll0,h1,g1],by simp [PyData.depthAll];omega⟩
theorem eq_nil {d:PyData} {r:List PyData} (h1:PyData.canLayAll0 (d::r)=true) (h2:PyData.depthAll (d::r)<=3):v5 (.list (d::r)) (.list [])=some (.dat (.bool false)):=by
 unfold v5
 split
 . rename_i h _;cases h
 . rw [if_pos ⟨by simp [SeqAt.shaped,PyData.canLay0,PyData.depth,h1];omega,by simp [SeqAt.shaped,PyData.canLay0,PyData.depth,PyData.canLayAll0,PyData.depthAll]⟩]
   simp [PyData.eqv,PyData.eqvAll]
theorem c3M {h:C3} (H:H5 h):a1u [.list (Z9 h)]=some (.dat (a0E h)):=by
 have h1:=H.h1;have hl:=H.hl;have wl:=H.wl
 have LA:=b4T H
 have ec:D9 C1 G4 b1g [some (.dat (.list (Z9 h))),none,none,none,none,none] (Z9 h)=some ((t6 h).map fun l=>.list (l.map .str)):=comp_map fun l hl'=>⟨.own (l.map .str),by
  have k:=LA l hl'
  have s:=a8n (ws:=l) k.ne k.len (fun w hw=>(k.w w hw).len) (fun w hw=>(k.w w hw).no)
  unfold b1g
  walk_at "t"
  exact s,rfl⟩
 have er:((t6 h).map fun l=>PyData.list (l.map .str))=.list ((B2 h).map .str)::(h.hs.map W3++h.ws.map B0):=by
  simp [t6,map_map,Function.comp_def]
 obtain ⟨s1,s2⟩:=a5W (t6 h) LA
 rw [er] at ec s1 s2
 have en:=eq_nil s1 s2
 have ln:(Z9 h).length<=31:=by
  simp [Z9,t6];omega
 have rs:=a5a H
 have rh:=b9g (hs:=h.hs) (ws:=h.ws) (n:=h.hs.length) H.hs hl H.ws (by omega)
 have rwk:=b9b (ws:=h.ws) (n:=h.hs.length) H.ws (by omega) wl H.nd
 have d1:p7 (.list (.list ((B2 h).map .str)::(h.hs.map W3++h.ws.map B0))) (some 1) none=some (.own (h.hs.map W3++h.ws.map B0)):=by
  show some (PV.own (cutD _ (some ((1:Nat):Int)) none))=_
  rw [a1M];rfl
 have d2:p7 (.list (.list ((B2 h).map .str)::(h.hs.map W3++h.ws.map B0))) (some (1 + (h.hs.length:Int))) none=some (.own (h.ws.map B0)):=by
  have:cutD (.list ((B2 h).map .str)::(h.hs.map W3++h.ws.map B0)) (some ((h.hs.length + 1:Nat):Int)) none=h.ws.map B0:=by
   rw [a1M,drop_succ_cons,List.drop_append_of_le_length (by rw [length_map];exact Nat.le_refl _),drop_of_length_le (by rw [length_map];exact Nat.le_refl _),nil_append]
  show some (PV.own (cutD _ (some (1 + (h.hs.length:Int))) none))=_
  rw [show (1 + (h.hs.length:Int))=((h.hs.length + 1:Nat):Int) by omega,this]
 obtain ⟨t1,t2⟩:=b0n h.hs
 have eh:v5 (.list (h.hs.map w9)) (.list [])=some (.dat (.bool false)):=by
  cases e:h.hs with
  | nil=>rw [e] at h1;simp at h1
  | cons a r=>rw [e] at t1 t2;exact eq_nil t1 t2
 have rl:(PyData.list ((B2 h).map .str)::(h.hs.map W3++h.ws.map B0)).length=1 + h.hs.length + h.ws.length:=by
  simp;omega
 have ns:q9 (K3 h)=false:=rfl
 have hh:PyData.tuple [.tuple (h.hs.map w9),K3 h,.tuple (h.ws.map o7)]=a0E h:=rfl
 have l1:(h.hs.map w9).length=h.hs.length:=length_map ..
 have l2:(h.ws.map o7).length=h.ws.length:=length_map ..
 generalize K3 h=SD at *
 generalize h.hs.map W3++h.ws.map B0=RR at *
 generalize h.ws.map B0=RW at *
 generalize PyData.list ((B2 h).map .str)=RS at *
 generalize h.hs.map w9=HD at *
 generalize h.ws.map o7=WD at *
 generalize Z9 h=LD at *
 unfold a1u
 walk_at "t"
 rw [if_pos (by omega),ec]
 walk_at "t"
 rw [en]
 walk_at "t"
 rw [rs]
 walk_at "t"
 rw [ns]
 walk_at "t"
 rw [d1]
 walk_at "t"
 rw [rh]
 walk_at "t"
 rw [eh]
 walk_at "t"
 rw [l1,d2]
 walk_at "t"
 rw [rwk]
 walk_at "t"
 rw [length_cons] at rl
 rw [if_neg (by omega)]
 walk_at "t"
 rw [hh]
theorem b8e {l:List Str} (h:Ln5 l):V8 (.str (Str.ofString " ")) [.list (l.map .str)]=some (.dat (.str (lnS l))):=c2l h.len fun w hw=>(h.w w hw).len
theorem b2F {l m:List PyData} (h:l.length + m.length<=1000):m5 (.list l) (.list m)=some (.own (l++m)):=c0Q (by omega)
inductive Tw where
 | n (i:Int)
 | s (z:Str)
noncomputable def Tw.d:Tw->PyData
 | .n i=>.int i
 | .s z=>.str z
noncomputable def Tw.w:Tw->Str
 | .n i=>j8 i
 | .s z=>z
noncomputable def Tw.ok:Tw->Prop
 | .n i=>PrM i
 | .s _=>True
theorem c5o {x:Tw} (h:x.ok):(or1 a4j b1k) [x.d]=some (.dat (.str x.w)):=by
 cases x with
 | n i =>
  have e:=a6v (b1A h)
  unfold or1
  show (match a4j [.int i] with | some v=>some v | none=>b1k [.int i])=_
  rw [e]
  rfl
 | s z=>rfl
theorem b1E {l:List Tw} (h:∀ x ∈ l,x.ok) (k:Ln5 (l.map Tw.w)) (hl:l.length<=100):J3 [.tuple (l.map Tw.d)]=some (.dat (.str (lnS (l.map Tw.w)))):=by
 have ec:∀ ds:Ds,D9 C1 G4 a7y ds (l.map Tw.d)=some (l.map fun x=>.str x.w):=fun ds=>comp_map fun x hx=>⟨.dat (.str x.w),by
  unfold a7y
  walk_at "t"
  exact c5o (h x hx),rfl⟩
 have j:=b8e k
 rw [map_map] at j
 have l1:(l.map Tw.d).length<=100:=by rw [length_map];exact hl
 generalize l.map Tw.d=D at *
 unfold J3
 walk_at "t"
 rw [if_pos (by omega),ec]
 walk_at "t"
 rw [show (l.map fun x=>PyData.str x.w)=l.map (PyData.str ∘ Tw.w) from rfl,j]
 walk_at "t"
theorem c0e {q:Int × Int} (h:Shr q):M9 [fr q]=some (.dat (.str (B7 q))):=by
 have s:=h.small
 have e1:=a6v s.top
 have e2:=a6v s.bot
 have l1:=a0K s.top
 have l2:=a0K s.bot
 unfold M9 B7
 walk_at "t"
 by_cases c:q.2=1
 . rw [if_pos c,if_pos c,e1]
   walk_at "t"
 . rw [if_neg c,if_neg c]
   walk_at "t"
   rw [e1]
   walk_at "t"
   rw [M6 (by rw [u4 (Str.ofString "/"),a1S];simp;omega)]
   walk_at "t"
   rw [e2]
   walk_at "t"
   rw [M6 (by rw [u4,D5,length_append,<-u4,a1S];simp;omega)]
   walk_at "t"
noncomputable def a8l (h:C3):List Tw:=[.s (Str.ofString "store"),.n h.size,.n h.start,.n h.fill,.n h.take,.s (B7 h.kept),.s (B7 h.left),.n h.rest]
noncomputable def a6V (x:Hr):List Tw:=match x.line with
 | none=>[.s (Str.ofString "hour"),.n x.sun,.n x.need,.s (Str.ofString "dark")]
 | some l=>[.s (Str.ofString "hour"),.n x.sun,.n x.need,.s (Str.ofString "line"),.n l.1,.n l.2.1,.n l.2.2.1,.n l.2.2.2]
noncomputable def b1i (w:Wk):List Tw:=[.s (Str.ofString "work"),.s w.name,.n w.J1,.n w.first,.n w.last,.n w.most]
theorem b8c {h:C3} (H:H5 h):J3 [.tuple ((a8l h).map Tw.d)]=some (.dat (.str (lnS (B2 h)))):=by
 have a1:=H.size;have a2:=H.start;have a3:=H.fill;have a4:=H.take;have a7:=H.rest
 have e:(a8l h).map Tw.w=B2 h:=rfl
 rw [<-e]
 refine b1E (fun x hx=>?_) (by rw [e];exact a2L H) (by simp [a8l])
 simp only [a8l,mem_cons,not_mem_nil,or_false] at hx
 rcases hx with rfl | rfl | rfl | rfl | rfl | rfl | rfl | rfl
 . trivial
 . exact T9 a1
 . exact T9 a2
 . exact T9 a3
 . exact T9 a4
 . trivial
 . trivial
 . exact T9 a7
theorem c0j {n:Int} {w:Wk} (H:Wk5 n w) (hn:n<=24):J3 [.tuple ((b1i w).map Tw.d)]=some (.dat (.str (lnS (B6 w)))):=by
 have a2:=H.J1;have a3:=H.first;have a4:=H.fl;have a5:=H.last;have a6:=H.most
 have e:(b1i w).map Tw.w=B6 w:=rfl
 rw [<-e]
 refine b1E (fun x hx=>?_) (by rw [e];exact a9E H hn) (by simp [b1i])
 simp only [b1i,mem_cons,not_mem_nil,or_false] at hx
 rcases hx with rfl | rfl | rfl | rfl | rfl | rfl
 . trivial
 . trivial
 . exact T9 a2
 . exact ⟨by omega,by omega⟩
 . exact ⟨by omega,by omega⟩
 . exact T9 a6
theorem c0k {x:Hr} (H:Hr5 x):J3 [.tuple ((a6V x).map Tw.d)]=some (.dat (.str (lnS (A2 x)))):=by
 have a1:=H.sun;have a2:=H.need;have a3:=H.line
 have k:=a9F H
 obtain ⟨su,ne,ln⟩:=x
 cases ln with
 | none =>
  have e:(a6V ⟨su,ne,none⟩).map Tw.w=A2 ⟨su,ne,none⟩:=rfl
  rw [<-e] at k ⊢
  refine b1E (fun x hx=>?_) k (by simp [a6V])
  simp only [a6V,mem_cons,not_mem_nil,or_false] at hx
  rcases hx with rfl | rfl | rfl | rfl
  . trivial
  . exact T9 a1
  . exact T9 a2
  . trivial
 | some l =>
  obtain ⟨a,b,c,d⟩:=l
  obtain ⟨b1,b2,b3,b4⟩:=a3 a b c d rfl
  have e:(a6V ⟨su,ne,some (a,b,c,d)⟩).map Tw.w=A2 ⟨su,ne,some (a,b,c,d)⟩:=rfl
  rw [<-e] at k ⊢
  refine b1E (fun x hx=>?_) k (by simp [a6V])
  simp only [a6V,mem_cons,not_mem_nil,or_false] at hx
  rcases hx with rfl | rfl | rfl | rfl | rfl | rfl | rfl | rfl
  . trivial
  . exact T9 a1
  . exact T9 a2
  . trivial
  . exact b1
  . exact T9 b2
  . exact b3
  . exact T9 b4
theorem b1D {r0 r1 r2 r3 r4:Option PV}:∀ (hs:List Hr) (acc:List PyData) (y6 y7 y8:Option PV),(∀ x ∈ hs,Hr5 x)->acc.length + hs.length<=1000 ->
  ∃ z6 z7 z8,K6 (b0q 3 (a1d 6 (a1d 7 (a1d 8 b0r)))) a3i (hs.map w9) [r0,r1,r2,r3,r4,some (.own acc),y6,y7,y8]=some (.next [r0,r1,r2,r3,r4,some (.own (acc++hs.map fun x=>.str (lnS (A2 x)))),z6,z7,z8])
 | [],acc,y6,y7,y8,_,_=>⟨y6,y7,y8,by rw [map_nil,a6Y];simp⟩
 | x::hs,acc,y6,y7,y8,h,hl=>by
  rw [length_cons] at hl
  obtain ⟨z6,z7,z8,e⟩:=b1D (r0:=r0) (r1:=r1) (r2:=r2) (r3:=r3) (r4:=r4) hs (acc++[.str (lnS (A2 x))]) (iD x.sun) (iD x.need) (some (.dat (a0M x.line))) (fun y hy=>h y (mem_cons_of_mem _ hy)) (by rw [length_append,length_singleton];omega)
  refine ⟨z6,z7,z8,?_⟩
  have B:a3i [r0,r1,r2,r3,r4,some (.own acc),iD x.sun,iD x.need,some (.dat (a0M x.line))]=some (.next [r0,r1,r2,r3,r4,some (.own (acc++[.str (lnS (A2 x))])),iD x.sun,iD x.need,some (.dat (a0M x.line))]):=by
   have lh:=c0k (h x mem_cons_self)
   have fin:∀ F:Ds->Option PV,F [r0,r1,r2,r3,r4,some (.own acc),iD x.sun,iD x.need,some (.dat (a0M x.line))]=some (.dat (.str (lnS (A2 x))))->a2j 5 F [r0,r1,r2,r3,r4,some (.own acc),iD x.sun,iD x.need,some (.dat (a0M x.line))]=some (.next [r0,r1,r2,r3,r4,some (.own (acc++[.str (lnS (A2 x))])),iD x.sun,iD x.need,some (.dat (a0M x.line))]):=fun F hF=>by
    rw [a1j,hF]
    exact U5 (i:=5) (l:=acc) _ rfl (by omega)
   obtain ⟨su,ne,ln⟩:=x
   unfold a3i
   cases ln with
   | none =>
    rw [show (gIf (m4 (fOp isD (d5 8) (fC .none))) _ _:Ds->Option Out) [r0,r1,r2,r3,r4,some (.own acc),iD su,iD ne,some (.dat (a0M none))]=_ from rfl]
    exact fin _ lh
   | some l =>
    obtain ⟨a,b,c,d⟩:=l
    exact fin _ lh
  rw [map_cons,a0X (ds1:=[r0,r1,r2,r3,r4,some (.own acc),iD x.sun,iD x.need,some (.dat (a0M x.line))]) rfl B,e,append_assoc]
  rfl
theorem c0h {h:C3} (H:H5 h):∃ pv,a0m [a0E h]=some pv/\pv.d=.list (Z9 h):=by
 have hl:=H.hl;have wl:=H.wl
 have t1:=c0e H.kept
 have t2:=c0e H.left
 have ls:=b8c H
 have ed:∀ ds:Ds,D9 C1 G4 a5M ds (h.ws.map o7)=some (h.ws.map fun w=>.str (lnS (B6 w))):=fun ds=>comp_map fun w hw=>⟨.dat (.str (lnS (B6 w))),by
  unfold a5M
  walk_at "t"
  rw [show m5 (.tuple [.str (Str.ofString "work")]) (o7 w)=some (.dat (.tuple ((b1i w).map Tw.d))) from rfl]
  walk_at "t"
  exact c0j (H.ws w hw) (by omega),rfl⟩
 have el:Z9 h=[PyData.str (lnS (B2 h))]++(h.hs.map fun x=>.str (lnS (A2 x)))++(h.ws.map fun w=>.str (lnS (B6 w))):=by
  simp [Z9,t6,map_map,Function.comp_def]
 have l2:(h.ws.map o7).length<=6:=by rw [length_map];exact wl
 have l3:(h.hs.map fun x=>PyData.str (lnS (A2 x))).length<=24:=by rw [length_map];exact hl
 have l4:(h.ws.map fun w=>PyData.str (lnS (B6 w))).length<=6:=by rw [length_map];exact wl
 obtain ⟨z6,z7,z8,er⟩:=b1D (r0:=some (.dat (a0E h))) (r1:=some (.dat (.tuple (h.hs.map w9)))) (r2:=some (.dat (K3 h))) (r3:=some (.dat (.tuple (h.ws.map o7)))) (r4:=some (.dat (.tuple [.str (B7 h.kept),.str (B7 h.left)]))) h.hs [.str (lnS (B2 h))] none none none H.hs (by simp;omega)
 refine ⟨.own (Z9 h),?_,rfl⟩
 rw [el]
 unfold a0m
 simp only [fnF,length_cons,length_nil,Nat.reduceAdd,reduceIte,a0j,a0Y,Nat.reduceSub,List.replicate,cons_append,nil_append]
 rw [m3 (ds':=[some (.dat (a0E h)),some (.dat (.tuple (h.hs.map w9))),some (.dat (K3 h)),some (.dat (.tuple (h.ws.map o7))),none,none,none,none,none]) rfl]
 rw [m3 (ds':=[some (.dat (a0E h)),some (.dat (.tuple (h.hs.map w9))),some (.dat (K3 h)),some (.dat (.tuple (h.ws.map o7))),some (.dat (.tuple [.str (B7 h.kept),.str (B7 h.left)])),none,none,none,none]) (by
  walk_at "t"
  rw [c0n]
  walk_at "t"
  rw [t1]
  walk_at "t"
  rw [c0m]
  walk_at "t"
  rw [t2]
  walk_at "t")]
 rw [m3 (ds':=[some (.dat (a0E h)),some (.dat (.tuple (h.hs.map w9))),some (.dat (K3 h)),some (.dat (.tuple (h.ws.map o7))),some (.dat (.tuple [.str (B7 h.kept),.str (B7 h.left)])),some (.own [.str (lnS (B2 h))]),none,none,none]) (by
  walk_at "t"
  rw [show p7 (K3 h) none (some 4)=some (.dat (.tuple [.int h.size,.int h.start,.int h.fill,.int h.take])) from rfl]
  walk_at "t"
  rw [show m5 (.tuple [.str (Str.ofString "store")]) (.tuple [.int h.size,.int h.start,.int h.fill,.int h.take])=some (.dat (.tuple [.str (Str.ofString "store"),.int h.size,.int h.start,.int h.fill,.int h.take])) from rfl]
  walk_at "t"
  rw [show m5 (.tuple [.str (Str.ofString "store"),.int h.size,.int h.start,.int h.fill,.int h.take]) (.tuple [.str (B7 h.kept),.str (B7 h.left)])=some (.dat (.tuple [.str (Str.ofString "store"),.int h.size,.int h.start,.int h.fill,.int h.take,.str (B7 h.kept),.str (B7 h.left)])) from rfl]
  walk_at "t"
  rw [show p7 (K3 h) (some 6) none=some (.dat (.tuple [.int h.rest])) from rfl]
  walk_at "t"
  rw [show m5 (.tuple [.str (Str.ofString "store"),.int h.size,.int h.start,.int h.fill,.int h.take,.str (B7 h.kept),.str (B7 h.left)]) (.tuple [.int h.rest])=some (.dat (.tuple ((a8l h).map Tw.d))) from rfl]
  walk_at "t"
  rw [ls]
  walk_at "t")]
 rw [m3 (by
  walk_at "t"
  exact er)]
 generalize (h.hs.map fun x=>PyData.str (lnS (A2 x)))=A at *
 generalize (h.ws.map fun w=>PyData.str (lnS (B6 w)))=B at *
 generalize h.ws.map o7=WD at *
 walk_at "t"
 rw [if_pos (by omega),ed]
 walk_at "t"
 rw [b2F (by simp;omega)]
 walk_at "t"
end Law
namespace Law
open PySem L2
noncomputable abbrev scr (ns:List Int):PyData:=.list (ns.map .int)
theorem b6u (ns:List Int):(ns.map PyData.int).length=ns.length:=by simp
theorem b8Y {ns:List Int} {i:Int} (h0:0<=i) (h:i < ns.length):atI (ns.map PyData.int) i=some (.int (ns.getD i.toNat 0)):=by
 rw [O7 (n:=i.toNat) (by omega) (by simp;omega),List.getElem?_map,List.getElem?_eq_getElem (by omega)]
 simp [List.getD_eq_getElem?_getD,List.getElem?_eq_getElem (show i.toNat < ns.length by omega)]
noncomputable def b0V:Ds->Option Out:=(i8 (j6 4 (fOp Z1 (fOp m5 (fOp a1l (fOp Z1 (d5 3) (fC (.int 2147483647))) (fC (.int 48271))) (fOp a1l (fOp a1l (fOp m5 (d5 1) (fC (.int 1))) (fOp m5 (d5 1) (fC (.int 5)))) (fC (.int 69621)))) (fC (.int 2147483629)))) (p8 (fOp Z1 (fOp Z1 (fOp a1l (d5 4) (fOp m5 (d5 4) (fC (.int 40692)))) (fC (.int 2147483587))) (d5 2))))
theorem c0x {d:PyData} {k m c:Int} (hk0:0<=k) (hk1:k<=1000000) (hm:0 < m):∃ r:Int,b0V [some (.dat d),iD k,iD m,iD c,none]=some (.ret (.dat (.int r)))/\0<=r/\r < m:=by
 have fin:∀ z:Int,0<=z.fmod m/\z.fmod m < m:=fun z=>⟨Int.fmod_nonneg_of_pos z hm,Int.fmod_lt_of_pos z hm⟩
 have h1:=Int.fmod_nonneg_of_pos c (b:=2147483647) (by decide)
 have h2:=Int.fmod_lt_of_pos c (b:=2147483647) (by decide)
 have b1:Bt 62 (k + 1):=Bt.small (by omega) (by omega)
 have b2:Bt 62 (k + 5):=Bt.small (by omega) (by omega)
 have h3:=Int.fmod_nonneg_of_pos (c.fmod 2147483647 * 48271 + (k + 1) * (k + 5) * 69621) (b:=2147483629) (by decide)
 have h4:=Int.fmod_lt_of_pos (c.fmod 2147483647 * 48271 + (k + 1) * (k + 5) * 69621) (b:=2147483629) (by decide)
 unfold b0V
 walk_at "r"
 rw [S6 (by decide)]
 walk_at "r"
 rw [a0s (Bt.s62 (by omega) (by omega)) Bt.lit,a0s (b1.mono (by decide)) (b2.mono (by decide))]
 walk_at "r"
 rw [a0s ((b1.mul b2).mono (by decide)) Bt.lit]
 walk_at "r"
 rw [S6 (by decide)]
 walk_at "r"
 rw [a0s (Bt.s62 (by omega) (by omega)) (Bt.s62 (by omega) (by omega))]
 walk_at "r"
 rw [S6 (by decide)]
 walk_at "r"
 rw [S6 (by omega)]
 exact ⟨_,rfl,fin _⟩
theorem u7 {ns:List Int} {k m:Int} (hl:ns.length<=63) (hk0:0<=k) (hk1:k<=1000000) (hm:0 < m):∃ r:Int,i5 [scr ns,.int k,.int m]=some (.dat (.int r))/\0<=r/\r < m:=by
 have fin:∀ z:Int,0<=z.fmod m/\z.fmod m < m:=fun z=>⟨Int.fmod_nonneg_of_pos z hm,Int.fmod_lt_of_pos z hm⟩
 have tail:∀ (c:Int),∃ r:Int,(b0V [some (.dat (scr ns)),iD k,iD m,iD c,none]).bind a6G=some (.dat (.int r))/\0<=r/\r < m:=fun c=>by
  obtain ⟨r,h,h'⟩:=c0x (d:=scr ns) (c:=c) hk0 hk1 hm
  rw [h]
  exact ⟨r,rfl,h'⟩
 unfold i5
 walk_at "r"
 rw [b6u]
 by_cases hp:(0:Int) < (ns.length:Int)
 . rw [if_pos hp,S6 (by omega)]
   have g1:=Int.fmod_nonneg_of_pos k hp
   have g2:=Int.fmod_lt_of_pos k hp
   walk_at "r"
   rw [b8Y g1 g2]
   walk_at "r"
   rw [b8Y (Int.le_refl 0) hp]
   walk_at "r"
   rw [S6 (by decide)]
   walk_at "r"
   by_cases h2:Int.fmod (ns.getD 0 0) 2=1
   . rw [if_pos h2,b6u]
     have q0:0<=k.fdiv (ns.length:Int):=Int.fdiv_nonneg hk0 (by omega)
     have q1:k.fdiv (ns.length:Int)<=k:=by
      have:=PySem.natAbs_fdiv_le k (ns.length:Int)
      omega
     rw [U4 (by decide) Bt.lit,U4 (by omega) (Bt.s62 (by omega) (by omega))]
     walk_at "r"
     rw [a0s Bt.lit (Bt.s62 (by omega) (by omega))]
     walk_at "r"
     rw [c1t (by omega)]
     walk_at "r"
     rw [S6 (by decide)]
     walk_at "r"
     rw [S6 (by omega)]
     walk_at "r"
     exact ⟨_,rfl,fin _⟩
   . rw [if_neg h2]
     simp only [a1Q]
     exact tail _
 . rw [if_neg hp]
   simp only [a1Q]
   exact tail 0
theorem b3t (x y:Int):a2A [iD x,iD y]=some (!decide (y=0)):=by
 unfold a2A
 walk_at "r"
theorem c0Y (x:Int) {y:Int} (h:y ≠ 0):a2B [iD x,iD y]=some (.next [iD y,iD (x.fmod y)]):=by
 unfold a2B
 walk_at "r"
 rw [S6 h]
 walk_at "r"
theorem b8d (x y:Int):Y5 [.int x,.int y]=some (.dat (.int (gc x y))):=by
 unfold Y5
 walk_at "r"
 obtain ⟨ds',h1,⟨x',y',rfl,hg⟩,h3⟩:=b2M (Fc:=a2A) (G:=a2B) (fun ds=>∃ x' y',ds=[iD x',iD y']/\gc x' y'=gc x y) (fun ds=>a2b 1 ds - 1) (by
  rintro ds ⟨x',y',rfl,hg⟩
  rw [b3t]
  by_cases h:y'=0
  . left;simp [h]
  . right
    refine ⟨by simp [h],_,c0Y x' h,⟨y',x'.fmod y',rfl,?_⟩,?_⟩
    . rw [<-hg]
      show ((Int.gcd y' (x'.fmod y'):Nat):Int)=(Int.gcd x' y':Nat)
      rw [b5b]
    . have:=a6e x' h
      walk_at "r"
      omega) (y.natAbs + 1) [iD x,iD y] ⟨x,y,rfl,rfl⟩ (by walk_at "r";omega)
 rw [b3t] at h3
 have hz:y'=0:=by simpa using h3
 subst hz
 have e:gc x' 0=if x' < 0 then -x' else x':=by show ((Int.gcd x' 0:Nat):Int)=_;rw [Int.gcd_zero_right];split <;> omega
 rw [h1,<-hg,e]
 walk_at "r"
theorem c0f {t b:Int} (hb:b ≠ 0) (hbb:Bt 8000 b):Y4 [.int t,.int b]=some (.dat (fr (D6 t b))):=by
 unfold Y4
 walk_at "r"
 rw [b8d]
 walk_at "r"
 have hg:=c3m (t:=t) hb
 have hgb:=c3n (t:=t) hb hbb
 unfold D6
 by_cases h0:b < 0
 . simp only [if_pos h0]
   walk_at "r"
   rw [U4 (by omega) hgb.neg,U4 (by omega) hgb.neg]
   rfl
 . simp only [if_neg h0]
   walk_at "r"
   rw [U4 hg hgb,U4 hg hgb]
   rfl
theorem c2f {t b:Int} (hb:0 < b):0 < (D6 t b).2/\Int.gcd (D6 t b).1 (D6 t b).2=1/\(D6 t b).1 * b=t * (D6 t b).2/\(D6 t b).2 ∣ b:=by
 have hg:0 < Int.gcd t b:=Int.gcd_pos_of_ne_zero_right t (by omega)
 have hgi:(0:Int) < gc t b:=by show (0:Int) < ((Int.gcd t b:Nat):Int);omega
 have e:D6 t b=(t / gc t b,b / gc t b):=by
  unfold D6
  rw [if_neg (by omega),Int.fdiv_eq_ediv_of_nonneg _ (by omega),Int.fdiv_eq_ediv_of_nonneg _ (by omega)]
 have d1:gc t b ∣ t:=Int.gcd_dvd_left ..
 have d2:gc t b ∣ b:=Int.gcd_dvd_right ..
 have m1:t / gc t b * gc t b=t:=Int.ediv_mul_cancel d1
 have m2:b / gc t b * gc t b=b:=Int.ediv_mul_cancel d2
 rw [e]
 refine ⟨Int.ediv_pos_of_pos_of_dvd hb (by omega) d2,Int.gcd_ediv_gcd_ediv_gcd hg,?_,⟨gc t b,m2.symm⟩⟩
 show t / gc t b * b=t * (b / gc t b)
 generalize gc t b=g at *
 have:t / g * b=t / g * (b / g * g):=by rw [m2]
 rw [this,Int.mul_comm (b / g) g,<-Int.mul_assoc,m1]
theorem Z8 {ns:List Int} {k most:Int} (hl:ns.length<=63) (k0:0<=k) (k1:k<=100000) (m0:20<=most) (m1:most<=1000000):∃ r:Int,p6 [scr ns,.int k,.int most]=some (.dat (.int r))/\0<=r/\r<=most:=by
 obtain ⟨w,ew,w0,w1⟩:=u7 (ns:=ns) (k:=k) (m:=6) hl k0 (by omega) (by decide)
 obtain ⟨a,ea,a0,a1⟩:=u7 (ns:=ns) (k:=k + 1) (m:=21) hl (by omega) (by omega) (by decide)
 obtain ⟨b,eb,b0,b1⟩:=u7 (ns:=ns) (k:=k + 1) (m:=most + 1) hl (by omega) (by omega) (by omega)
 unfold p6
 walk_at "r"
 rw [ew]
 walk_at "r"
 by_cases c1:w < 4
 . rw [if_pos c1,ea]
   walk_at "r"
   exact ⟨a,rfl,a0,by omega⟩
 . rw [if_neg c1]
   walk_at "r"
   by_cases c2:w=4
   . rw [if_pos c2]
     walk_at "r"
     exact ⟨most,rfl,by omega,by omega⟩
   . rw [if_neg c2]
     walk_at "r"
     rw [eb]
     walk_at "r"
     exact ⟨b,rfl,b0,by omega⟩
theorem b9o {ns:List Int} {k:Int} (hl:ns.length<=63) (k0:0<=k) (k1:k<=100000):∃ r:Int,U7 [scr ns,.int k]=some (.dat (.int r))/\PrM r:=by
 obtain ⟨a,ea,a0,a1⟩:=Z8 (ns:=ns) (k:=k) (most:=1000000) hl k0 k1 (by decide) (by decide)
 obtain ⟨w,ew,w0,w1⟩:=u7 (ns:=ns) (k:=k + 2) (m:=3) hl (by omega) (by omega) (by decide)
 obtain ⟨s,es,s1⟩:∃ s:Int,atI [PyData.int 1,.int 1,.int (-1)] w=some (.int s)/\(s=1\/s = -1):=by
  rcases (by omega:w=0\/w=1\/w=2) with rfl | rfl | rfl
  . exact ⟨1,rfl,.inl rfl⟩
  . exact ⟨1,rfl,.inl rfl⟩
  . exact ⟨-1,rfl,.inr rfl⟩
 unfold U7
 walk_at "r"
 rw [ea]
 walk_at "r"
 rw [ew]
 walk_at "r"
 rw [es]
 walk_at "r"
 rw [a0s (Bt.s62 (by omega) (by omega)) (Bt.s62 (by omega) (by omega))]
 refine ⟨a * s,rfl,?_⟩
 rcases s1 with rfl | rfl
 . exact ⟨by omega,by omega⟩
 . exact ⟨by omega,by omega⟩
theorem c4B {t b:Int} (t1:1<=t) (tb:t<=b) (b1:b<=1000):Shr (D6 t b):=by
 obtain ⟨h0,h1,h2,h3⟩:=c2f (t:=t) (show 0 < b by omega)
 have le:(D6 t b).2<=b:=Int.le_of_dvd (by omega) h3
 have e1:(D6 t b).1 * b=t * (D6 t b).2:=h2
 have p1:0 < (D6 t b).1:=by
  have:0 < t * (D6 t b).2:=Int.mul_pos (by omega) h0
  rw [<-e1] at this
  exact Int.pos_of_mul_pos_left this (by omega)
 refine ⟨p1,?_,by omega,h1⟩
 have:t * (D6 t b).2<=b * (D6 t b).2:=Int.mul_le_mul_of_nonneg_right tb (by omega)
 rw [<-e1,Int.mul_comm b] at this
 exact Int.le_of_mul_le_mul_right this (by omega)
theorem b8W {ns:List Int} {k:Int} (hl:ns.length<=63) (k0:0<=k) (k1:k<=10000):∃ q:Int × Int,U6 [scr ns,.int k]=some (.dat (fr q))/\Shr q:=by
 obtain ⟨w,ew,w0,w1⟩:=u7 (ns:=ns) (k:=700 + k) (m:=8) hl (by omega) (by omega) (by decide)
 obtain ⟨v,ev,v0,v1⟩:=u7 (ns:=ns) (k:=701 + k) (m:=2) hl (by omega) (by omega) (by decide)
 obtain ⟨u,eu,u0,u1⟩:=u7 (ns:=ns) (k:=k + 1) (m:=2) hl (by omega) (by omega) (by decide)
 obtain ⟨s,es,s0,s1⟩:∃ s:Int,atI [PyData.int 12,.int 1000] u=some (.int s)/\0 < s/\s<=1000:=by
  rcases (by omega:u=0\/u=1) with rfl | rfl
  . exact ⟨12,rfl,by decide,by decide⟩
  . exact ⟨1000,rfl,by decide,by decide⟩
 obtain ⟨b,eb,b0,b1⟩:=u7 (ns:=ns) (k:=k) (m:=s) hl k0 (by omega) s0
 obtain ⟨t,et,t0,t1⟩:=u7 (ns:=ns) (k:=k + 2) (m:=1 + b) hl (by omega) (by omega) (by omega)
 unfold U6
 walk_at "r"
 rw [ew]
 walk_at "r"
 by_cases c:w=0
 . rw [if_pos c]
   try walk_at "r"
   rw [ev]
   walk_at "r"
   rcases (by omega:v=0\/v=1) with rfl | rfl
   . exact ⟨(1,1000),rfl,by decide,by decide,by decide,by decide⟩
   . exact ⟨(999,1000),rfl,by decide,by decide,by decide,by decide⟩
 . rw [if_neg c]
   try walk_at "r"
   rw [eu]
   walk_at "r"
   rw [es]
   walk_at "r"
   rw [eb]
   walk_at "r"
   rw [et]
   walk_at "r"
   rw [c0f (by omega) (Bt.s62 (by omega) (by omega))]
   exact ⟨_,rfl,c4B (by omega) (by omega) (by omega)⟩
theorem c4E {ns:List Int} {k:Int} (hl:ns.length<=63) (k0:0<=k) (k1:k<=50000):∃ l:Option (Int × Int × Int × Int),U8 [scr ns,.int k]=some (.dat (a0M l))/\∀ a b c d,l=some (a,b,c,d)->PrM a/\InM b/\PrM c/\InM d:=by
 obtain ⟨w,ew,w0,w1⟩:=u7 (ns:=ns) (k:=k) (m:=3) hl k0 (by omega) (by decide)
 obtain ⟨a,ea,a0⟩:=b9o (ns:=ns) (k:=k + 1) hl (by omega) (by omega)
 obtain ⟨b,eb,b0,b1⟩:=Z8 (ns:=ns) (k:=k + 4) (most:=1000000) hl (by omega) (by omega) (by decide) (by decide)
 obtain ⟨c,ec,c0⟩:=b9o (ns:=ns) (k:=k + 6) hl (by omega) (by omega)
 obtain ⟨d,ed,d0,d1⟩:=Z8 (ns:=ns) (k:=k + 9) (most:=1000000) hl (by omega) (by omega) (by decide) (by decide)
 unfold U8
 walk_at "r"
 rw [ew]
 walk_at "r"
 by_cases z:w=0
 . rw [if_pos z]
   try walk_at "r"
   exact ⟨none,rfl,fun _ _ _ _ h=>by cases h⟩
 . rw [if_neg z]
   try walk_at "r"
   rw [ea]
   walk_at "r"
   rw [eb]
   walk_at "r"
   rw [ec]
   walk_at "r"
   rw [ed]
   walk_at "r"
   refine ⟨some (a,b,c,d),rfl,fun _ _ _ _ h=>?_⟩
   cases h
   exact ⟨a0,⟨b0,b1⟩,c0,⟨d0,d1⟩⟩
end Law
namespace Law
open PySem L2 PySem.NumText PySem.StrLaws
noncomputable abbrev abc:Str:=(Str.ofString "abcdefghijklmnopqrstuvwxyz")
noncomputable abbrev sgn (c:Nat):PyData:=.str ⟨#[c]⟩
theorem c0R {i:Int} (h0:0<=i) (h1:i < 26):ixD (.str abc) (.int i)=some (.dat (sgn (97 + i.toNat))):=by
 show (if abc.length<=1000000 then (atI abc.cps.toList i).bind fun c=>some (PV.dat (.str ⟨#[c]⟩)) else none)=_
 have hl:abc.length=26:=by decide +kernel
 have e:abc.cps.toList=[97,98,99,100,101,102,103,104,105,106,107,108,109,110,111,112,113,114,115,116,117,118,119,120,121,122]:=b2o
 rw [if_pos (by omega),e,O7 (n:=i.toNat) (by omega) (by simp;omega)]
 obtain ⟨n,rfl⟩:∃ n:Nat,i=(n:Int):=⟨i.toNat,by omega⟩
 rw [Int.toNat_natCast]
 have hn:n < 26:=by omega
 have:∀ m:Fin 26,([97,98,99,100,101,102,103,104,105,106,107,108,109,110,111,112,113,114,115,116,117,118,119,120,121,122]:List Nat)[m.val]? = some (97 + m.val):=by decide
 rw [this ⟨n,hn⟩]
 rfl
theorem c2k {cs:List Nat} (hl:cs.length<=500):∃ z:Str,V8 (.str (Str.ofString "")) [.list (cs.map sgn)]=some (.dat (.str z))/\lz z=cs:=by
 have e0:(cs.map sgn)=(cs.map fun c=>(⟨#[c]⟩:Str)).map PyData.str:=by rw [map_map];rfl
 refine ⟨Txt.join (Str.ofString "") (cs.map fun c=>(⟨#[c]⟩:Str)),?_,?_⟩
 . show ((strsOf (cs.map sgn)).bind fun ts=>if JoinOk (Str.ofString "") ts=true then some (PV.dat (PyData.str (Txt.join (Str.ofString "") ts))) else none)=_
   rw [e0,a6u]
   have hj:JoinOk (Str.ofString "") (cs.map fun c=>(⟨#[c]⟩:Str))=true:=by
    have f:=b0K 0 (cs.map fun c=>(⟨#[c]⟩:Str)) 0 (fun t ht=>by
     obtain ⟨c,_,rfl⟩:=mem_map.mp ht
     show (1:Nat)<=130
     decide)
    rw [length_map] at f
    unfold JoinOk
    rw [List.foldl_toArray]
    have e:(Str.ofString "").length=0:=by decide +kernel
    rw [e]
    have s:(92000:Nat)<=sizeLine:=by decide
    show (!decide ((cs.map fun c=>(⟨#[c]⟩:Str)).foldl (fun a t=>a + t.length + 0) 0 > sizeLine))=true
    rw [decide_eq_false (by omega)]
    rfl
   simp only [Option.bind_some,hj,if_true]
 . have k:=a6f (Str.ofString "") (cs.map fun c=>(⟨#[c]⟩:Str))
   rw [show Txt.join (Str.ofString "") (cs.map fun c=>(⟨#[c]⟩:Str))=Str.join (Str.ofString "") (cs.map fun c=>(⟨#[c]⟩:Str)) from glued_eq_join _ _,k]
   have e:lz (Str.ofString "")=[]:=by decide +kernel
   cases cs with
   | nil=>rfl
   | cons c r =>
    rw [map_cons]
    show lz ⟨#[c]⟩++_=_
    rw [e,map_map]
    have:((r.map ((fun x=>[]++lz x) ∘ fun c=>(⟨#[c]⟩:Str))).flatten)=r:=by
     clear k hl e0
     induction r with
     | nil=>rfl
     | cons a r ih =>
      rw [map_cons,flatten_cons,ih]
      rfl
    rw [this]
    rfl
theorem c3u {ns:List Int} {k:Int} (hl:ns.length<=63) (k0:0<=k) (k1:k<=1000) {ds:Ds} (h1:ds[0]? = some (some (.dat (scr ns)))) (h2:ds[1]? = some (some (.dat (.int k)))) (h3:ds[3]? = some (some (.dat (.str abc)))) :
  ∃ cs:List Nat,D9 C1 G4 a3h ds (W4 0 8)=some (cs.map sgn)/\cs.length=8/\cs.all ltr=true:=by
 have dr:∀ i:Nat,∃ r:Int,i5 [scr ns,.int (k + (0 + (i:Int))),.int 26]=some (.dat (.int r))/\(i < 100->0<=r/\r < 26)\/¬ i < 100:=fun i=>by
  by_cases c:i < 100
  . obtain ⟨r,e,r0,r1⟩:=u7 (ns:=ns) (k:=k + (0 + (i:Int))) (m:=26) hl (by omega) (by omega) (by decide)
    exact ⟨r,.inl ⟨e,fun _=>⟨r0,r1⟩⟩⟩
  . exact ⟨0,.inr c⟩
 have dr':∃ f:Nat->Int,∀ i:Nat,i < 8->i5 [scr ns,.int (k + (0 + (i:Int))),.int 26]=some (.dat (.int (f i)))/\0<=f i/\f i < 26:=by
  refine ⟨fun i=>(dr i).choose,fun i hi=>?_⟩
  rcases (dr i).choose_spec with h | h
  . exact ⟨h.1,h.2 (by omega)⟩
  . omega
 obtain ⟨f,hf⟩:=dr'
 have ec:D9 C1 G4 a3h ds (W4 0 8)=some ((List.range 8).map fun i=>sgn (97 + (f i).toNat)):=b5p fun i hi=>by
  obtain ⟨e,r0,r1⟩:=hf i hi
  refine ⟨.dat (sgn (97 + (f i).toNat)),?_,rfl⟩
  unfold a3h
  simp only [fOp,d5,g0,d4,e8,fC,List.getElem?_cons_zero,List.getElem?_cons_succ,h1,h2,h3,Option.bind_some,PV.t9,a1O]
  rw [e]
  simp only [Option.bind_some,PV.t9]
  exact c0R r0 r1
 refine ⟨(List.range 8).map fun i=>97 + (f i).toNat,by rw [ec,map_map];rfl,by simp,?_⟩
 rw [all_eq_true]
 intro c hc
 obtain ⟨i,hi,rfl⟩:=mem_map.mp hc
 obtain ⟨_,r0,r1⟩:=hf i (mem_range.mp hi)
 exact decide_eq_true ⟨by omega,by omega⟩
noncomputable def ofL (cs:List Nat):Str:=⟨cs.toArray⟩
theorem b4R (cs:List Nat):lz (ofL cs)=cs:=rfl
theorem b4W {cs:List Nat} (hl:cs.length<=500):V8 (.str (Str.ofString "")) [.list (cs.map sgn)]=some (.dat (.str (ofL cs))):=by
 obtain ⟨z,e,hz⟩:=c2k hl
 rw [e,show z=ofL cs from D3 (by rw [hz,b4R])]
structure Nms (l:List Str):Prop where
 len:l.length=6
 nm:∀ z ∈ l,Nm z
 nd:l.Nodup
theorem b9Q {cs:List Nat} (h0:cs ≠ []) (h1:cs.length<=8) (h2:cs.all ltr=true):Nm (ofL cs):=⟨h0,h1,h2⟩
theorem b3a {f:Nat->Str} {n:Nat} (h:∀ i j,i < n->j < n->f i=f j->i=j):((List.range n).map f).Nodup:=by
 rw [List.nodup_iff_pairwise_ne,List.pairwise_map]
 refine List.Pairwise.imp_of_mem ?_ (List.nodup_range (n:=n))
 intro a b ha hb hne he
 exact hne (h a b (mem_range.mp ha) (mem_range.mp hb) he)
theorem c4x {cs:List Nat} (h8:cs.length=8) (hc:cs.all ltr=true) {ds:Ds} (h4:ds[4]? = some (some (.dat (.list (cs.map sgn))))) :
  D9 C1 G4 a5L ds (W4 0 6)=some (((List.range 6).map fun j=>ofL (cs.take (1 + j))).map .str)/\Nms ((List.range 6).map fun j=>ofL (cs.take (1 + j))):=by
 refine ⟨?_,by simp,fun z hz=>?_,b3a fun i j hi hj e=>?_⟩
 . rw [map_map]
   refine b5p fun j hj=>⟨.dat (.str (ofL (cs.take (1 + j)))),?_,rfl⟩
   have hs:p7 (.list (cs.map sgn)) none (some (1 + (0 + (j:Int))))=some (.own ((cs.take (1 + j)).map sgn)):=by
    show some (PV.own (cutD (cs.map sgn) none (some (1 + (0 + (j:Int))))))=_
    rw [show (1 + (0 + (j:Int)))=((1 + j:Nat):Int) by omega,a3t,map_take]
   unfold a5L
   simp only [Q9,fC,d4,e8,fSl,D8,A5,fOp,d5,List.getElem?_cons_zero,List.getElem?_cons_succ,h4,Option.bind_some,PV.t9,a1O,a6m,Option.map_some,Option.bind_some]
   rw [hs]
   simp only [Option.bind_some,PV.a3g]
   exact b4W (by rw [length_take];omega)
 . obtain ⟨j,hj,rfl⟩:=mem_map.mp hz
   have:=mem_range.mp hj
   refine b9Q (fun e=>?_) (by rw [length_take];omega) ?_
   . have:=congrArg List.length e
     rw [length_take,length_nil] at this
     omega
   . rw [all_eq_true] at hc ⊢
     exact fun c h=>hc c (mem_of_mem_take h)
 . have:=congrArg (fun z=>(lz z).length) e
   simp only [b4R,length_take] at this
   omega
theorem c4w {cs:List Nat} (h8:cs.length=8) (hc:cs.all ltr=true) {sz at':Nat} (hs0:1<=sz) (hs:sz<=8) (ha:at' < sz) :
  Nms ((List.range 6).map fun j=>ofL (cs.take at'++[97 + (7 * j + 3) % 26]++(cs.take sz).drop (at' + 1))):=by
 rw [all_eq_true] at hc
 refine ⟨by simp,fun z hz=>?_,b3a fun i j hi hj e=>?_⟩
 . obtain ⟨j,hj,rfl⟩:=mem_map.mp hz
   refine b9Q (by simp) (by simp only [length_append,length_take,length_drop,length_singleton];omega) ?_
   rw [all_eq_true]
   intro c h
   rcases mem_append.mp h with h | h
   . rcases mem_append.mp h with h | h
     . exact hc c (mem_of_mem_take h)
     . rw [mem_singleton] at h
       subst h
       exact decide_eq_true ⟨by omega,by omega⟩
   . exact hc c (mem_of_mem_take (mem_of_mem_drop h))
 . have:=congrArg (fun z=>(lz z)[at']?) e
   simp only [b4R] at this
   have g:∀ j:Nat,(cs.take at'++[97 + (7 * j + 3) % 26]++(cs.take sz).drop (at' + 1))[at']? = some (97 + (7 * j + 3) % 26):=fun j=>by
    have l1:(cs.take at').length=at':=by rw [length_take];omega
    rw [append_assoc,List.getElem?_append_right (by omega),l1]
    simp
   rw [g,g] at this
   have:=Option.some.inj this
   have k:∀ a b:Fin 6,97 + (7 * a.val + 3) % 26=97 + (7 * b.val + 3) % 26->a.val=b.val:=by decide
   exact k ⟨i,hi⟩ ⟨j,hj⟩ this
theorem c4y:Nms [(Str.ofString "hour"),(Str.ofString "work"),(Str.ofString "dark"),(Str.ofString "line"),(Str.ofString "store"),(Str.ofString "x")]:=by
 refine ⟨rfl,fun z hz=>?_,?_⟩
 . simp only [mem_cons,not_mem_nil,or_false] at hz
   rcases hz with rfl | rfl | rfl | rfl | rfl | rfl <;> exact ⟨by decide +kernel,by decide +kernel,by decide +kernel⟩
 . simp only [List.nodup_cons,mem_cons,not_mem_nil,or_false,a6c,not_or]
   decide
theorem c4P {α:Type} {l:List α} {a b:Nat} (hab:a<=b) (h:b<=l.length):cutD l (some (a:Int)) (some (b:Int))=(l.drop a).take (b - a):=by
 unfold cutD
 have e:∀ c d:Nat,HT.sIx l.length d (some (c:Int))=min c l.length:=fun c d=>by
  show (if (c:Int) < 0 then ((c:Int) + (l.length:Int)).toNat else min (c:Int).toNat l.length)=_
  rw [if_neg (by omega),Int.toNat_natCast]
 rw [e,e]
 rw [Nat.min_eq_left h,Nat.min_eq_left (show a<=l.length by omega)]
theorem b7Q {cs:List Nat} (h8:cs.length=8) {sz at':Nat} (hs:sz<=8) (ha:at' < sz) (x0 x1 x2:Option PV) :
  ∃ y8 y9,K6 (G3 8) a1v (W4 0 6) [x0,x1,x2,some (.dat (.str abc)),some (.dat (.list (cs.map sgn))),some (.own []),iD (sz:Int),iD (at':Int),none,none]=some (.next [x0,x1,x2,some (.dat (.str abc)),some (.dat (.list (cs.map sgn))),some (.own (((List.range 6).map fun j=>ofL (cs.take at'++[97 + (7 * j + 3) % 26]++(cs.take sz).drop (at' + 1))).map .str)),iD (sz:Int),iD (at':Int),y8,y9]):=by
 obtain ⟨ds',h1,y8,y9,rfl⟩:=b0J (gt:=G3 8) (G:=a1v) (lo:=0) (n:=6) (ds:=[x0,x1,x2,some (.dat (.str abc)),some (.dat (.list (cs.map sgn))),some (.own []),iD (sz:Int),iD (at':Int),none,none])
  (fun j ds=>∃ y8 y9,ds=[x0,x1,x2,some (.dat (.str abc)),some (.dat (.list (cs.map sgn))),some (.own (((List.range j).map fun j=>ofL (cs.take at'++[97 + (7 * j + 3) % 26]++(cs.take sz).drop (at' + 1))).map .str)),iD (sz:Int),iD (at':Int),y8,y9]) ⟨none,none,rfl⟩ (by
   rintro j ds hj ⟨y8,y9,rfl⟩
   refine ⟨_,_,rfl,.inl ?_,iD (j:Int),some (.dat (sgn (97 + (7 * j + 3) % 26))),rfl⟩
   have ix:ixD (.str abc) (.int ((7 * (j:Int) + 3).fmod 26))=some (.dat (sgn (97 + (7 * j + 3) % 26))):=by
    have e:(7 * (j:Int) + 3).fmod 26=(((7 * j + 3) % 26:Nat):Int):=by
     rw [Int.fmod_eq_emod_of_nonneg _ (by decide)]
     omega
    rw [e,c0R (by omega) (by omega),Int.toNat_natCast]
   have s1:p7 (.list (cs.map sgn)) none (some (at':Int))=some (.own ((cs.take at').map sgn)):=by
    show some (PV.own (cutD (cs.map sgn) none (some (at':Int))))=_
    rw [a3t,map_take]
   have s2:p7 (.list (cs.map sgn)) (some ((at':Int) + 1)) (some (sz:Int))=some (.own (((cs.take sz).drop (at' + 1)).map sgn)):=by
    show some (PV.own (cutD (cs.map sgn) (some ((at':Int) + 1)) (some (sz:Int))))=_
    rw [show ((at':Int) + 1)=((at' + 1:Nat):Int) by omega,c4P (by omega) (by rw [length_map];omega),List.drop_take,map_take,map_drop]
   have rs:(List.range (j + 1)).map (fun j=>ofL (cs.take at'++[97 + (7 * j + 3) % 26]++(cs.take sz).drop (at' + 1)))=(List.range j).map (fun j=>ofL (cs.take at'++[97 + (7 * j + 3) % 26]++(cs.take sz).drop (at' + 1)))++[ofL (cs.take at'++[97 + (7 * j + 3) % 26]++(cs.take sz).drop (at' + 1))]:=by
    rw [List.range_succ,map_append];rfl
   have jn:=b4W (cs:=cs.take at'++[97 + (7 * j + 3) % 26]++(cs.take sz).drop (at' + 1)) (by simp only [length_append,length_take,length_drop,length_singleton];omega)
   have ln:(((List.range j).map fun j=>ofL (cs.take at'++[97 + (7 * j + 3) % 26]++(cs.take sz).drop (at' + 1))).map PyData.str).length < 1000000:=by simp;omega
   have l1:((cs.take at').map sgn).length<=8:=by rw [length_map,length_take];omega
   have l2:(((cs.take sz).drop (at' + 1)).map sgn).length<=8:=by rw [length_map,length_drop,length_take];omega
   rw [rs,map_append,Int.zero_add]
   simp only [set_cons_zero,set_cons_succ]
   unfold a1v
   rw [m3 (A8 (pv:=.dat (sgn (97 + (7 * j + 3) % 26))) (by
    simp only [fOp,d5,fC,List.getElem?_cons_zero,List.getElem?_cons_succ,Option.bind_some,PV.t9]
    rw [a0s Bt.lit (Bt.s62 (by omega) (by omega))]
    simp only [Option.bind_some,PV.t9,a1O]
    rw [S6 (by decide)]
    simp only [Option.bind_some,PV.t9]
    exact ix))]
   simp only [set_cons_zero,set_cons_succ,PV.t9]
   rw [a1j]
   have F:(Q9 V8 (fC (.str "")) (d4 (fOp m5 (fOp m5 (fSl p7 (d5 4) D8 (A5 (d5 7))) (B1 (d4 (d5 9) e8))) (fSl p7 (d5 4) (A5 (fOp m5 (d5 7) (fC (.int 1)))) (A5 (d5 6)))) e8)) [x0,x1,x2,some (.dat (.str abc)),some (.dat (.list (cs.map sgn))),some (.own (((List.range j).map fun j=>ofL (cs.take at'++[97 + (7 * j + 3) % 26]++(cs.take sz).drop (at' + 1))).map .str)),iD (sz:Int),iD (at':Int),iD (j:Int),some (.dat (sgn (97 + (7 * j + 3) % 26)))]=some (.dat (.str (ofL (cs.take at'++[97 + (7 * j + 3) % 26]++(cs.take sz).drop (at' + 1))))):=by
    rw [map_append,map_append] at jn
    generalize (cs.take at').map sgn=A at *
    generalize ((cs.take sz).drop (at' + 1)).map sgn=B at *
    walk_at "t"
    rw [s1]
    walk_at "t"
    rw [b2F (by simp;omega)]
    walk_at "t"
    rw [s2]
    walk_at "t"
    rw [b2F (by simp;omega)]
    walk_at "t"
    exact jn
   rw [F]
   exact U5 (i:=5) _ rfl ln)
 exact ⟨y8,y9,h1⟩
theorem c1Z {ns:List Int} {k:Int} (hl:ns.length<=63) (k0:0<=k) (k1:k<=1000):∃ l:List Str,a0l [scr ns,.int k,.int 6]=some (.own (l.map .str))/\Nms l:=by
 obtain ⟨cs,ew,h8,hc⟩:=c3u (ns:=ns) (k:=k) hl k0 k1 (ds:=[some (.dat (scr ns)),some (.dat (.int k)),some (.dat (.int 6)),some (.dat (.str abc)),none,none,none,none,none,none]) rfl rfl rfl
 obtain ⟨a,ea,a0,a1⟩:=u7 (ns:=ns) (k:=k + 8) (m:=3) hl (by omega) (by omega) (by decide)
 obtain ⟨b,eb,b0,b1⟩:=u7 (ns:=ns) (k:=k + 9) (m:=3) hl (by omega) (by omega) (by decide)
 obtain ⟨s,es,s0,s1⟩:=u7 (ns:=ns) (k:=k + 10) (m:=8) hl (by omega) (by omega) (by decide)
 obtain ⟨t,et,t0,t1⟩:=u7 (ns:=ns) (k:=k + 11) (m:=1 + s) hl (by omega) (by omega) (by omega)
 have W:=fun x5:Option PV=>c4x h8 hc (ds:=[some (.dat (scr ns)),some (.dat (.int k)),some (.dat (.int 6)),some (.dat (.str abc)),some (.dat (.list (cs.map sgn))),x5,none,none,none,none]) rfl
 obtain ⟨y8,y9,LP⟩:=b7Q h8 (sz:=(1 + s).toNat) (at':=t.toNat) (by omega) (by omega) (some (.dat (scr ns))) (some (.dat (.int k))) (some (.dat (.int 6)))
 rw [show (((1 + s).toNat:Nat):Int)=1 + s by omega,show ((t.toNat:Nat):Int)=t by omega] at LP
 have NC:=c4w h8 hc (sz:=(1 + s).toNat) (at':=t.toNat) (by omega) (by omega) (by omega)
 have fin:∀ l:List Str,Nms l->∃ l':List Str,((i8 (gIf (m4 (fOp v5 (g0 i5 (d4 (d5 0) (d4 (fOp m5 (d5 1) (fC (.int 9))) (d4 (fC (.int 3)) e8)))) (fC (.int 0)))) (i8 (j6 6 (fOp m5 (fC (.int 1)) (g0 i5 (d4 (d5 0) (d4 (fOp m5 (d5 1) (fC (.int 10))) (d4 (fC (.int 8)) e8)))))) (i8 (j6 7 (g0 i5 (d4 (d5 0) (d4 (fOp m5 (d5 1) (fC (.int 11))) (d4 (d5 6) e8))))) (i8 (a0t 5 (B1 e8)) (a2i (iFn a4p (d4 (d5 2) e8)) (G3 8) a1v)))) o8) (R9 5))
   [some (.dat (scr ns)),some (.dat (.int k)),some (.dat (.int 6)),some (.dat (.str abc)),some (.dat (.list (cs.map sgn))),some (.own (l.map .str)),none,none,none,none]).bind a6G=some (.own (l'.map .str))/\Nms l':=fun l Hl=>by
  by_cases c:b=0
  . refine ⟨_,?_,NC⟩
    generalize cs.map sgn=WD at *
    generalize (((List.range 6).map fun j=>ofL (cs.take t.toNat++[97 + (7 * j + 3) % 26]++(cs.take (1 + s).toNat).drop (t.toNat + 1))).map PyData.str)=R at *
    walk_at "t"
    rw [eb]
    walk_at "t"
    rw [if_pos c]
    try walk_at "t"
    rw [es]
    walk_at "t"
    rw [et]
    walk_at "t"
    rw [a2E (by decide)]
    walk_at "t"
    rw [LP]
    walk_at "t"
  . refine ⟨l,?_,Hl⟩
    walk_at "t"
    rw [eb]
    walk_at "t"
    rw [if_neg c]
    try walk_at "t"
 unfold a0l
 simp only [fnF,length_cons,length_nil,Nat.reduceAdd,reduceIte,a0j,a0Y,Nat.reduceSub,List.replicate,cons_append,nil_append]
 rw [m3 (ds':=[some (.dat (scr ns)),some (.dat (.int k)),some (.dat (.int 6)),some (.dat (.str abc)),none,none,none,none,none,none]) rfl]
 rw [m3 (ds':=[some (.dat (scr ns)),some (.dat (.int k)),some (.dat (.int 6)),some (.dat (.str abc)),some (.dat (.list (cs.map sgn))),none,none,none,none,none]) (by
  simp only [j6,O2,iFn,d4,e8,fC,Option.bind_some,PV.t9]
  rw [a2E (by decide)]
  simp only [Option.bind_some]
  rw [if_pos (by decide),show (8:Int).toNat=8 from rfl,ew]
  rfl)]
 rw [m3 (ds':=[some (.dat (scr ns)),some (.dat (.int k)),some (.dat (.int 6)),some (.dat (.str abc)),some (.dat (.list (cs.map sgn))),some (.own ([(Str.ofString "hour"),(Str.ofString "work"),(Str.ofString "dark"),(Str.ofString "line"),(Str.ofString "store"),(Str.ofString "x")].map .str)),none,none,none,none]) rfl]
 by_cases c:a=0
 . obtain ⟨W1,W2⟩:=W (some (.own ([(Str.ofString "hour"),(Str.ofString "work"),(Str.ofString "dark"),(Str.ofString "line"),(Str.ofString "store"),(Str.ofString "x")].map .str)))
   rw [m3 (ds':=[some (.dat (scr ns)),some (.dat (.int k)),some (.dat (.int 6)),some (.dat (.str abc)),some (.dat (.list (cs.map sgn))),some (.own (((List.range 6).map fun j=>ofL (cs.take (1 + j))).map .str)),none,none,none,none]) (by
    generalize cs.map sgn=WD at *
    generalize (((List.range 6).map fun j=>ofL (cs.take (1 + j))).map PyData.str)=R at *
    generalize ([(Str.ofString "hour"),(Str.ofString "work"),(Str.ofString "dark"),(Str.ofString "line"),(Str.ofString "store"),(Str.ofString "x")].map PyData.str)=N0 at *
    walk_at "t"
    rw [ea]
    walk_at "t"
    rw [if_pos c]
    try walk_at "t"
    rw [a2E (by decide)]
    walk_at "t"
    rw [if_pos (by decide),W1]
    walk_at "t")]
   exact fin _ W2
 . rw [m3 (ds':=[some (.dat (scr ns)),some (.dat (.int k)),some (.dat (.int 6)),some (.dat (.str abc)),some (.dat (.list (cs.map sgn))),some (.own ([(Str.ofString "hour"),(Str.ofString "work"),(Str.ofString "dark"),(Str.ofString "line"),(Str.ofString "store"),(Str.ofString "x")].map .str)),none,none,none,none]) (by
     generalize ([(Str.ofString "hour"),(Str.ofString "work"),(Str.ofString "dark"),(Str.ofString "line"),(Str.ofString "store"),(Str.ofString "x")].map PyData.str)=N0 at *
     walk_at "t"
     rw [ea]
     walk_at "t"
     rw [if_neg c]
     try walk_at "t")]
   exact fin _ c4y
theorem c7t {ns:List Int} {t:Nat} (hl:ns.length<=63) (ht:t < 24) (x1:Option PV) (L:List PyData) (hL:L.length < 1000) (x4 x5:Option PV) (r:Ds) :
  ∃ (x:Hr) (y4 y5:Option PV),Hr5 x/\a3k (some (.dat (scr ns))::x1::some (.own L)::iD (t:Int)::x4::x5::r)=some (.next (some (.dat (scr ns))::x1::some (.own (L++[w9 x]))::iD (t:Int)::y4::y5::r)):=by
 obtain ⟨a,ea,a0,a1⟩:=Z8 (ns:=ns) (k:=100 + 16 * (t:Int)) (most:=1000000) hl (by omega) (by omega) (by decide) (by decide)
 obtain ⟨b,eb,b0,b1⟩:=Z8 (ns:=ns) (k:=100 + 16 * (t:Int) + 2) (most:=1000000) hl (by omega) (by omega) (by decide) (by decide)
 obtain ⟨l,el,hl'⟩:=c4E (ns:=ns) (k:=100 + 16 * (t:Int) + 4) hl (by omega) (by omega)
 refine ⟨⟨a,b,l⟩,iD (100 + 16 * (t:Int)),iD a,⟨⟨a0,a1⟩,⟨b0,b1⟩,hl'⟩,?_⟩
 unfold a3k
 walk_at "r"
 rw [a0s Bt.lit (Bt.s62 (by omega) (by omega))]
 walk_at "r"
 rw [ea]
 walk_at "r"
 rw [eb]
 walk_at "r"
 rw [el]
 walk_at "r"
 rw [U5 (l:=L) _ rfl (by omega)]
 rfl
theorem c6W {ns:List Int} {n:Int} {j:Nat} {nm:List Str} (hl:ns.length<=63) (n0:1<=n) (n1:n<=24) (N:Nms nm) (hj:j < 6) (x2 x3 x4 x5 x6 x7 x8 x12 x13 x14:Option PV) (L:List PyData) (hL:L.length < 1000) :
  ∃ (w:Wk) (y4 y12 y13 y14:Option PV),Wk5 n w/\w.name=nm.getD j ""/\a3j [some (.dat (scr ns)),iD n,x2,x3,x4,x5,x6,x7,x8,some (.own L),some (.dat (.list (nm.map .str))),iD (j:Int),x12,x13,x14]=some (.next [some (.dat (scr ns)),iD n,x2,x3,y4,x5,x6,x7,x8,some (.own (L++[o7 w])),some (.dat (.list (nm.map .str))),iD (j:Int),y12,y13,y14]):=by
 have h6:=N.len
 obtain ⟨a,ea,a0,a1⟩:=u7 (ns:=ns) (k:=40 + 10 * (j:Int)) (m:=n) hl (by omega) (by omega) (by omega)
 obtain ⟨b,eb,b0,b1⟩:=u7 (ns:=ns) (k:=40 + 10 * (j:Int) + 1) (m:=n - a) hl (by omega) (by omega) (by omega)
 obtain ⟨c,ec,c0,c1⟩:=Z8 (ns:=ns) (k:=40 + 10 * (j:Int) + 2) (most:=1000000) hl (by omega) (by omega) (by decide) (by decide)
 obtain ⟨d,ed,d0,d1⟩:=Z8 (ns:=ns) (k:=40 + 10 * (j:Int) + 4) (most:=1000000) hl (by omega) (by omega) (by decide) (by decide)
 have hm:nm.getD j "" ∈ nm:=by
  have hj':j < nm.length:=by omega
  rw [show nm.getD j "" = nm[j] by simp [List.getD,hj']]
  exact List.getElem_mem hj'
 have en:atI (nm.map PyData.str) (j:Int)=some (.str (nm.getD j "")):=by
  have hj':j < nm.length:=by omega
  rw [O7 (n:=j) (by omega) (by rw [length_map];omega),List.getElem?_map,List.getElem?_eq_getElem hj']
  simp [List.getD,hj']
 refine ⟨⟨nm.getD j "",c,a,a + b,d⟩,iD (40 + 10 * (j:Int)),iD a,iD (a + b),iD c,⟨N.nm _ hm,⟨c0,c1⟩,a0,by show a<=a + b;omega,by show a + b < n;omega,⟨d0,d1⟩⟩,rfl,?_⟩
 generalize nm.map PyData.str=NM at *
 unfold a3j
 walk_at "r"
 rw [a0s Bt.lit (Bt.s62 (by omega) (by omega))]
 walk_at "r"
 rw [ea]
 walk_at "r"
 rw [eb]
 walk_at "r"
 rw [ec]
 walk_at "r"
 rw [en]
 walk_at "r"
 rw [ed]
 walk_at "r"
 rw [U5 (l:=L) _ rfl (by omega)]
 rfl
theorem c6z {ns:List Int} (hl:ns.length<=63):∃ h:C3,a0n [scr ns]=some (.dat (a0E h))/\H5 h:=by
 obtain ⟨u,eu,u0,u1⟩:=u7 (ns:=ns) (k:=1) (m:=2) hl (by decide) (by decide) (by decide)
 obtain ⟨m,em,m0,m1⟩:∃ s:Int,atI [PyData.int 4,.int 24] u=some (.int s)/\0 < s/\s<=24:=by
  rcases (by omega:u=0\/u=1) with rfl | rfl
  . exact ⟨4,rfl,by decide,by decide⟩
  . exact ⟨24,rfl,by decide,by decide⟩
 obtain ⟨n',en,n0,n1⟩:=u7 (ns:=ns) (k:=0) (m:=m) hl (by decide) (by decide) m0
 obtain ⟨n,hn⟩:∃ n:Nat,1 + n'=(n:Int):=⟨(1 + n').toNat,by omega⟩
 have nb:1<=n/\n<=24:=by omega
 obtain ⟨sz,esz,sz0,sz1⟩:=Z8 (ns:=ns) (k:=2) (most:=1000000) hl (by decide) (by decide) (by decide) (by decide)
 obtain ⟨st,est,st0,st1⟩:=u7 (ns:=ns) (k:=4) (m:=sz + 1) hl (by decide) (by decide) (by omega)
 obtain ⟨sw,esw,sw0,sw1⟩:=u7 (ns:=ns) (k:=5) (m:=3) hl (by decide) (by decide) (by decide)
 obtain ⟨sv,esv,sv0,sv1⟩:∃ s:Int,atI [PyData.int 0,.int sz,.int st] sw=some (.int s)/\0<=s/\s<=sz:=by
  rcases (by omega:sw=0\/sw=1\/sw=2) with rfl | rfl | rfl
  . exact ⟨0,rfl,by omega,by omega⟩
  . exact ⟨sz,rfl,by omega,by omega⟩
  . exact ⟨st,rfl,by omega,by omega⟩
 obtain ⟨fi,efi,fi0,fi1⟩:=Z8 (ns:=ns) (k:=6) (most:=1000000) hl (by decide) (by decide) (by decide) (by decide)
 obtain ⟨ta,eta,ta0,ta1⟩:=Z8 (ns:=ns) (k:=8) (most:=1000000) hl (by decide) (by decide) (by decide) (by decide)
 obtain ⟨q1,eq1,Q1⟩:=b8W (ns:=ns) (k:=10) hl (by decide) (by decide)
 obtain ⟨q2,eq2,Q2'⟩:=b8W (ns:=ns) (k:=13) hl (by decide) (by decide)
 obtain ⟨re,ere,re0,re1⟩:=Z8 (ns:=ns) (k:=16) (most:=1000000) hl (by decide) (by decide) (by decide) (by decide)
 obtain ⟨nm,enm,N⟩:=c1Z (ns:=ns) (k:=20) hl (by decide) (by decide)
 obtain ⟨w',ew,w0,w1⟩:=u7 (ns:=ns) (k:=18) (m:=7) hl (by decide) (by decide) (by decide)
 obtain ⟨w,hw⟩:∃ w:Nat,w'=(w:Int):=⟨w'.toNat,by omega⟩
 obtain ⟨ds1,h1,hs,y3,y4,y5,rfl,hs1,hs2⟩:=b0J (gt:=G3 3) (G:=a3k) (lo:=0) (n:=n) (ds:=[some (.dat (scr ns)),iD (n:Int),some (.own []),none,none,none,none,none,none,none,none,none,none,none,none])
  (fun t ds=>∃ (hs:List Hr) (y3 y4 y5:Option PV),ds=[some (.dat (scr ns)),iD (n:Int),some (.own (hs.map w9)),y3,y4,y5,none,none,none,none,none,none,none,none,none]/\hs.length=t/\∀ x ∈ hs,Hr5 x) ⟨[],none,none,none,rfl,rfl,fun x hx=>by cases hx⟩ (by
   rintro t ds ht ⟨hs,y3,y4,y5,rfl,hs1,hs2⟩
   obtain ⟨x,z4,z5,X,B⟩:=c7t (t:=t) hl (by omega) (iD (n:Int)) (hs.map w9) (by rw [length_map];omega) y4 y5 [none,none,none,none,none,none,none,none,none]
   refine ⟨_,_,rfl,.inl (by rw [Int.zero_add];exact B),hs++[x],iD (t:Int),z4,z5,by rw [map_append];rfl,by rw [length_append,hs1];rfl,fun y hy=>?_⟩
   rcases mem_append.mp hy with hy | hy
   . exact hs2 y hy
   . rw [mem_singleton] at hy;subst hy;exact X)
 obtain ⟨ds2,h2,ws,z4,z11,z12,z13,z14,rfl,ws1,ws2,ws3⟩:=b0J (gt:=G3 11) (G:=a3j) (lo:=0) (n:=w) (ds:=[some (.dat (scr ns)),iD (n:Int),some (.own (hs.map w9)),y3,y4,y5,iD sz,iD sv,some (.dat (.tuple [.int sz,.int sv,.int fi,.int ta,fr q1,fr q2,.int re])),some (.own []),some (.dat (.list (nm.map .str))),none,none,none,none])
  (fun j ds=>∃ (ws:List Wk) (z4 z11 z12 z13 z14:Option PV),ds=[some (.dat (scr ns)),iD (n:Int),some (.own (hs.map w9)),y3,z4,y5,iD sz,iD sv,some (.dat (.tuple [.int sz,.int sv,.int fi,.int ta,fr q1,fr q2,.int re])),some (.own (ws.map o7)),some (.dat (.list (nm.map .str))),z11,z12,z13,z14]/\ws.length=j/\(∀ x ∈ ws,Wk5 n x)/\ws.map Wk.name=nm.take j) ⟨[],y4,none,none,none,none,rfl,rfl,fun x hx=>(by cases hx),rfl⟩ (by
   rintro j ds hj ⟨ws,z4,z11,z12,z13,z14,rfl,ws1,ws2,ws3⟩
   obtain ⟨x,v4,v12,v13,v14,X,xn,B⟩:=c6W (n:=n) (j:=j) hl (by omega) (by omega) N (by omega) (some (.own (hs.map w9))) y3 z4 y5 (iD sz) (iD sv) (some (.dat (.tuple [.int sz,.int sv,.int fi,.int ta,fr q1,fr q2,.int re]))) z12 z13 z14 (ws.map o7) (by rw [length_map];omega)
   refine ⟨_,_,rfl,.inl (by rw [Int.zero_add];exact B),ws++[x],v4,iD (j:Int),v12,v13,v14,by rw [map_append];rfl,by rw [length_append,ws1];rfl,fun y hy=>?_,?_⟩
   . rcases mem_append.mp hy with hy | hy
     . exact ws2 y hy
     . rw [mem_singleton] at hy;subst hy;exact X
   . have h6:=N.len
     have hj':j < nm.length:=by omega
     rw [map_append,ws3,map_cons,map_nil,xn,List.take_add_one,List.getElem?_eq_getElem hj']
     simp [List.getD,hj'])
 refine ⟨⟨hs,sz,sv,fi,ta,q1,q2,re,ws⟩,?_,⟨hs2,by show 1<=hs.length;omega,by show hs.length<=24;omega,⟨sz0,sz1⟩,⟨sv0,by show sv<=1000000;omega⟩,sv1,⟨fi0,fi1⟩,⟨ta0,ta1⟩,Q1,Q2',⟨re0,re1⟩,by show ∀ x ∈ ws,Wk5 (hs.length:Int) x;rw [hs1];exact ws2,by show ws.length<=6;omega,?_⟩⟩
 . unfold a0n
   simp only [fnF,length_cons,length_nil,Nat.reduceAdd,reduceIte,a0j,a0Y,Nat.reduceSub,List.replicate,cons_append,nil_append]
   rw [m3 (A8 (pv:=.dat (.int (n:Int))) (by
    walk_at "r"
    rw [eu]
    walk_at "r"
    rw [em]
    walk_at "r"
    rw [en]
    walk_at "r"
    rw [hn]))]
   simp only [set_cons_zero,set_cons_succ,PV.t9]
   rw [m3 (ds':=[some (.dat (scr ns)),iD (n:Int),some (.own []),none,none,none,none,none,none,none,none,none,none,none,none]) rfl]
   rw [m3 (by
    walk_at "r"
    rw [a2E (by omega)]
    walk_at "r"
    rw [Int.toNat_natCast]
    exact h1)]
   rw [m3 (A8 (pv:=.dat (.int sz)) (by walk_at "r";exact esz))]
   simp only [set_cons_zero,set_cons_succ,PV.t9]
   rw [m3 (A8 (pv:=.dat (.int sv)) (by
    walk_at "r"
    rw [est]
    walk_at "r"
    rw [esw]
    walk_at "r"
    rw [esv]
    rfl))]
   simp only [set_cons_zero,set_cons_succ,PV.t9]
   rw [m3 (A8 (pv:=.dat (.tuple [.int sz,.int sv,.int fi,.int ta])) (by
    walk_at "r"
    rw [efi]
    walk_at "r"
    rw [eta]
    walk_at "r"))]
   simp only [set_cons_zero,set_cons_succ,PV.t9]
   rw [m3 (A8 (pv:=.dat (.tuple [.int sz,.int sv,.int fi,.int ta,fr q1,fr q2,.int re])) (by
    walk_at "r"
    rw [eq1]
    walk_at "r"
    rw [eq2]
    walk_at "r"
    rw [ere]
    walk_at "r"
    rfl))]
   simp only [set_cons_zero,set_cons_succ,PV.t9]
   rw [m3 (ds':=[some (.dat (scr ns)),iD (n:Int),some (.own (hs.map w9)),y3,y4,y5,iD sz,iD sv,some (.dat (.tuple [.int sz,.int sv,.int fi,.int ta,fr q1,fr q2,.int re])),some (.own []),none,none,none,none,none]) rfl]
   rw [m3 (A8 (pv:=.own (nm.map .str)) (by walk_at "r";exact enm))]
   simp only [set_cons_zero,set_cons_succ,PV.a3g]
   rw [m3 (by
    walk_at "r"
    rw [ew]
    walk_at "r"
    rw [hw,a2E (by omega)]
    walk_at "r"
    rw [Int.toNat_natCast]
    exact h2)]
   walk_at "r"
   rfl
 . show (ws.map Wk.name).Nodup
   rw [ws3]
   exact N.nd.sublist (List.take_sublist _ _)
theorem b0e:∀ l:List Bool,boolsOf (l.map .bool)=some l
 | []=>rfl
 | b::l=>by
  rw [map_cons]
  unfold boolsOf
  rw [b0e l]
  rfl
noncomputable def okA:Nat->PyData->Bool
 | _,.none=>true
 | _,.int _=>true
 | _,.str _=>true
 | n + 1,.tuple ds=>decide (ds.length<=1000)&&ds.all (okA n)
 | n + 1,.list ds=>decide (ds.length<=1000)&&ds.all (okA n)
 | _,_=>false
theorem a8v {R:List PyData->Option PV} {ds:Ds}:∀ l:List PyData,(∀ d ∈ l,R [d,d]=some (.dat (.bool true)))->D9 (a1C 2) G4 (a7x R) ds (List.zipWith (fun x y=>.tuple [x,y]) l l)=some (l.map fun _=>.bool true)
 | [],_=>rfl
 | x::l,h=>by
  have ih:=a8v (R:=R) (ds:=ds) l fun y hy=>h y (mem_cons_of_mem _ hy)
  show (R [x,x]).bind (fun y=>(D9 (a1C 2) G4 (a7x R) ds (List.zipWith (fun x y=>.tuple [x,y]) l l)).bind fun l=>some (y.d::l))=_
  rw [h x mem_cons_self,ih]
  rfl
theorem b3q (l:List PyData):b5C [.list (l.map fun _=>.bool true)]=some (.dat (.bool true)):=by
 have e:(l.map fun _=>PyData.bool true)=(l.map fun _=>true).map .bool:=by rw [map_map];rfl
 rw [e]
 show ((boolsOf ((l.map fun _=>true).map .bool)).bind fun bs=>some (PV.dat (PyData.bool (bs.all id))))=_
 rw [b0e]
 simp
theorem c3d:W6 (.bool true) (.bool true)=some (.dat (.bool false)):=rfl
theorem c3e:W6 (.bool false) (.bool false)=some (.dat (.bool false)):=rfl
theorem a8u:∀ (n:Nat) (d:PyData),okA n d=true->J2 (n + 1) [d,d]=some (.dat (.bool true)):=by
 intro n
 induction n with
 | zero =>
  intro d h
  cases d with
  | none=>unfold J2 V4;walk_at "t"
  | int i=>unfold J2 V4;walk_at "t"
  | str i=>unfold J2 V4;walk_at "t"
  | _=>cases h
 | succ n ih =>
  intro d h
  cases d with
  | none=>unfold J2 V4;walk_at "t"
  | int i=>unfold J2 V4;walk_at "t"
  | str i=>unfold J2 V4;walk_at "t"
  | tuple l =>
   have h':(decide (l.length<=1000)&&l.all (okA n))=true:=h
   rw [Bool.and_eq_true,decide_eq_true_eq] at h'
   have cs:=fun ds=>a8v (R:=J2 (n + 1)) (ds:=ds) l fun d hd=>ih d (all_eq_true.mp h'.2 d hd)
   have al:=b3q l
   have hz:a6p [.tuple l,.tuple l]=some (List.zipWith (fun x y=>.tuple [x,y]) l l):=rfl
   have ln:(List.zipWith (fun x y=>PyData.tuple [x,y]) l l).length<=1000000:=by rw [length_zipWith];omega
   show V4 (J2 (n + 1)) [.tuple l,.tuple l]=_
   generalize J2 (n + 1)=R at *
   unfold V4
   walk_at "t"
   rw [c3d,c3e]
   walk_at "t"
   rw [hz]
   walk_at "t"
   rw [if_pos ln,cs]
   walk_at "t"
   rw [al]
   walk_at "t"
  | list l =>
   have h':(decide (l.length<=1000)&&l.all (okA n))=true:=h
   rw [Bool.and_eq_true,decide_eq_true_eq] at h'
   have cs:=fun ds=>a8v (R:=J2 (n + 1)) (ds:=ds) l fun d hd=>ih d (all_eq_true.mp h'.2 d hd)
   have al:=b3q l
   have hz:a6p [.list l,.list l]=some (List.zipWith (fun x y=>.tuple [x,y]) l l):=rfl
   have ln:(List.zipWith (fun x y=>PyData.tuple [x,y]) l l).length<=1000000:=by rw [length_zipWith];omega
   show V4 (J2 (n + 1)) [.list l,.list l]=_
   generalize J2 (n + 1)=R at *
   unfold V4
   walk_at "t"
   rw [c3d,c3e]
   walk_at "t"
   rw [hz]
   walk_at "t"
   rw [if_pos ln,cs]
   walk_at "t"
   rw [al]
   walk_at "t"
  | _=>cases h
theorem c1T (x:Hr):okA 2 (w9 x)=true:=by
 obtain ⟨s,n,l⟩:=x
 cases l with
 | none=>rfl
 | some l=>obtain ⟨a,b,c,d⟩:=l;rfl
theorem b9E (h:C3) (H:H5 h):okA 4 (a0E h)=true:=by
 have hl:=H.hl;have wl:=H.wl
 have e1:okA 3 (.tuple (h.hs.map w9))=true:=by
  show (decide ((h.hs.map w9).length<=1000)&&(h.hs.map w9).all (okA 2))=true
  rw [Bool.and_eq_true,decide_eq_true_eq,length_map]
  refine ⟨by omega,?_⟩
  rw [all_eq_true]
  intro d hd
  obtain ⟨x,_,rfl⟩:=mem_map.mp hd
  exact c1T x
 have e2:okA 3 (.tuple (h.ws.map o7))=true:=by
  show (decide ((h.ws.map o7).length<=1000)&&(h.ws.map o7).all (okA 2))=true
  rw [Bool.and_eq_true,decide_eq_true_eq,length_map]
  refine ⟨by omega,?_⟩
  rw [all_eq_true]
  intro d hd
  obtain ⟨x,_,rfl⟩:=mem_map.mp hd
  rfl
 have e3:okA 3 (K3 h)=true:=rfl
 show (decide (3<=1000)&&(okA 3 (.tuple (h.hs.map w9))&&(okA 3 (K3 h)&&(okA 3 (.tuple (h.ws.map o7))&&true))))=true
 rw [e1,e2,e3]
 rfl
noncomputable def a0Q (least:Int):Option (Int × Int)->PyData
 | none=>.none
 | some q=>if q.2=1/\least<=q.1/\q.1<=1000000 then .int q.1 else .none
theorem b1p {z:Str} {least:Int} (hz:z.length<=1000):C8 [.str z,.int least]=some (.dat (a0Q least (C6 (lz z)))):=by
 have rf:=a1o (z:=z) hz
 unfold C8
 walk_at "t"
 rw [rf]
 walk_at "t"
 cases e:C6 (lz z) with
 | none =>
  show _=_
  unfold frO a0Q
  walk_at "t"
 | some q =>
  obtain ⟨a,b⟩:=q
  show _=_
  unfold frO a0Q
  walk_at "t"
  by_cases c1:b=1
  . subst c1
    by_cases c2:a < least
    . have c2':¬ least<=a:=by omega
      simp [c2,c2']
      rfl
    . have c2':least<=a:=by omega
      by_cases c3:1000000 < a
      . have c3':¬ a<=1000000:=by omega
        simp [c2,c2',c3,c3']
        rfl
      . have c3':a<=1000000:=by omega
        simp [c2,c2',c3,c3']
        rfl
  . simp [c1]
    rfl
noncomputable def a4m:Option (Int × Int)->PyData
 | none=>.none
 | some q=>if 0 < q.1/\q.1<=q.2/\q.2<=1000 then fr q else .none
theorem b7q {z:Str} (hz:z.length<=1000):L7 [.str z]=some (.dat (a4m (C6 (lz z)))):=by
 have rf:=a1o (z:=z) hz
 unfold L7
 walk_at "t"
 rw [rf]
 walk_at "t"
 cases e:C6 (lz z) with
 | none =>
  show _=_
  unfold frO a4m
  walk_at "t"
 | some q =>
  obtain ⟨a,b⟩:=q
  show _=_
  unfold frO a4m
  walk_at "t"
  by_cases c1:a<=0
  . have c1':¬ 0 < a:=by omega
    simp [c1,c1']
    rfl
  . have c1':0 < a:=by omega
    by_cases c2:b < a
    . have c2':¬ a<=b:=by omega
      simp [c1,c1',c2,c2']
      rfl
    . have c2':a<=b:=by omega
      by_cases c3:1000 < b
      . have c3':¬ b<=1000:=by omega
        simp [c1,c1',c2,c2',c3,c3']
        rfl
      . have c3':b<=1000:=by omega
        simp [c1,c1',c2,c2',c3,c3']
        rfl
noncomputable def a6N (z:Str):PyData:=if lz z ≠ []/\(lz z).length<=8/\(lz z).all ltr=true then .str z else .none
theorem c4r {c:Nat} (h:ltr c=false):c ∉ lz (Str.ofString "abcdefghijklmnopqrstuvwxyz"):=by
 rw [b2o]
 have:=of_decide_eq_false h
 simp only [mem_cons,not_mem_nil,or_false]
 omega
theorem b0c (z:Str):∀ (l:List Nat) (y:Option PV),l.all ltr=false->K6 (G3 1) J8 (l.map fun c=>.str ⟨#[c]⟩) [some (.dat (.str z)),y]=some (.ret (.dat .none))
 | [],y,h=>by cases h
 | c::r,y,h=>by
  by_cases hc:ltr c=true
  . rw [all_cons,hc,Bool.true_and] at h
    rw [map_cons,a0X rfl (b6T z hc)]
    exact b0c z r _ h
  . have hc':ltr c=false:=by simpa using hc
    have e:(or2 a3p a1h) (.str ⟨#[c]⟩) (.str (Str.ofString "abcdefghijklmnopqrstuvwxyz"))=some (.dat (.bool true)):=by
     show some (PV.dat (.bool (!Txt.contains (Str.ofString "abcdefghijklmnopqrstuvwxyz") ⟨#[c]⟩)))=_
     rw [a2u,decide_eq_false (c4r hc')]
     rfl
    have B:J8 [some (.dat (.str z)),some (.dat (.str ⟨#[c]⟩))]=some (.ret (.dat .none)):=by
     unfold J8
     walk_at "t"
     rw [show (a5n:PyData)=.str (Str.ofString "abcdefghijklmnopqrstuvwxyz") from rfl,e]
     walk_at "t"
    unfold K6
    show ((J8 [some (.dat (.str z)),some (.dat (.str ⟨#[c]⟩))]).bind _)=_
    rw [B]
    rfl
theorem b9f {z:Str} (hz:z.length<=1000):J6 [.str z]=some (.dat (a6N z)):=by
 have hl:=u4 z
 unfold a6N
 by_cases h0:lz z=[]
 . rw [if_neg (fun h=>h.1 h0)]
   unfold J6
   walk_at "t"
   rw [if_pos ((eq_empty z).mpr h0)]
   try walk_at "t"
 . by_cases h8:(lz z).length<=8
   . by_cases ha:(lz z).all ltr=true
     . rw [if_pos ⟨h0,h8,ha⟩]
       exact b4u ⟨h0,h8,ha⟩
     . rw [if_neg (fun h=>ha h.2.2)]
       unfold J6
       walk_at "t"
       rw [a4v (by omega),show (a0f:PyData)=.int 8 from rfl]
       walk_at "t"
       rw [if_neg (fun e=>h0 ((eq_empty z).mp e)),decide_eq_false (show ¬ ((8:Int) < (z.length:Nat)) by omega)]
       walk_at "t"
       have f1:=b0c z (lz z) none (by simpa using ha)
       show (R4 (K6 (G3 1) J8 ((lz z).map fun c=>.str ⟨#[c]⟩) [some (.dat (.str z)),none]) _).bind _=_
       rw [f1]
       walk_at "t"
   . rw [if_neg (fun h=>h8 h.2.1)]
     unfold J6
     walk_at "t"
     rw [a4v (by omega),show (a0f:PyData)=.int 8 from rfl]
     walk_at "t"
     rw [if_neg (fun e=>h0 ((eq_empty z).mp e)),decide_eq_true (show ((8:Int) < (z.length:Nat)) by omega)]
     walk_at "t"
inductive Rd | am | pr | sh | nm
noncomputable def Rd.d:Rd->PyData
 | .am=>fnD "read_amount"
 | .pr=>fnD "read_price"
 | .sh=>fnD "read_share"
 | .nm=>fnD "read_name"
noncomputable def Rd.o:Rd->Str->PyData
 | .am,z=>a0Q 0 (C6 (lz z))
 | .pr,z=>a0Q (-1000000) (C6 (lz z))
 | .sh,z=>a4m (C6 (lz z))
 | .nm,z=>a6N z
theorem c1B (x:Rd) (z:Str):a0A (x.o z)=true:=by
 have h1:∀ (l:Int) (o:Option (Int × Int)),a0A (a0Q l o)=true:=fun l o=>by
  cases o with
  | none=>rfl
  | some q=>unfold a0Q;simp only;split <;> rfl
 cases x with
 | am=>exact h1 _ _
 | pr=>exact h1 _ _
 | sh =>
  show a0A (a4m _)=true
  cases C6 (lz z) with
  | none=>rfl
  | some q=>unfold a4m;simp only;split <;> rfl
 | nm=>show a0A (a6N z)=true;unfold a6N;split <;> rfl
theorem c7z (x:Rd) {z:Str} (hz:z.length<=1000) (r:Ds):A6 (some (.dat x.d)::some (.dat (.str z))::r)=some (.dat (x.o z)):=by
 unfold A6
 have am:D4 [.str z]=some (.dat (a0Q 0 (C6 (lz z)))):=by
  unfold D4
  walk_at "t"
  rw [b1p hz]
  walk_at "t"
 have pr:L8 [.str z]=some (.dat (a0Q (-1000000) (C6 (lz z)))):=by
  unfold L8
  walk_at "t"
  rw [b1p hz]
  walk_at "t"
 cases x with
 | am=>exact a1N (a3Y.trans am)
 | nm=>exact (S8 (a1D (by decide))).trans (a1N (a3Y.trans (b9f hz)))
 | pr=>exact (S8 (a1D (by decide))).trans ((S8 (a1D (by decide))).trans (a1N (a3Y.trans pr)))
 | sh=>exact (S8 (a1D (by decide))).trans ((S8 (a1D (by decide))).trans ((S8 (a1D (by decide))).trans (a3Y.trans (b7q hz))))
noncomputable def Z7 (rs:List Rd) (ws:List Str):List PyData:=List.zipWith (fun x z=>Rd.o x z) rs ws
theorem a6a {ds:Ds}:∀ (rs:List Rd) (ws:List Str),(∀ w ∈ ws,w.length<=1000)->D9 (a1C 2) G4 A6 ds (List.zipWith (fun x y=>.tuple [x,y]) (rs.map Rd.d) (ws.map .str))=some (Z7 rs ws)
 | [],_,_=>rfl
 | x::rs,[],_=>rfl
 | x::rs,z::ws,h=>by
  have ih:=a6a (ds:=ds) rs ws fun y hy=>h y (mem_cons_of_mem _ hy)
  show (A6 (some (.dat x.d)::some (.dat (.str z))::ds)).bind (fun y=>(D9 (a1C 2) G4 A6 ds (List.zipWith (fun x y=>.tuple [x,y]) (rs.map Rd.d) (ws.map .str))).bind fun l=>some (y.d::l))=_
  rw [c7z x (h z mem_cons_self),ih]
  rfl
noncomputable def A4 (rs:List Rd) (ws:List Str):PyData:=if ws.length=rs.length/\(Z7 rs ws).any q9=false then .tuple (Z7 rs ws) else .none
theorem b9u {rs:List Rd} {ws:List Str} (hw:∀ w ∈ ws,w.length<=1000) (hl:ws.length<=100) (hr:rs.length<=100):o5 [.list (ws.map .str),.tuple (rs.map Rd.d)]=some (.dat (A4 rs ws)):=by
 unfold A4
 by_cases c:ws.length=rs.length
 . have e1:a6d .none (.list (Z7 rs ws))=some (.dat (.bool ((Z7 rs ws).any q9))):=by
     show (if (Z7 rs ws).all a0A=true then some (PV.dat (.bool ((Z7 rs ws).any q9))) else none)=_
     rw [if_pos]
     rw [all_eq_true]
     intro d hd
     unfold Z7 at hd
     rw [List.mem_iff_getElem?] at hd
     obtain ⟨i,hi⟩:=hd
     rw [List.getElem?_zipWith] at hi
     split at hi
     . cases hi;exact c1B _ _
     . cases hi
   have hz:(Z7 rs ws).length<=100:=by unfold Z7;rw [length_zipWith];omega
   unfold o5
   walk_at "t"
   rw [length_map,length_map,c]
   walk_at "t"
   rw [show a6p [.tuple (rs.map Rd.d),.list (ws.map .str)]=some (List.zipWith (fun x y=>.tuple [x,y]) (rs.map Rd.d) (ws.map .str)) from rfl]
   walk_at "t"
   rw [if_pos (by rw [length_zipWith,length_map,length_map];omega),a6a rs ws hw]
   walk_at "t"
   rw [e1]
   walk_at "t"
   cases (Z7 rs ws).any q9
   . walk_at "t"
     try rw [if_pos (by omega)]
     try walk_at "t"
   . walk_at "t"
     simp
 . rw [if_neg (fun h=>c h.1)]
   unfold o5
   walk_at "t"
   rw [length_map,length_map]
   have:¬ ((ws.length:Int)=(rs.length:Int)):=by omega
   simp [this]
   rfl
theorem c6F {α:Type} (l:List α) (a b:Nat) (h:a<=b):cutD l (some (a:Int)) (some (b:Int))=(l.drop a).take (b - a):=by
 unfold cutD
 rw [HT.b6v,HT.b6v]
 by_cases c:a<=l.length
 . rw [Nat.min_eq_left c]
   by_cases c2:b<=l.length
   . rw [Nat.min_eq_left c2]
   . rw [Nat.min_eq_right (by omega),take_of_length_le (by rw [length_drop];omega),take_of_length_le (by rw [length_drop];omega)]
 . rw [Nat.min_eq_right (show l.length<=a by omega),drop_length,List.drop_eq_nil_of_le (by omega)]
   simp
theorem c2R {l:List Str} (a b:Nat) (h:a<=b):p7 (.list (l.map .str)) (some (a:Int)) (some (b:Int))=some (.own (((l.drop a).take (b - a)).map .str)):=by
 show some (PV.own (cutD (l.map PyData.str) (some (a:Int)) (some (b:Int))))=_
 rw [c6F _ _ _ h,map_take,map_drop]
theorem b7o {l:List Str} (a:Nat):p7 (.list (l.map .str)) (some (a:Int)) none=some (.own ((l.drop a).map .str)):=by
 show some (PV.own (cutD (l.map PyData.str) (some (a:Int)) none))=_
 rw [a1M,map_drop]
theorem a9Y (rs:List Rd) (ws:List Str):A4 rs ws=.none\/∃ l,A4 rs ws=.tuple l:=by
 unfold A4
 split
 . exact .inr ⟨_,rfl⟩
 . exact .inl rfl
noncomputable abbrev b1T:List Rd:=[.am,.am,.am,.am,.sh,.sh,.am]
noncomputable abbrev a4O:List Rd:=[.am,.am]
noncomputable abbrev a9r:List Rd:=[.pr,.am,.pr,.am]
noncomputable abbrev b5D:List Rd:=[.nm,.am,.am,.am,.am]
structure Ws (r:List Str):Prop where
 w:∀ w ∈ r,W5 w
 len:r.length<=100
theorem Ws.l {r:List Str} (h:Ws r):∀ w ∈ r,w.length<=1000:=fun w hw=>Nat.le_trans (h.w w hw).len (by decide)
theorem Ws.drop {r:List Str} (h:Ws r) (n:Nat):Ws (r.drop n):=⟨fun w hw=>h.w w (mem_of_mem_drop hw),by rw [length_drop];have:=h.len;omega⟩
theorem Ws.take {r:List Str} (h:Ws r) (n:Nat):Ws (r.take n):=⟨fun w hw=>h.w w (mem_of_mem_take hw),by rw [length_take];have:=h.len;omega⟩
theorem Ws.parts {r:List Str} (h:Ws r) {rs:List Rd} (hr:rs.length<=100):o5 [.list (r.map .str),.tuple (rs.map Rd.d)]=some (.dat (A4 rs r)):=b9u h.l h.len hr
theorem a4X {w0:Str} {r:List Str} (W:Ws r) (h:w0 ≠ (Str.ofString "store")\/A4 b1T r=.none):z9 [.list ((w0::r).map .str)]=some (.dat .none):=by
 have s1:p7 (.list ((w0::r).map .str)) (some 1) none=some (.own (r.map .str)):=b7o 1
 have p:o5 [.list (r.map .str),a0F]=some (.dat (A4 b1T r)):=W.parts (rs:=b1T) (by decide)
 have i0:ixD (.list ((w0::r).map .str)) (.int 0)=some (.dat (.str w0)):=by walk_at "t"
 generalize A4 b1T r=D at *
 generalize (w0::r).map PyData.str=L at *
 unfold z9
 walk_at "t"
 rw [s1]
 walk_at "t"
 rw [p]
 walk_at "t"
 rw [show atI L 0=some (.str w0) from by
  have:=i0
  rw [K5] at this
  cases e:atI L 0 with
  | none=>rw [e] at this;cases this
  | some d=>rw [e] at this;cases this;rfl]
 walk_at "t"
 by_cases c:w0=(Str.ofString "store")
 . rcases h with h | h
   . exact absurd c h
   . subst h
     simp [c]
     rfl
 . simp [c]
   rfl
theorem a6r {w0:Str} {r:List Str} {n:Int} (W:Ws r) (h:w0 ≠ (Str.ofString "work")\/A4 b5D r=.none):E3 [.list ((w0::r).map .str),.int n]=some (.dat .none):=by
 have s1:p7 (.list ((w0::r).map .str)) (some 1) none=some (.own (r.map .str)):=b7o 1
 have p:o5 [.list (r.map .str),a0Z]=some (.dat (A4 b5D r)):=W.parts (rs:=b5D) (by decide)
 have i0:ixD (.list ((w0::r).map .str)) (.int 0)=some (.dat (.str w0)):=by walk_at "t"
 generalize A4 b5D r=D at *
 generalize (w0::r).map PyData.str=L at *
 unfold E3
 walk_at "t"
 rw [s1]
 walk_at "t"
 rw [p]
 walk_at "t"
 rw [show atI L 0=some (.str w0) from by
  have:=i0
  rw [K5] at this
  cases e:atI L 0 with
  | none=>rw [e] at this;cases this
  | some d=>rw [e] at this;cases this;rfl]
 walk_at "t"
 by_cases c:w0=(Str.ofString "work")
 . rcases h with h | h
   . exact absurd c h
   . subst h
     simp [c]
     rfl
 . simp [c]
   rfl
theorem a2U {w0:Str} {r:List Str} (W:Ws r) (h:w0 ≠ (Str.ofString "hour")\/A4 a4O (r.take 2)=.none\/(r.drop 2 ≠ [(Str.ofString "dark")]/\((r.drop 2).take 1 ≠ [(Str.ofString "line")]\/A4 a9r (r.drop 3)=.none))):A7 [.list ((w0::r).map .str)]=some (.dat .none):=by
 have s13:p7 (.list ((w0::r).map .str)) (some 1) (some 3)=some (.own ((r.take 2).map .str)):=c2R 1 3 (by decide)
 have s3:p7 (.list ((w0::r).map .str)) (some 3) none=some (.own ((r.drop 2).map .str)):=b7o 3
 have s4:p7 (.list ((w0::r).map .str)) (some 4) none=some (.own ((r.drop 3).map .str)):=b7o 4
 have s34:p7 (.list ((w0::r).map .str)) (some 3) (some 4)=some (.own (((r.drop 2).take 1).map .str)):=c2R 3 4 (by decide)
 have p:o5 [.list ((r.take 2).map .str),R7]=some (.dat (A4 a4O (r.take 2))):=(W.take 2).parts (rs:=a4O) (by decide)
 have q:o5 [.list ((r.drop 3).map .str),a2v]=some (.dat (A4 a9r (r.drop 3))):=(W.drop 3).parts (rs:=a9r) (by decide)
 have i0:ixD (.list ((w0::r).map .str)) (.int 0)=some (.dat (.str w0)):=by walk_at "t"
 have hd:SOk (Str.ofString "dark"):=a9y (by decide +kernel)
 have hli:SOk (Str.ofString "line"):=a9y (by decide +kernel)
 have e3:v5 (.list ((r.drop 2).map .str)) (.list [.str (Str.ofString "dark")])=some (.dat (.bool (decide (r.drop 2=[(Str.ofString "dark")])))):=b0S (m:=[(Str.ofString "dark")]) (fun w hw=>((W.drop 2).w w hw).ok) (by simpa using hd)
 have e34:W6 (.list (((r.drop 2).take 1).map .str)) (.list [.str (Str.ofString "line")])=some (.dat (.bool (!decide ((r.drop 2).take 1=[(Str.ofString "line")])))):=b4O (m:=[(Str.ofString "line")]) (fun w hw=>(((W.drop 2).take 1).w w hw).ok) (by simpa using hli)
 have hp:=a9Y a4O (r.take 2)
 have hq:=a9Y a9r (r.drop 3)
 have go:w0=(Str.ofString "hour")->A4 a4O (r.take 2) ≠ .none->r.drop 2 ≠ [(Str.ofString "dark")]/\((r.drop 2).take 1 ≠ [(Str.ofString "line")]\/A4 a9r (r.drop 3)=.none):=fun h1 h2=>by
  rcases h with h | h | h
  . exact absurd h1 h
  . exact absurd h h2
  . exact h
 clear h
 generalize A4 a4O (r.take 2)=D at *
 generalize A4 a9r (r.drop 3)=E at *
 generalize (w0::r).map PyData.str=L at *
 generalize (r.take 2).map PyData.str=R1 at *
 generalize (r.drop 3).map PyData.str=R3 at *
 unfold A7
 walk_at "t"
 rw [s13]
 walk_at "t"
 rw [p]
 walk_at "t"
 rw [show atI L 0=some (.str w0) from by
  have:=i0
  rw [K5] at this
  cases e:atI L 0 with
  | none=>rw [e] at this;cases this
  | some d=>rw [e] at this;cases this;rfl]
 walk_at "t"
 by_cases c:w0=(Str.ofString "hour")
 . rcases hp with hp | ⟨l,hp⟩
   . subst hp
     simp only [c,decide_true,Bool.not_true]
     walk_at "t"
   . subst hp
     obtain ⟨g1,g2⟩:=go c (by simp)
     simp only [c,decide_true,Bool.not_true]
     walk_at "t"
     rw [s3]
     walk_at "t"
     rw [e3,decide_eq_false g1]
     walk_at "t"
     rw [s4]
     walk_at "t"
     rw [q]
     walk_at "t"
     rw [s34]
     walk_at "t"
     rw [e34]
     walk_at "t"
     rcases g2 with g2 | g2
     . simp [g2]
       rfl
     . subst g2
       by_cases c4:(r.drop 2).take 1=[(Str.ofString "line")]
       . simp [c4]
         rfl
       . simp [c4]
         rfl
 . simp only [c,decide_false,Bool.not_false]
   walk_at "t"
noncomputable def b8B (rest:List PyData):Prop:=rest=[]\/∃ d r,rest=d::r/\A7 [d]=some (.dat .none)
theorem a8S {hs:List Hr} {rest:List PyData} (h:∀ x ∈ hs,Hr5 x) (hl:hs.length<=24) (hr:hs.length=24\/b8B rest):B9 [.list (hs.map W3++rest)]=some (.own (hs.map w9)):=by
 have ht:(hs.map W3++rest).take 24=hs.map W3++rest.take (24 - hs.length):=by
  rw [take_append,length_map,take_of_length_le (by rw [length_map];omega)]
 have hs':b8B (rest.take (24 - hs.length)):=by
  rcases hr with hr | hr | ⟨d,r,rfl,hd⟩
  . left;rw [hr];rfl
  . left;rw [hr];exact List.take_nil
  . by_cases c:24 - hs.length=0
    . left;rw [c];rfl
    . right
      obtain ⟨k,hk⟩:∃ k,24 - hs.length=k + 1:=⟨24 - hs.length - 1,by omega⟩
      exact ⟨d,r.take k,by rw [hk];rfl,hd⟩
 generalize eL:hs.map W3++rest=L at *
 have hc:p7 (.list L) none (some 24)=some (.own (hs.map W3++rest.take (24 - hs.length))):=by
  rw [<-ht,<-a3t];rfl
 generalize rest.take (24 - hs.length)=R at *
 obtain ⟨z2,z3,e⟩:=a8R (r:=some (.dat (.list L))) (rest:=R) hs [] none none h (by simp;omega)
 rw [nil_append] at e
 unfold B9
 walk_at "t"
 rw [hc]
 walk_at "t"
 rw [e]
 rcases hs' with rfl | ⟨d,r,rfl,hd⟩
 . rw [a6Y]
   walk_at "t"
 . have B:D7 [some (.dat (.list L)),some (.own (hs.map w9)),some (.dat d),z3]=some (.ret (.own (hs.map w9))):=by
     unfold D7
     walk_at "t"
     rw [hd]
     walk_at "t"
   unfold K6
   show (R4 ((D7 [some (.dat (.list L)),some (.own (hs.map w9)),some (.dat d),z3]).bind _) _).bind _=_
   rw [B]
   walk_at "t"
theorem b1h {n:Int} {r:Option PV} (hn:n<=24) {rest:List PyData}:∀ (ws done:List Wk) (y4 y5:Option PV),(∀ w ∈ ws,Wk5 n w)->((done++ws).map Wk.name).Nodup->done.length + ws.length<=1000 ->
  ∃ z4 z5,K6 (G3 4) C4 (ws.map B0++rest) [r,iD n,some (.own (done.map o7)),some (.own ((done.map Wk.name).map .str)),y4,y5]=K6 (G3 4) C4 rest [r,iD n,some (.own ((done++ws).map o7)),some (.own (((done++ws).map Wk.name).map .str)),z4,z5]
 | [],done,y4,y5,_,_,_=>⟨y4,y5,by rw [append_nil];rfl⟩
 | w::ws,done,y4,y5,h,nd,hl=>by
  rw [length_cons] at hl
  have nd':(((done++[w])++ws).map Wk.name).Nodup:=by rw [append_assoc];exact nd
  obtain ⟨z4,z5,e⟩:=b1h (r:=r) hn (rest:=rest) ws (done++[w]) (some (.dat (B0 w))) (some (.dat (o7 w))) (fun y hy=>h y (mem_cons_of_mem _ hy)) nd' (by rw [length_append,length_singleton];omega)
  refine ⟨z4,z5,?_⟩
  have hni:w.name ∉ done.map Wk.name:=by
   rw [map_append,map_cons] at nd
   have:=(List.nodup_append.mp nd).2.2
   intro hm
   exact this _ hm _ mem_cons_self rfl
  have B:C4 [r,iD n,some (.own (done.map o7)),some (.own ((done.map Wk.name).map .str)),some (.dat (B0 w)),y5]=some (.next [r,iD n,some (.own ((done++[w]).map o7)),some (.own (((done++[w]).map Wk.name).map .str)),some (.dat (B0 w)),some (.dat (o7 w))]):=by
   have rw1:=b0s (h w mem_cons_self) hn
   have nn:q9 (o7 w)=false:=rfl
   have i0:ixD (o7 w) (.int 0)=some (.dat (.str w.name)):=rfl
   have ni:=b4Z hni
   rw [map_append,map_append,map_append]
   simp only [map_cons,map_nil]
   have ln1:(done.map o7).length < 1000000:=by rw [length_map];omega
   have ln2:((done.map Wk.name).map PyData.str).length < 1000000:=by rw [length_map,length_map];omega
   generalize done.map o7=D1 at *
   generalize (done.map Wk.name).map PyData.str=D2 at *
   unfold C4
   rw [m3 (A8 (pv:=.dat (o7 w)) (by walk_at "t";exact rw1))]
   simp only [set_cons_zero,set_cons_succ,PV.t9]
   rw [m3 (ds':=[r,iD n,some (.own D1),some (.own D2),some (.dat (B0 w)),some (.dat (o7 w))]) (by
    simp only [gIf,bOr,m4,fOp,d5,fC,U1,frz,map_cons,map_nil,List.getElem?_cons_zero,List.getElem?_cons_succ,Option.bind_some,PV.t9,PV.a3g,a2S]
    rw [nn]
    walk_at "t"
    rw [i0]
    walk_at "t"
    rw [ni]
    walk_at "t")]
   rw [m3 (ds':=[r,iD n,some (.own (D1++[o7 w])),some (.own D2),some (.dat (B0 w)),some (.dat (o7 w))]) (by
    rw [a1j]
    exact U5 (i:=2) (l:=D1) (.dat (o7 w)) rfl ln1)]
   rw [a1j]
   exact U5 (i:=3) (l:=D2) (.dat (.str w.name)) rfl ln2
  rw [map_cons,cons_append,a0X rfl B,e,append_assoc]
  rfl
theorem b4Y {z:Str} {l:List Str} (h:z ∈ l):(or2 inD a6U) (.str z) (.list (l.map .str))=some (.dat (.bool true)):=by
 have h1:(l.map PyData.str).all Flat=true:=by
  rw [all_eq_true]
  intro d hd
  obtain ⟨x,_,rfl⟩:=mem_map.mp hd
  rfl
 have h2:((l.map PyData.str).any fun y=>eqF y (.str z))=true:=by
  rw [List.any_eq_true]
  refine ⟨.str z,List.mem_map_of_mem h,?_⟩
  show (z==z)=true
  rw [beq_iff_eq]
 have e:inD (.str z) (.list (l.map .str))=some (.dat (.bool true)):=by
  show (if Flat (.str z)=true/\(l.map PyData.str).all Flat=true then some (PV.dat (.bool ((l.map PyData.str).any fun y=>eqF y (.str z)))) else none)=_
  rw [if_pos ⟨rfl,h1⟩,h2]
 unfold or2
 rw [e]
noncomputable def StopW (n:Int) (ns:List Str) (rest:List PyData):Prop:=rest=[]\/∃ d r,rest=d::r/\(E3 [d,.int n]=some (.dat .none)\/∃ w,d=B0 w/\Wk5 n w/\w.name ∈ ns)
theorem b8K {ws:List Wk} {n:Int} {rest:List PyData} (hw:∀ w ∈ ws,Wk5 n w) (hn:n<=24) (wl:ws.length<=6) (nd:(ws.map Wk.name).Nodup) (hr:ws.length=6\/StopW n (ws.map Wk.name) rest):C7 [.list (ws.map B0++rest),.int n]=some (.own (ws.map o7)):=by
 have ht:(ws.map B0++rest).take 6=ws.map B0++rest.take (6 - ws.length):=by
  rw [take_append,length_map,take_of_length_le (by rw [length_map];omega)]
 have hs':StopW n (ws.map Wk.name) (rest.take (6 - ws.length)):=by
  rcases hr with hr | hr | ⟨d,r,rfl,hd⟩
  . left;rw [hr];rfl
  . left;rw [hr];exact List.take_nil
  . by_cases c:6 - ws.length=0
    . left;rw [c];rfl
    . right
      obtain ⟨k,hk⟩:∃ k,6 - ws.length=k + 1:=⟨6 - ws.length - 1,by omega⟩
      exact ⟨d,r.take k,by rw [hk];rfl,hd⟩
 generalize eL:ws.map B0++rest=L at *
 have hc:p7 (.list L) none (some 6)=some (.own (ws.map B0++rest.take (6 - ws.length))):=by
  rw [<-ht,<-a3t];rfl
 generalize rest.take (6 - ws.length)=R at *
 obtain ⟨z4,z5,e⟩:=b1h (r:=some (.dat (.list L))) hn (rest:=R) ws [] none none hw (by simpa using nd) (by simp;omega)
 simp only [map_nil,nil_append] at e
 unfold C7
 walk_at "t"
 rw [hc]
 walk_at "t"
 rw [e]
 rcases hs' with rfl | ⟨d,r,rfl,hd⟩
 . rw [a6Y]
   walk_at "t"
 . have B:C4 [some (.dat (.list L)),iD n,some (.own (ws.map o7)),some (.own ((ws.map Wk.name).map .str)),some (.dat d),z5]=some (.ret (.own (ws.map o7))):=by
     generalize ws.map o7=D1 at *
     rcases hd with hd | ⟨w,rfl,hw2,hm⟩
     . generalize (ws.map Wk.name).map PyData.str=D2 at *
       unfold C4
       rw [m3 (A8 (pv:=.dat .none) (by walk_at "t";exact hd))]
       walk_at "t"
     . have rw1:=b0s hw2 hn
       have nn:q9 (o7 w)=false:=rfl
       have i0:ixD (o7 w) (.int 0)=some (.dat (.str w.name)):=rfl
       have ni:=b4Y hm
       generalize (ws.map Wk.name).map PyData.str=D2 at *
       unfold C4
       rw [m3 (A8 (pv:=.dat (o7 w)) (by walk_at "t";exact rw1))]
       simp only [set_cons_zero,set_cons_succ,PV.t9]
       unfold i8
       rw [show (gIf (bOr (m4 (fOp isD (d5 5) (fC .none))) (m4 (fOp (or2 inD a6U) (U1 (fOp ixD (d5 5) (fC (.int 0)))) (U1 (d5 3))))) (R9 2) o8) [some (.dat (.list L)),iD n,some (.own D1),some (.own D2),some (.dat (B0 w)),some (.dat (o7 w))]=some (.ret (.own D1)) from by
        simp only [gIf,bOr,m4,fOp,d5,fC,U1,frz,map_cons,map_nil,List.getElem?_cons_zero,List.getElem?_cons_succ,Option.bind_some,PV.t9,PV.a3g,a2S]
        rw [nn]
        walk_at "t"
        rw [i0]
        walk_at "t"
        rw [ni]
        walk_at "t"]
       rfl
   unfold K6
   show (R4 ((C4 [some (.dat (.list L)),iD n,some (.own (ws.map o7)),some (.own ((ws.map Wk.name).map .str)),some (.dat d),z5]).bind _) _).bind _=_
   rw [B]
   walk_at "t"
end Law
local macro_rules | `(tactic| walk_at "w") => `(tactic| simp only [L2.fnF, L2.fnX, L2.c3I, L2.c5T, L2.b2y, L2.c7u, L2.b4e, L2.b1j, L2.a7o, L2.b5l, L2.b8g, L2.b3O, L2.b8f, L2.c7v, L2.a4I, L2.a9H, L2.Q9, L2.B1, L2.iWk, L2.b4h, L2.a2D, L2.findD, L2.a9J, L2.a1Q, L2.b0o, L2.b0p, L2.a8q, L2.b2z, L2.a8O, L2.b0H, L2.a5h, L2.gIf, L2.p8, L2.R9, L2.b8h, L2.o8, L2.b8i, L2.b5g, L2.b8k, L2.b8j, L2.b2A, L2.a1j, L2.a2i, L2.a3r, L2.a6X, L2.a8V, L2.d5, L2.fC, L2.fOp, L2.fUn, L2.g0, L2.R6, L2.B1, L2.fSl, L2.fIf, L2.a5H, L2.fOr, L2.c2t, L2.b5m, L2.U0, L2.b8m, L2.Flat, L2.U1, L2.frz, L2.O2, L2.D8, L2.A5, L2.a6m, L2.a3c, L2.d4, L2.e8, L2.m4, L2.a5J, L2.c2I, L2.bOr, L2.G4, L2.iFn, L2.iSq, L2.a6z, L2.a8p, L2.b0w, L2.a8G, L2.a0Y, L2.a0j, L2.G3, L2.b0q, L2.a1d, L2.b0r, L2.C1, L2.a1C, L2.PV.t9, L2.PV.a3g, L2.a2b,
 L2.a1O,L2.b0k,L2.b2m,L2.b2p,L2.b2w,L2.b2x,L2.a4J,L2.b0A,L2.a7p,L2.b0z,L2.b2t,L2.K5,L2.b1b,L2.b0y,L2.a3q,L2.b0E,L2.a8i,L2.b0j,L2.a6R,L2.a8N,L2.b2d,L2.b0m,L2.a2S,L2.a5w,L2.b0W,L2.b0G,L2.a8P,L2.a8k,L2.a9h,L2.a1L,L2.b5k,L2.a9K,L2.b1I,L2.b1L,L2.b1M,L2.b1K,L2.b1J,L2.b8y,L2.b8x,L2.b8w,L2.b8v,L2.b8u,L2.b8t,L2.b8s,L2.isI,L2.b2a,String.reduceBEq,
 Option.bind_some,Option.bind_none,Option.map_some,Option.map_none,map_cons,map_nil,length_cons,length_nil,List.replicate,cons_append,nil_append,append_nil,set_cons_zero,set_cons_succ,List.getElem?_cons_zero,List.getElem?_cons_succ,Nat.reduceAdd,Nat.reduceSub,Nat.reduceEqDiff,Nat.reduceLeDiff,Nat.reduceLT,Int.reduceToNat,Int.cast_ofNat_Int,eq_self,
 if_true,if_false,reduceIte,decide_eq_true_eq,decide_true,decide_false,Bool.false_eq_true,Bool.not_eq_true',decide_eq_false_iff_not,Bool.not_true,Bool.not_false,not_true_eq_false,not_false_eq_true,Bool.true_or,Bool.false_or,Bool.or_true,Bool.or_false,Bool.and_true,Bool.true_and,Bool.and_false,Bool.false_and,reduceCtorEq,and_self])
namespace Law
open PySem L2 PySem.NumText PySem.StrLaws
noncomputable abbrev A3 (l:List Str):PyData:=.list (l.map .str)
noncomputable def dl (R:List (List Str)):List PyData:=R.map fun l=>.str (lnS l)
theorem a3S {f:Nat} (h:f<=1000):a3m (.int (f:Int))=true:=by
 show decide (((f:Int)).natAbs.log2 < 1920)=true
 rw [decide_eq_true_eq,Int.natAbs_natCast]
 by_cases c:f=0
 . subst c;decide
 . exact (Nat.log2_lt c (k:=1920)).mpr (Nat.lt_of_le_of_lt h (Nat.lt_of_lt_of_le (show 1000 < 2 ^ 10 by decide) (Nat.pow_le_pow_right (by decide) (by decide))))
theorem a6w {R:List (List Str)} (LA:∀ l ∈ R,Ln5 l) (ds:Ds):D9 C1 G4 a9u ds (dl R)=some (R.map A3):=comp_map fun l hl'=>⟨.own (l.map .str),by
  have k:=LA l hl'
  have s:=a8n (ws:=l) k.ne k.len (fun w hw=>(k.w w hw).len) (fun w hw=>(k.w w hw).no)
  unfold a9u
  walk_at "w"
  exact s,rfl⟩
theorem c1A (cE:Addr) {s:List Str} {R:List (List Str)} (LA:∀ l ∈ s::R,Ln5 l) (hl:R.length<=500) {SD:PyData} {HD WD:List PyData} (ns:q9 SD=false) (rs:z9 [A3 s]=some (.dat SD)) (rh:B9 [.list (R.map A3)]=some (.own HD))
  (t1:PyData.canLayAll0 HD=true) (t2:PyData.depthAll HD<=3) (hl2:HD.length<=24) (wl:WD.length<=6) (rwk:C7 [.list ((R.map A3).drop HD.length),.int HD.length]=some (.own WD)) (hH:HD ≠ []) :
  O8 cE [.list (dl (s::R))]=if HD.length + WD.length < R.length then some (.inr (a0d cE "place" (.int ((1 + HD.length + WD.length:Nat):Int)))) else some (.inl (.dat (.tuple [.tuple HD,SD,.tuple WD]))):=by
 have ec:=a6w LA [some (.dat (.list (dl (s::R)))),none,none,none,none,none]
 have er:(s::R).map A3=A3 s::R.map A3:=rfl
 obtain ⟨s1,s2⟩:=a5W (s::R) LA
 have en:v5 (.list (A3 s::R.map A3)) (.list [])=some (.dat (.bool false)):=eq_nil s1 s2
 have ln:(dl (s::R)).length<=501:=by unfold dl;rw [length_map,length_cons];omega
 have d1:p7 (.list (A3 s::R.map A3)) (some 1) none=some (.own (R.map A3)):=by
  show some (PV.own (cutD _ (some ((1:Nat):Int)) none))=_
  rw [a1M];rfl
 have d2:p7 (.list (A3 s::R.map A3)) (some (1 + (HD.length:Int))) none=some (.own ((R.map A3).drop HD.length)):=by
  have:cutD (A3 s::R.map A3) (some ((HD.length + 1:Nat):Int)) none=(R.map A3).drop HD.length:=by
   rw [a1M,drop_succ_cons]
  show some (PV.own (cutD _ (some (1 + (HD.length:Int))) none))=_
  rw [show (1 + (HD.length:Int))=((HD.length + 1:Nat):Int) by omega,this]
 have eh:v5 (.list HD) (.list [])=some (.dat (.bool false)):=by
  cases HD with
  | nil=>exact absurd rfl hH
  | cons a r=>exact eq_nil t1 t2
 have rl:(A3 s::R.map A3).length=1 + R.length:=by
  rw [length_cons,length_map];omega
 have sm:=a3S (f:=1 + HD.length + WD.length) (by omega)
 rw [er] at ec
 generalize A3 s=RS at *
 generalize (R.map A3).drop HD.length=RD at *
 generalize dl (s::R)=LD at *
 unfold O8
 walk_at "w"
 rw [if_pos (by omega),ec]
 walk_at "w"
 rw [en]
 walk_at "w"
 rw [rs]
 walk_at "w"
 rw [ns]
 walk_at "w"
 rw [d1]
 walk_at "w"
 rw [rh]
 walk_at "w"
 rw [eh]
 walk_at "w"
 rw [d2]
 walk_at "w"
 rw [rwk]
 walk_at "w"
 rw [length_map]
 by_cases c:HD.length + WD.length < R.length
 . rw [if_pos c,if_pos (by omega)]
   rw [show (1 + (HD.length:Int) + (WD.length:Int))=((1 + HD.length + WD.length:Nat):Int) by omega]
   try walk_at "w"
   rw [sm]
   walk_at "w"
 . rw [if_neg c,if_neg (by omega)]
   walk_at "w"
theorem b5P (cE:Addr) {s:List Str} {R:List (List Str)} (LA:∀ l ∈ s::R,Ln5 l) (hl:R.length<=500) (rs:z9 [A3 s]=some (.dat .none)):O8 cE [.list (dl (s::R))]=some (.inr (a0d cE "place" (.int 0))):=by
 have ec:=a6w LA [some (.dat (.list (dl (s::R)))),none,none,none,none,none]
 have er:(s::R).map A3=A3 s::R.map A3:=rfl
 obtain ⟨s1,s2⟩:=a5W (s::R) LA
 have en:v5 (.list (A3 s::R.map A3)) (.list [])=some (.dat (.bool false)):=eq_nil s1 s2
 have ln:(dl (s::R)).length<=501:=by unfold dl;rw [length_map,length_cons];omega
 have sm:a3m (.int 0)=true:=a3S (f:=0) (by omega)
 rw [er] at ec
 generalize A3 s=RS at *
 generalize dl (s::R)=LD at *
 unfold O8
 walk_at "w"
 rw [if_pos (by omega),ec]
 walk_at "w"
 rw [en]
 walk_at "w"
 rw [rs]
 walk_at "w"
 rw [sm]
 walk_at "w"
theorem b9h (cE:Addr):O8 cE [.list []]=some (.inr (a0d cE "place" (.int 0))):=by
 have sm:a3m (.int 0)=true:=a3S (f:=0) (by omega)
 have en:v5 (.list []) (.list [])=some (.dat (.bool true)):=rfl
 unfold O8
 walk_at "w"
 simp only [D9]
 walk_at "w"
 rw [en]
 walk_at "w"
 rw [sm]
 walk_at "w"
theorem a8x (cE:Addr) {s:List Str} {R:List (List Str)} (LA:∀ l ∈ s::R,Ln5 l) (hl:R.length<=500) {SD:PyData} (ns:q9 SD=false) (rs:z9 [A3 s]=some (.dat SD)) (rh:B9 [.list (R.map A3)]=some (.own [])):O8 cE [.list (dl (s::R))]=some (.inr (a0d cE "place" (.int 1))):=by
 have ec:=a6w LA [some (.dat (.list (dl (s::R)))),none,none,none,none,none]
 have er:(s::R).map A3=A3 s::R.map A3:=rfl
 obtain ⟨s1,s2⟩:=a5W (s::R) LA
 have en:v5 (.list (A3 s::R.map A3)) (.list [])=some (.dat (.bool false)):=eq_nil s1 s2
 have ln:(dl (s::R)).length<=501:=by unfold dl;rw [length_map,length_cons];omega
 have sm:a3m (.int 1)=true:=a3S (f:=1) (by omega)
 have d1:p7 (.list (A3 s::R.map A3)) (some 1) none=some (.own (R.map A3)):=by
  show some (PV.own (cutD _ (some ((1:Nat):Int)) none))=_
  rw [a1M];rfl
 have en0:v5 (.list []) (.list [])=some (.dat (.bool true)):=rfl
 rw [er] at ec
 generalize A3 s=RS at *
 generalize dl (s::R)=LD at *
 unfold O8
 walk_at "w"
 rw [if_pos (by omega),ec]
 walk_at "w"
 rw [en]
 walk_at "w"
 rw [rs]
 walk_at "w"
 rw [ns]
 walk_at "w"
 rw [d1]
 walk_at "w"
 rw [rh]
 walk_at "w"
 rw [en0]
 walk_at "w"
 rw [sm]
 walk_at "w"
theorem b1r (cE:Addr) {h:C3} (HS:H5 h) {A:List Hr} {C:List Wk} {rest:List (List Str)} (hA:∀ x ∈ A,Hr5 x) (a1:1<=A.length) (a2:A.length<=24) (hC:∀ w ∈ C,Wk5 A.length w) (c6:C.length<=6) (nd:(C.map Wk.name).Nodup) (hr:∀ l ∈ rest,Ln5 l) (rl:rest.length<=100) (hne:rest ≠ [])
  (sh:C ≠ []\/A.length=24\/b8B (rest.map A3)) (sw:C.length=6\/StopW A.length (C.map Wk.name) (rest.map A3)) :
  O8 cE [.list (dl (B2 h::(A.map A2++(C.map B6++rest))))]=some (.inr (a0d cE "place" (.int ((1 + A.length + C.length:Nat):Int)))):=by
 have LA:∀ l ∈ B2 h::(A.map A2++(C.map B6++rest)),Ln5 l:=by
  intro l h'
  rcases mem_cons.mp h' with rfl | h'
  . exact a2L HS
  . rcases mem_append.mp h' with h' | h'
    . obtain ⟨x,hx,rfl⟩:=mem_map.mp h'
      exact a9F (hA x hx)
    . rcases mem_append.mp h' with h' | h'
      . obtain ⟨w,hw,rfl⟩:=mem_map.mp h'
        exact a9E (hC w hw) (by omega)
      . exact hr l h'
 have eR:(A.map A2++(C.map B6++rest)).map A3=A.map W3++(C.map B0++rest.map A3):=by
  simp [map_map,Function.comp_def]
 obtain ⟨t1,t2⟩:=b0n A
 have lA:(A.map w9).length=A.length:=length_map ..
 have lC:(C.map o7).length=C.length:=length_map ..
 have k:=c1A cE (s:=B2 h) (R:=A.map A2++(C.map B6++rest)) (SD:=K3 h) (HD:=A.map w9) (WD:=C.map o7) LA (by simp;omega) rfl (a5a HS) (by
   rw [eR]
   refine a8S hA a2 ?_
   by_cases c:A.length=24
   . exact .inl c
   . right
     cases eC:C with
     | nil =>
      rw [eC] at sh
      rcases sh with h' | h' | h'
      . exact absurd rfl h'
      . exact absurd h' c
      . exact h'
     | cons w r =>
      refine .inr ⟨B0 w,_,rfl,?_⟩
      exact b1q (hC w (by rw [eC];exact mem_cons_self)) (by omega)) t1 t2 (by omega) (by omega) (by
   rw [eR,lA,List.drop_append_of_le_length (by rw [length_map];exact Nat.le_refl _),drop_of_length_le (by rw [length_map];exact Nat.le_refl _),nil_append]
   exact b8K hC (by omega) c6 nd sw) (by
   intro z
   rw [<-List.length_eq_zero_iff,lA] at z
   omega)
 have:0 < rest.length:=List.length_pos_iff.mpr hne
 rw [k,lA,lC,length_append,length_append,length_map,length_map,if_pos (by omega)]
noncomputable def a3Q (x:List Str):Prop:=z9 [A3 x]=some (.dat .none)
noncomputable def a5O (x:List Str):Prop:=A7 [A3 x]=some (.dat .none)
noncomputable def a4U (x:List Str):Prop:=∀ n:Int,1<=n->n<=24->E3 [A3 x,.int n]=some (.dat .none)
theorem c3y (cE:Addr) {h:C3} (H:H5 h) {p:Nat} {x:List Str} {tl:List (List Str)} (hp:p<=(t6 h).length) (hx:Ln5 x) (ht:∀ l ∈ tl,Ln5 l) (kt:tl.length<=90) (b0:p=0->a3Q x) (b1:1<=p->a5O x/\a4U x) :
  O8 cE [.list (dl ((t6 h).take p++x::tl))]=some (.inr (a0d cE "place" (.int (p:Int)))):=by
 have hl:=H.hl;have h1:=H.h1;have wl:=H.wl
 have la:(t6 h).length=1 + h.hs.length + h.ws.length:=by simp [t6];omega
 have lr:∀ l ∈ x::tl,Ln5 l:=fun l hl'=>by
  rcases mem_cons.mp hl' with rfl | hl'
  . exact hx
  . exact ht l hl'
 by_cases c0:p=0
 . subst c0
   exact b5P cE (s:=x) (R:=tl) lr (by omega) (b0 rfl)
 . obtain ⟨bh,bw⟩:=b1 (by omega)
   obtain ⟨q,rfl⟩:∃ q,p=q + 1:=⟨p - 1,by omega⟩
   have eT:(t6 h).take (q + 1)=B2 h::(h.hs.map A2++h.ws.map B6).take q:=rfl
   rw [eT]
   by_cases c1:q=0
   . subst c1
     exact a8x cE (s:=B2 h) (R:=x::tl) (SD:=K3 h) (fun l hl'=>by
      rcases mem_cons.mp hl' with rfl | hl'
      . exact a2L H
      . exact lr l hl') (by simp;omega) rfl (a5a H) (a8S (hs:=[]) (rest:=A3 x::tl.map A3) (fun x hx=>by cases hx) (by simp) (.inr (.inr ⟨_,_,rfl,bh⟩)))
   . by_cases c2:q<=h.hs.length
     . have e1:(h.hs.map A2++h.ws.map B6).take q=(h.hs.take q).map A2:=by
         rw [List.take_append_of_le_length (by rw [length_map];exact c2),map_take]
       have lq:(h.hs.take q).length=q:=by rw [length_take];omega
       have k:=b1r cE H (A:=h.hs.take q) (C:=[]) (rest:=x::tl) (fun y hy=>H.hs y (mem_of_mem_take hy)) (by omega) (by omega) (fun w hw=>by cases hw) (by simp) (by simp) lr (by simp;omega) (by simp) (.inr (.inr (.inr ⟨_,_,rfl,bh⟩))) (.inr (.inr ⟨_,_,rfl,.inl (bw _ (by omega) (by omega))⟩))
       rw [lq] at k
       rw [e1]
       rw [show q + 1=1 + q + ([]:List Wk).length by simp;omega]
       exact k
     . have e1:(h.hs.map A2++h.ws.map B6).take q=h.hs.map A2++(h.ws.take (q - h.hs.length)).map B6:=by
         rw [take_append,length_map,take_of_length_le (by rw [length_map];omega),map_take]
       have lq:(h.ws.take (q - h.hs.length)).length=q - h.hs.length:=by rw [length_take];omega
       have k:=b1r cE H (A:=h.hs) (C:=h.ws.take (q - h.hs.length)) (rest:=x::tl) H.hs h1 hl (fun w hw=>H.ws w (mem_of_mem_take hw)) (by omega) (by
        rw [map_take]
        exact H.nd.sublist (List.take_sublist _ _)) lr (by simp;omega) (by simp) (.inl (fun z=>by
        have:=congrArg List.length z
        rw [lq] at this
        simp at this
        omega)) (.inr (.inr ⟨_,_,rfl,.inl (bw _ (by omega) (by omega))⟩))
       rw [lq] at k
       rw [e1,cons_append,append_assoc]
       rw [show q + 1=1 + h.hs.length + (q - h.hs.length) by omega]
       exact k
theorem c1q (cE:Addr) {h:C3} (H:H5 h) {p:Nat} (hp:p < 2):O8 cE [.list (dl ((t6 h).take p))]=some (.inr (a0d cE "place" (.int (p:Int)))):=by
 rcases (by omega:p=0\/p=1) with rfl | rfl
 . exact b9h cE
 . exact a8x cE (s:=B2 h) (R:=[]) (SD:=K3 h) (fun l hl'=>by
     rcases mem_cons.mp hl' with rfl | hl'
     . exact a2L H
     . cases hl') (by simp) rfl (a5a H) (a8S (hs:=[]) (rest:=[]) (fun x hx=>by cases hx) (by simp) (.inr (.inl rfl)))
theorem a5d {rs:List Rd} {ws:List Str} (h:ws.length ≠ rs.length):A4 rs ws=.none:=by
 unfold A4
 rw [if_neg (fun z=>h z.1)]
theorem a6F {rs:List Rd} {ws:List Str} {i:Nat} {x:Rd} {z:Str} (h1:rs[i]? = some x) (h2:ws[i]? = some z) (h:x.o z=.none):A4 rs ws=.none:=by
 unfold A4
 rw [if_neg]
 rintro ⟨_,hz⟩
 have:(Z7 rs ws)[i]? = some .none:=by
  unfold Z7
  rw [List.getElem?_zipWith,h1,h2]
  show some (x.o z)=_
  rw [h]
 have hm:=List.mem_of_getElem? this
 rw [List.any_eq_false] at hz
 exact hz _ hm rfl
theorem a3o {x:Rd} {z:Str} (hx:x ≠ .nm) (h:C6 (lz z)=none):x.o z=.none:=by
 cases x with
 | am=>show a0Q _ _=_;rw [h];rfl
 | pr=>show a0Q _ _=_;rw [h];rfl
 | sh=>show a4m _=_;rw [h];rfl
 | nm=>exact absurd rfl hx
noncomputable def c7L (c:Nat):Prop:=c ≠ 45/\c ≠ 47/\¬ (48<=c/\c<=57)
theorem a6l {cs:List Nat} {c:Nat} (hc:c ∈ cs) (h:¬ (48<=c/\c<=57)):O0 cs=none:=by
 unfold O0
 rw [if_neg]
 rintro ⟨_,_,ha⟩
 exact h (of_decide_eq_true (all_eq_true.mp ha c hc))
theorem b6t {cs:List Nat} {c:Nat} (hc:c ∈ cs) (h:¬ (48<=c/\c<=57)) (h':c ≠ 45):Q7 cs=none:=by
 unfold Q7
 split
 . rename_i e
   cases cs with
   | nil=>cases hc
   | cons d r =>
    have e':d=45:=by simpa using e
    rcases mem_cons.mp hc with z | z
    . exact absurd (z.trans e') h'
    . rw [show (d::r).drop 1=r from rfl,a6l z h];rfl
 . rw [a6l hc h];rfl
theorem a5v (cs:List Nat) (o:Option Nat):judge cs none o=none:=by cases o <;> rfl
theorem b0a (cs:List Nat) (o:Option Int):judge cs o none=none:=by cases o <;> rfl
theorem b4v {cs:List Nat} {c:Nat} (hc:c ∈ cs) (h:c7L c):C6 cs=none:=by
 unfold C6
 by_cases c47:47 ∈ cs
 . have e:c ∈ W7 cs\/c ∈ a2s cs:=by
     unfold W7 a2s
     rw [if_pos c47,if_pos c47]
     have hi:cs.idxOf 47 < cs.length:=List.idxOf_lt_length_of_mem c47
     have e0:cs=cs.take (cs.idxOf 47)++cs[cs.idxOf 47]::cs.drop (cs.idxOf 47 + 1):=by
      rw [<-List.drop_eq_getElem_cons hi,List.take_append_drop]
     have e1:cs[cs.idxOf 47]=47:=by simp
     rw [e0] at hc
     rcases mem_append.mp hc with z | z
     . exact .inl z
     . rcases mem_cons.mp z with z | z
       . exact absurd (z.trans e1) h.2.1
       . exact .inr z
   rw [if_pos c47]
   rcases e with e | e
   . rw [b6t e h.2.2 h.1];exact a5v _ _
   . rw [a6l e h.2.2];exact b0a _ _
 . have:W7 cs=cs:=by unfold W7;rw [if_neg c47]
   rw [this,b6t hc h.2.2 h.1]
   exact a5v _ _
theorem b4w:C6 []=none:=by decide +kernel
noncomputable def Num (x:Wrd):Prop:=∀ z,x ≠ .nm z
noncomputable def Wrd.k:Wrd->Rd
 | .am _=>.am
 | .pr _=>.pr
 | .sh _=>.sh
 | .nm _=>.nm
theorem c6g {x:Wrd} (h:Num x):x.k ≠ .nm:=by
 cases x with
 | nm z=>exact absurd rfl (h z)
 | _=>intro z;cases z
theorem a6I {x:Wrd} (h:Num x) (ok:x.ok):(∃ n:Int,lz x.w=H9 n/\n.natAbs<=1000000)\/(∃ a b:Int,lz x.w=H9 a++47::G5 b.natAbs/\0 < a/\a<=1000/\1 < b/\b<=1000/\Int.gcd a b=1):=by
 cases x with
 | am n=>exact .inl ⟨n,X8 n,by have h1:=ok.1;have h2:=ok.2;omega⟩
 | pr n=>exact .inl ⟨n,X8 n,by have h1:=ok.1;have h2:=ok.2;omega⟩
 | sh q =>
  have p0:=ok.pos;have p1:=ok.le;have p2:=ok.most
  have e:=a2K (q:=q) (by omega)
  by_cases c:q.2=1
  . rw [if_pos c] at e
    exact .inl ⟨q.1,e,by omega⟩
  . rw [if_neg c] at e
    exact .inr ⟨q.1,q.2,e,p0,by omega,by omega,p2,ok.low⟩
 | nm z=>exact absurd rfl (h z)
theorem b2U {n:Int} (h:n.natAbs<=1000000):n.natAbs < 10 ^ 60:=Nat.lt_of_le_of_lt h (by decide)
theorem len_num {n:Nat} (h:n<=1000000):(G5 n).length<=7:=(a6K (by decide)).mpr (Nat.lt_of_le_of_lt h (by decide))
theorem b5i {n:Nat} (h:n<=1000000):O0 (48::G5 n)=some n:=by
 have hp:=b1z n
 have hl:=len_num h
 unfold O0
 rw [if_pos ⟨by simp,by rw [length_cons];omega,by rw [all_cons,a9S.mpr hp.1];rfl⟩]
 show some (digitsVal (G5 n))=_
 rw [a6J]
theorem b0F {cs:List Nat} {t:Int} {b:Nat} (h:lz (B7 (D6 t (b:Int))) ≠ cs):judge cs (some t) (some b)=none:=by
 show (if b=0 then none else if lz (B7 (D6 t b))=cs then some (D6 t b) else none)=none
 by_cases hb:b=0
 . rw [if_pos hb]
 . rw [if_neg hb,if_neg h]
theorem b8I {x:Wrd} (h:Num x) (ok:x.ok):C6 (48::lz x.w)=none:=by
 rcases a6I h ok with ⟨n,e,hn⟩ | ⟨a,b,e,a0,a1,b0,b1,g⟩
 . rw [e]
   by_cases c:n < 0
   . have e1:H9 n=45::G5 n.natAbs:=by unfold H9;rw [if_pos c]
     unfold C6
     have n47:47 ∉ 48::H9 n:=fun z=>by
      rcases mem_cons.mp z with z | z
      . cases z
      . exact a0U n z
     have:W7 (48::H9 n)=48::H9 n:=by unfold W7;rw [if_neg n47]
     rw [this,e1]
     have:Q7 (48::45::G5 n.natAbs)=none:=by
      unfold Q7
      rw [if_neg (by simp),a6l (c:=45) (mem_cons_of_mem _ mem_cons_self) (by decide)]
      rfl
     rw [this]
     exact a5v _ _
   . have e1:H9 n=G5 n.natAbs:=a4w (by omega)
     unfold C6
     have n47:47 ∉ 48::G5 n.natAbs:=fun z=>by
      rcases mem_cons.mp z with z | z
      . cases z
      . exact a2a _ z
     have:W7 (48::G5 n.natAbs)=48::G5 n.natAbs:=by unfold W7;rw [if_neg n47]
     rw [e1,if_neg n47,this]
     have hs:Q7 (48::G5 n.natAbs)=some ((n.natAbs:Nat):Int):=by
      unfold Q7
      rw [if_neg (by simp),b5i hn]
      rfl
     rw [hs]
     refine b0F fun z=>?_
     have hl:=congrArg List.length z
     rw [show ((1:Nat):Int)=1 from rfl,b2n,a2K (by show (0:Int) < 1;decide),if_pos rfl,a4w (by omega),Int.natAbs_natCast,length_cons] at hl
     omega
 . rw [e,a4w (by omega)]
   have n47:47 ∉ 48::G5 a.natAbs:=fun z=>by
    rcases mem_cons.mp z with z | z
    . cases z
    . exact a2a _ z
   obtain ⟨c1,c2⟩:=a9P (A:=48::G5 a.natAbs) (B:=G5 b.natAbs) n47
   rw [cons_append] at c1 c2
   unfold C6
   rw [c1,c2,if_pos (mem_cons_of_mem _ (mem_append_right _ mem_cons_self)),a5b (b2U (by omega))]
   have hs:Q7 (48::G5 a.natAbs)=some ((a.natAbs:Nat):Int):=by
    unfold Q7
    rw [if_neg (by simp),b5i (by omega)]
    rfl
   rw [hs]
   refine b0F fun z=>?_
   have hl:=congrArg List.length z
   rw [show ((b.natAbs:Nat):Int)=b by omega,show ((a.natAbs:Nat):Int)=a by omega,b3e (by omega) g,a2K (by show (0:Int) < b;omega),if_neg (by show ¬ b=1;omega),a4w (by show 0<=a;omega),length_cons] at hl
   dsimp only at hl
   omega
theorem b5M {x:Wrd} (h:Num x) (ok:x.ok):C6 (lz x.w++[47,49])=none:=by
 rcases a6I h ok with ⟨n,e,hn⟩ | ⟨a,b,e,a0,a1,b0,b1,g⟩
 . rw [e]
   obtain ⟨c1,c2⟩:=a9P (A:=H9 n) (B:=[49]) (a0U n)
   unfold C6
   rw [c1,c2,if_pos (mem_append_right _ mem_cons_self),a8y (b2U hn),show O0 [49]=some 1 by decide +kernel]
   refine b0F fun z=>?_
   have hl:=congrArg List.length z
   rw [show ((1:Nat):Int)=1 from rfl,b2n,a2K (by show (0:Int) < 1;decide),if_pos rfl,length_append] at hl
   simp at hl
 . rw [e,append_assoc,cons_append]
   obtain ⟨c1,c2⟩:=a9P (A:=H9 a) (B:=G5 b.natAbs++[47,49]) (a0U a)
   unfold C6
   rw [c1,c2,if_pos (mem_append_right _ mem_cons_self),a6l (c:=47) (mem_append_right _ mem_cons_self) (by decide)]
   exact b0a _ _
noncomputable def a1b (w:Str):List Str:=[(Str.ofString "+")++w,(Str.ofString "0")++w,w++(Str.ofString "_0"),(Str.ofString "1000001"),(Str.ofString "-1000001"),w++(Str.ofString "x"),w++(Str.ofString "/1"),(Str.ofString "1/1001"),(Str.ofString "1000/1001")]
theorem c6p:∀ s ∈ [(Str.ofString "1000001"),(Str.ofString "-1000001"),(Str.ofString "1/1001"),(Str.ofString "1000/1001")],∀ x ∈ [Rd.am,Rd.pr,Rd.sh],q9 (x.o s)=true:=by decide +kernel
theorem a1Z {d:PyData} (h:q9 d=true):d=.none:=by
 unfold q9 at h
 split at h
 . rfl
 . cases h
theorem c1s {x:Wrd} (h:Num x) (ok:x.ok):∀ s ∈ a1b x.w,x.k.o s=.none:=by
 have hn:=c6g h
 have hk:x.k ∈ [Rd.am,Rd.pr,Rd.sh]:=by
  cases x with
  | nm z=>exact absurd rfl (h z)
  | _=>simp [Wrd.k]
 have L:∀ s ∈ [(Str.ofString "1000001"),(Str.ofString "-1000001"),(Str.ofString "1/1001"),(Str.ofString "1000/1001")],x.k.o s=.none:=fun s hs=>a1Z (c6p s hs x.k hk)
 intro s hs
 simp only [a1b,mem_cons,not_mem_nil,or_false] at hs
 rcases hs with rfl | rfl | rfl | rfl | rfl | rfl | rfl | rfl | rfl
 . refine a3o hn (b4v (c:=43) ?_ ⟨by decide,by decide,by decide⟩)
   rw [D5,show lz (Str.ofString "+")=[43] by decide +kernel]
   exact mem_cons_self
 . refine a3o hn ?_
   rw [D5,show lz (Str.ofString "0")=[48] by decide +kernel]
   exact b8I h ok
 . refine a3o hn (b4v (c:=95) ?_ ⟨by decide,by decide,by decide⟩)
   rw [D5,show lz (Str.ofString "_0")=[95,48] by decide +kernel]
   exact mem_append_right _ mem_cons_self
 . exact L _ (by simp)
 . exact L _ (by simp)
 . refine a3o hn (b4v (c:=120) ?_ ⟨by decide,by decide,by decide⟩)
   rw [D5,show lz (Str.ofString "x")=[120] by decide +kernel]
   exact mem_append_right _ mem_cons_self
 . refine a3o hn ?_
   rw [D5,show lz (Str.ofString "/1")=[47,49] by decide +kernel]
   exact b5M h ok
 . exact L _ (by simp)
 . exact L _ (by simp)
theorem c3p {x:Rd}:x.o (Str.ofString "")=.none:=by
 have e:lz (Str.ofString "")=[]:=by decide +kernel
 cases x with
 | nm=>show a6N _=_;unfold a6N;rw [if_neg (fun z=>z.1 e)]
 | am=>exact a3o (by intro z;cases z) (by rw [e];exact b4w)
 | pr=>exact a3o (by intro z;cases z) (by rw [e];exact b4w)
 | sh=>exact a3o (by intro z;cases z) (by rw [e];exact b4w)
theorem b3V:W5 (Str.ofString ""):=S9 (by decide +kernel) (by decide +kernel)
theorem b5y {w0:Str} {r:List Str} (W:Ws r) (h:r.length ≠ 7):a3Q (w0::r):=a4X W (.inr (a5d h))
theorem b5x {w0:Str} {r:List Str} (W:Ws r) (h:r.length ≠ 5):a4U (w0::r):=fun _ _ _=>a6r W (.inr (a5d h))
theorem a4f {w0:Str} {r:List Str} (W:Ws r) (h:w0 ≠ (Str.ofString "work")):a4U (w0::r):=fun _ _ _=>a6r W (.inl h)
theorem a3a {w0:Str} {r:List Str} (W:Ws r) (h:w0 ≠ (Str.ofString "hour")):a5O (w0::r):=a2U W (.inl h)
theorem b2C {w0:Str} {r:List Str} (W:Ws r) (h:w0 ≠ (Str.ofString "store")):a3Q (w0::r):=a4X W (.inl h)
inductive Row:List Str->Prop where
 | store {h:C3} (H:H5 h):Row (B2 h)
 | hour {x:Hr} (H:Hr5 x):Row (A2 x)
 | work {n:Int} {w:Wk} (H:Wk5 n w) (hn:n<=24):Row (B6 w)
noncomputable def Bad (l x:List Str):Prop:=(l.head? = some (Str.ofString "store")->a3Q x)/\(l.head? ≠ some (Str.ofString "store")->a5O x/\a4U x)
theorem c2p (h:C3):(B2 h).head? = some (Str.ofString "store"):=rfl
theorem b6J (x:Hr):(A2 x).head? ≠ some (Str.ofString "store"):=by
 obtain ⟨r,e,_⟩:∃ r,A2 x=(Str.ofString "hour")::r/\r.length<=100:=by
  obtain ⟨s,n,l⟩:=x
  cases l with
  | none=>exact ⟨_,rfl,by simp⟩
  | some l=>exact ⟨_,rfl,by simp [T2]⟩
 rw [e]
 intro z
 have z':(Str.ofString "hour")=(Str.ofString "store"):=by simpa using z
 rw [a6c] at z'
 exact absurd z' (by decide)
theorem b6I (w:Wk):(B6 w).head? ≠ some (Str.ofString "store"):=by
 intro z
 have z':(Str.ofString "work")=(Str.ofString "store"):=by simpa [B6] using z
 rw [a6c] at z'
 exact absurd z' (by decide)
theorem a9l {h:C3} {x:List Str} (b:a3Q x):Bad (B2 h) x:=⟨fun _=>b,fun z=>absurd (c2p h) z⟩
theorem a7s {y:Hr} {x:List Str} (b:a5O x) (b':a4U x):Bad (A2 y) x:=⟨fun z=>absurd z (b6J y),fun _=>⟨b,b'⟩⟩
theorem b0X {w:Wk} {x:List Str} (b:a5O x) (b':a4U x):Bad (B6 w) x:=⟨fun z=>absurd z (b6I w),fun _=>⟨b,b'⟩⟩
theorem K4 {a b:String} (h:a ≠ b):Str.ofString a ≠ Str.ofString b:=by rw [ne_eq,a6c];exact h
theorem Row.ln {l:List Str} (h:Row l):Ln5 l:=by
 cases h with
 | store H=>exact a2L H
 | hour H=>exact a9F H
 | work H hn=>exact a9E H hn
theorem Row.cons {l:List Str} (h:Row l):∃ w0 r,l=w0::r/\3<=r.length/\r.length<=7/\(w0=(Str.ofString "store")\/w0=(Str.ofString "hour")\/w0=(Str.ofString "work")):=by
 cases h with
 | store H=>exact ⟨_,_,rfl,by simp [A9],by simp [A9],.inl rfl⟩
 | @hour x H =>
  obtain ⟨s,n,l⟩:=x
  cases l with
  | none=>exact ⟨_,_,rfl,by simp,by simp,.inr (.inl rfl)⟩
  | some l=>exact ⟨_,_,rfl,by simp [T2],by simp [T2],.inr (.inl rfl)⟩
 | work H hn=>exact ⟨_,_,rfl,by simp [D0],by simp [D0],.inr (.inr rfl)⟩
theorem a6Q {w0:Str} {r:List Str} (h:Ln5 (w0::r)) (hl:r.length<=100):Ws r:=⟨fun w hw=>h.w w (mem_cons_of_mem _ hw),hl⟩
theorem b3n {l r:List Str} {w0 w1:Str} (h:Row l) (W:Ws r) (e1:w1 ≠ (Str.ofString "store")) (e2:w1 ≠ (Str.ofString "hour")) (e3:w1 ≠ (Str.ofString "work")):Bad l (w1::r) :=
 ⟨fun _=>b2C W e1,fun _=>⟨a3a W e2,a4f W e3⟩⟩
theorem c2G {l:List Str} (h:Row l):Bad l l.dropLast:=by
 have L:=h.ln
 cases h with
 | @store h H =>
  refine a9l (b5y (r:=((A9 h).map Wrd.w).dropLast) ⟨fun w hw=>L.w w (mem_cons_of_mem _ ((List.dropLast_sublist _).subset hw)),by simp [A9]⟩ (by simp [A9]))
 | @hour x H =>
  obtain ⟨s,n,l⟩:=x
  cases l with
  | none =>
   have W:Ws [j8 s,j8 n]:=⟨fun w hw=>L.w w (by simp only [A2,mem_cons,not_mem_nil,or_false] at hw ⊢;rcases hw with rfl | rfl <;> simp),by simp⟩
   exact a7s (a2U W (.inr (.inr ⟨by simp,.inl (by simp)⟩))) (a4f W (K4 (by decide)))
  | some q =>
   obtain ⟨a,b,c,d⟩:=q
   have W:Ws [j8 s,j8 n,(Str.ofString "line"),j8 a,j8 b,j8 c]:=⟨fun w hw=>L.w w (by
    simp only [A2,T2,map_cons,map_nil,Wrd.w,cons_append,nil_append,mem_cons,not_mem_nil,or_false] at hw ⊢
    rcases hw with rfl | rfl | rfl | rfl | rfl | rfl <;> simp),by simp⟩
   show Bad _ ((Str.ofString "hour")::[j8 s,j8 n,(Str.ofString "line"),j8 a,j8 b,j8 c])
   exact a7s (a2U W (.inr (.inr ⟨by simp,.inr (a5d (by simp))⟩))) (a4f W (K4 (by decide)))
 | @work n w H hn =>
  have W:Ws ((D0 w).map Wrd.w).dropLast:=⟨fun z hz=>L.w z (mem_cons_of_mem _ ((List.dropLast_sublist _).subset hz)),by simp [D0]⟩
  exact b0X (a3a W (K4 (by decide))) (b5x W (by simp [D0]))
theorem b0Y {w0 x:Str} {r:List Str} {j:Nat} (h:Row (w0::r)) (hx:W5 x) (hj:j<=r.length) (hc:j=r.length\/x=(Str.ofString "")):Bad (w0::r) (w0::(r.take j++x::r.drop j)):=by
 have L:=h.ln
 obtain ⟨_,_,e,l3,l7,_⟩:=h.cons
 cases e
 have W:Ws (r.take j++x::r.drop j):=⟨fun w hw=>by
  rcases mem_append.mp hw with z | z
  . exact L.w w (mem_cons_of_mem _ (mem_of_mem_take z))
  . rcases mem_cons.mp z with rfl | z
    . exact hx
    . exact L.w w (mem_cons_of_mem _ (mem_of_mem_drop z)),by
  rw [length_append,length_cons,length_take,length_drop];omega⟩
 have len:(r.take j++x::r.drop j).length=r.length + 1:=by
  rw [length_append,length_cons,length_take,length_drop];omega
 generalize el:w0::r=l at h ⊢
 cases h with
 | @store h H =>
  have e:r=(A9 h).map Wrd.w:=by injection el
  refine a9l (b5y W ?_)
  rw [len,e]
  simp [A9]
 | @work n w H hn =>
  have e:r=(D0 w).map Wrd.w:=by injection el
  have e0:w0=(Str.ofString "work"):=by injection el
  refine b0X (a3a W (by rw [e0];exact K4 (by decide))) (b5x W ?_)
  rw [len,e]
  simp [D0]
 | @hour y H =>
  have e0:w0=(Str.ofString "hour"):=by
   obtain ⟨s,n,l⟩:=y
   cases l <;> injection el
  refine a7s (a2U W ?_) (a4f W (by rw [e0];exact K4 (by decide)))
  right
  have hr:(∃ s n,r=[s,n,(Str.ofString "dark")])\/(∃ s n a b c d,r=[s,n,(Str.ofString "line"),a,b,c,d]):=by
   obtain ⟨s,n,l⟩:=y
   cases l with
   | none=>exact .inl ⟨_,_,by injection el⟩
   | some q=>exact .inr ⟨_,_,_,_,_,_,by injection el⟩
  have em:∀ w:Str,A4 a4O [(Str.ofString ""),w]=.none:=fun w=>a6F (i:=0) rfl rfl c3p
  have em2:∀ w:Str,A4 a4O [w,(Str.ofString "")]=.none:=fun w=>a6F (i:=1) rfl rfl c3p
  have nd:∀ (a b:Str) (t:List Str),a::b::t ≠ [(Str.ofString "dark")]:=fun a b t z=>by simp at z
  have n1:([(Str.ofString "")]:List Str) ≠ [(Str.ofString "line")]:=fun z=>K4 (a:="") (b:="line") (by decide) (by simpa using z)
  have n2:([(Str.ofString "dark")]:List Str) ≠ [(Str.ofString "line")]:=fun z=>K4 (a:="dark") (b:="line") (by decide) (by simpa using z)
  rcases hr with ⟨s,n,rfl⟩ | ⟨s,n,a,b,c,d,rfl⟩
  . have hj':j<=3:=hj
    rcases (by omega:j=0\/j=1\/j=2\/j=3) with rfl | rfl | rfl | rfl
    . have:=hc.resolve_left (by simp);subst this;exact .inl (em s)
    . have:=hc.resolve_left (by simp);subst this;exact .inl (em2 s)
    . have:=hc.resolve_left (by simp);subst this;exact .inr ⟨nd _ _ _,.inl n1⟩
    . exact .inr ⟨nd _ _ _,.inl n2⟩
  . have hj':j<=7:=hj
    rcases (by omega:j=0\/j=1\/j=2\/3<=j) with rfl | rfl | rfl | hj3
    . have:=hc.resolve_left (by simp);subst this;exact .inl (em s)
    . have:=hc.resolve_left (by simp);subst this;exact .inl (em2 s)
    . have:=hc.resolve_left (by simp);subst this;exact .inr ⟨nd _ _ _,.inl n1⟩
    . obtain ⟨i,rfl⟩:∃ i,j=i + 3:=⟨j - 3,by omega⟩
      refine .inr ⟨?_,.inr (a5d ?_)⟩
      . intro z
        have:=congrArg List.length z
        rw [length_drop,len] at this
        simp at this
      . rw [length_drop,len]
        simp
noncomputable def D (w:Str):Prop:=∃ c r,lz w=c::r/\(c=45\/(48<=c/\c<=57))
theorem c4p {x:Wrd} (h:Num x) (ok:x.ok):(lz x.w).length<=20/\∀ c ∈ lz x.w,c=45\/c=47\/(48<=c/\c<=57):=by
 have iL:∀ n:Int,n.natAbs<=1000000->(H9 n).length<=8:=fun n hn=>by
  have:=len_num hn
  unfold H9
  split
  . rw [length_cons];omega
  . omega
 rcases a6I h ok with ⟨n,e,hn⟩ | ⟨a,b,e,a0,a1,b0,b1,g⟩
 . rw [e]
   refine ⟨Nat.le_trans (iL n hn) (by decide),fun c hc=>?_⟩
   rcases a2T n c hc with z | z
   . exact .inl z
   . exact .inr (.inr z)
 . rw [e]
   have:=iL a (by omega)
   have:=len_num (n:=b.natAbs) (by omega)
   refine ⟨by rw [length_append,length_cons];omega,fun c hc=>?_⟩
   rcases mem_append.mp hc with z | z
   . rcases a2T a c z with z | z
     . exact .inl z
     . exact .inr (.inr z)
   . rcases mem_cons.mp z with z | z
     . exact .inr (.inl z)
     . exact .inr (.inr (U3 _ c z))
theorem c2P {s:Str} (hl:(lz s).length<=130) (h:∀ c ∈ lz s,c < 1114112/\c ≠ 32):W5 s:=⟨by rw [u4];exact hl,fun z=>(h 32 z).2 rfl,a5U fun c hc=>(h c hc).1⟩
theorem c1r {x:Wrd} (h:Num x) (ok:x.ok):∀ s ∈ a1b x.w,W5 s:=by
 obtain ⟨hl,hc⟩:=c4p h ok
 have hc':∀ c ∈ lz x.w,c < 1114112/\c ≠ 32:=fun c z=>by have:=hc c z;omega
 have pre:∀ (p:Str),(lz p).length<=3->(∀ c ∈ lz p,c < 1114112/\c ≠ 32)->W5 (p++x.w)/\W5 (x.w++p):=fun p h1 h2=>by
  constructor
  . refine c2P (by rw [D5,length_append];omega) fun c z=>?_
    rw [D5] at z
    rcases mem_append.mp z with z | z
    . exact h2 c z
    . exact hc' c z
  . refine c2P (by rw [D5,length_append];omega) fun c z=>?_
    rw [D5] at z
    rcases mem_append.mp z with z | z
    . exact hc' c z
    . exact h2 c z
 intro s hs
 simp only [a1b,mem_cons,not_mem_nil,or_false] at hs
 rcases hs with rfl | rfl | rfl | rfl | rfl | rfl | rfl | rfl | rfl
 . exact (pre _ (by decide +kernel) (by decide +kernel)).1
 . exact (pre _ (by decide +kernel) (by decide +kernel)).1
 . exact (pre _ (by decide +kernel) (by decide +kernel)).2
 . exact S9 (by decide +kernel) (by decide +kernel)
 . exact S9 (by decide +kernel) (by decide +kernel)
 . exact (pre _ (by decide +kernel) (by decide +kernel)).2
 . exact (pre _ (by decide +kernel) (by decide +kernel)).2
 . exact S9 (by decide +kernel) (by decide +kernel)
 . exact S9 (by decide +kernel) (by decide +kernel)
theorem c4t {z:Str} (h:Nm z):¬ D z:=by
 rintro ⟨c,r,e,hc⟩
 have:=all_eq_true.mp h.all c (by rw [e];exact mem_cons_self)
 have:=of_decide_eq_true this
 omega
theorem c4v:¬ D (Str.ofString "dark"):=by
 rintro ⟨c,r,e,hc⟩
 rw [show lz (Str.ofString "dark")=[100,97,114,107] by decide +kernel] at e
 injection e with e _
 omega
theorem c4u:¬ D (Str.ofString "line"):=by
 rintro ⟨c,r,e,hc⟩
 rw [show lz (Str.ofString "line")=[108,105,110,101] by decide +kernel] at e
 injection e with e _
 omega
theorem a7U {r:List Str} {s:Str} {i:Nat} (h:Ws r) (hs:W5 s):Ws (r.set i s):=⟨fun w hw=>by
 rcases mem_or_eq_of_mem_set hw with z | z
 . exact h.w w z
 . rw [z];exact hs,by rw [List.length_set];exact h.len⟩
theorem a1X {xs:List Wrd} (ok:∀ x ∈ xs,x.ok) {i:Nat} {w s:Str} (hw:(xs.map Wrd.w)[i]? = some w) (hd:D w) (hs:s ∈ a1b w):W5 s/\A4 (xs.map Wrd.k) ((xs.map Wrd.w).set i s)=.none:=by
 rw [List.getElem?_map] at hw
 cases e:xs[i]? with
 | none=>rw [e] at hw;cases hw
 | some x =>
  rw [e] at hw
  cases hw
  have okx:=ok x (List.mem_of_getElem? e)
  have hn:Num x:=fun z hz=>by
   subst hz
   exact c4t okx hd
  have hi:i < xs.length:=(List.getElem?_eq_some_iff.mp e).1
  refine ⟨c1r hn okx s hs,a6F (i:=i) (x:=x.k) (z:=s) (by rw [List.getElem?_map,e];rfl) (by rw [List.getElem?_set_self (by simpa using hi)]) (c1s hn okx s hs)⟩
theorem c4X {w0 w s:Str} {r:List Str} {i:Nat} (h:Row (w0::r)) (hw:r[i]? = some w) (hd:D w) (hs:s ∈ a1b w):W5 s/\Bad (w0::r) (w0::r.set i s):=by
 have L:=h.ln
 obtain ⟨_,_,e,l3,l7,_⟩:=h.cons
 cases e
 have W0:Ws r:=a6Q L (by omega)
 generalize el:w0::r=l at h ⊢
 cases h with
 | @store h H =>
  have e:r=(A9 h).map Wrd.w:=by injection el
  have a1:=H.size;have a2:=H.start;have a3:=H.fill;have a4:=H.take;have a5:=H.kept;have a6:=H.left;have a7:=H.rest
  subst e
  obtain ⟨w5,p⟩:=a1X (xs:=A9 h) (by
   intro x hx
   simp only [A9,mem_cons,not_mem_nil,or_false] at hx
   rcases hx with rfl | rfl | rfl | rfl | rfl | rfl | rfl <;> assumption) hw hd hs
  exact ⟨w5,a9l (a4X (a7U W0 w5) (.inr p))⟩
 | @work n y H hn =>
  have e:r=(D0 y).map Wrd.w:=by injection el
  have e0:w0=(Str.ofString "work"):=by injection el
  have a1:=H.name;have a2:=H.J1;have a3:=H.first;have a4:=H.fl;have a5:=H.last;have a6:=H.most
  subst e
  obtain ⟨w5,p⟩:=a1X (xs:=D0 y) (by
   intro x hx
   simp only [D0,mem_cons,not_mem_nil,or_false] at hx
   rcases hx with rfl | rfl | rfl | rfl | rfl
   . exact a1
   . exact a2
   . exact ⟨a3,by omega⟩
   . exact ⟨by omega,by omega⟩
   . exact a6) hw hd hs
  exact ⟨w5,b0X (a3a (a7U W0 w5) (by rw [e0];exact K4 (by decide))) (fun _ _ _=>a6r (a7U W0 w5) (.inr p))⟩
 | @hour y H =>
  have e0:w0=(Str.ofString "hour"):=by
   obtain ⟨s,n,l⟩:=y
   cases l <;> injection el
  have a1:=H.sun;have a2:=H.need;have a3:=H.line
  have key:W5 s/\(A4 a4O ((r.set i s).take 2)=.none\/((r.set i s).drop 2 ≠ [(Str.ofString "dark")]/\(((r.set i s).drop 2).take 1 ≠ [(Str.ofString "line")]\/A4 a9r ((r.set i s).drop 3)=.none))):=by
   obtain ⟨su,ne,l⟩:=y
   have ok2:∀ x ∈ [Wrd.am su,.am ne],x.ok:=by
    intro x hx
    simp only [mem_cons,not_mem_nil,or_false] at hx
    rcases hx with rfl | rfl
    . exact a1
    . exact a2
   have h01:i < 2->r.take 2=[j8 su,j8 ne]->W5 s/\A4 a4O ((r.set i s).take 2)=.none:=fun hi et=>by
    have hw':([Wrd.am su,.am ne].map Wrd.w)[i]? = some w:=by
     show [j8 su,j8 ne][i]? = _
     rw [<-et,List.getElem?_take,if_pos hi]
     exact hw
    obtain ⟨w5,p⟩:=a1X ok2 hw' hd hs
    refine ⟨w5,?_⟩
    rw [List.take_set,et]
    exact p
   cases l with
   | none =>
    have e:r=[j8 su,j8 ne,(Str.ofString "dark")]:=by injection el
    by_cases hi:i < 2
    . obtain ⟨w5,p⟩:=h01 hi (by rw [e];rfl)
      exact ⟨w5,.inl p⟩
    . have hlt:=(List.getElem?_eq_some_iff.mp hw).1
      rw [e] at hlt hw
      have:i=2:=by simp at hlt;omega
      subst this
      cases hw
      exact absurd hd c4v
   | some q =>
    obtain ⟨a,b,c,d⟩:=q
    obtain ⟨b1,b2,b3,b4⟩:=a3 a b c d rfl
    have e:r=[j8 su,j8 ne,(Str.ofString "line"),j8 a,j8 b,j8 c,j8 d]:=by injection el
    by_cases hi:i < 2
    . obtain ⟨w5,p⟩:=h01 hi (by rw [e];rfl)
      exact ⟨w5,.inl p⟩
    . have hlt:=(List.getElem?_eq_some_iff.mp hw).1
      by_cases hi2:i=2
      . subst hi2
        rw [e] at hw
        cases hw
        exact absurd hd c4u
      . obtain ⟨k,rfl⟩:∃ k,i=k + 3:=⟨i - 3,by omega⟩
        have hw':((T2 (a,b,c,d)).map Wrd.w)[k]? = some w:=by
         have e3:(T2 (a,b,c,d)).map Wrd.w=r.drop 3:=by rw [e];rfl
         rw [e3,List.getElem?_drop,Nat.add_comm]
         exact hw
        obtain ⟨w5,p⟩:=a1X (xs:=T2 (a,b,c,d)) (by
         intro y hy
         simp only [T2,mem_cons,not_mem_nil,or_false] at hy
         rcases hy with rfl | rfl | rfl | rfl
         . exact b1
         . exact b2
         . exact b3
         . exact b4) hw' hd hs
        refine ⟨w5,.inr ⟨fun z=>?_,.inr ?_⟩⟩
        . have:=congrArg List.length z
          rw [length_drop,List.length_set,e] at this
          simp at this
        . have e3:(r.set (k + 3) s).drop 3=((T2 (a,b,c,d)).map Wrd.w).set k s:=by rw [e];rfl
          rw [e3]
          exact p
  obtain ⟨w5,k⟩:=key
  exact ⟨w5,a7s (a2U (a7U W0 w5) (.inr k)) (a4f (a7U W0 w5) (by rw [e0];exact K4 (by decide)))⟩
noncomputable def a4s:List String:=[""," ","store","store 1 1 1 1 1 1","store 1 2 1 1 1 1 1","store 1 1 1 1 0 1 1","store 1 1 1 1 1 0 1","store 1 1 1 1 3/2 1 1","store 1 1 1 1 1 2 1","store 1 1 1 1 2/4 1 1","store 1 1 1 1 1 1/1001 1","store 1 1 1 1 1 1 -1","store -1 0 1 1 1 1 1","store 1 1 1 1 1 1 1 1","store 1 1 1 1 -1/2 1 1","store 1000001 1 1 1 1 1 1","store 1 1 1/2 1 1 1 1","Store 1 1 1 1 1 1 1","hour","hour 1","hour 1 1","hour 1 1 line","hour 1 1 dark 1","hour 1 1 light","hour 1 1 line 1 1 1","hour 1 1 line 1 1 1 1 1","hour 1 1 dark 1 1 1 1","hour -1 1 dark","hour 1 -1 dark","hour 01 1 dark","hour 1 1000001 dark","hour 1 1 line 1 -1 1 1","hour 1 1 line 1 1 1 -1","hour 1 1 line 1000001 1 1 1","hour 1/2 1 dark","hour 1 1 line 1 1 -1000001 1","hour 1 1 line x 1 1 1","hour 1 1 line -0 1 1 1","hour 1 1 DARK","work","work a","work a 1","work a 1 0 0","work a 1 0 0 1 1","work a 1 1 0 1","work a 1 0 24 1","work A 1 0 0 1","work a1 1 0 0 1","work ninelettr 1 0 0 1","work a -1 0 0 1","work a 1 -1 0 1","work a 1 0 0 -1","work a 1000001 0 0 1","work a 1 0 0 1000001","work a 01 0 0 1","work a 1 0 0 1/2","work a 1 0 1/2 1","work a x 0 0 1","end","dark","line","hour 1 1 line 1 1 1 +1","work a 1_0 0 0 1"]
noncomputable def a1Y:List (List String):=[[""],["",""],["store"],["store","1","1","1","1","1","1"],["store","1","2","1","1","1","1","1"],["store","1","1","1","1","0","1","1"],["store","1","1","1","1","1","0","1"],["store","1","1","1","1","3/2","1","1"],["store","1","1","1","1","1","2","1"],["store","1","1","1","1","2/4","1","1"],["store","1","1","1","1","1","1/1001","1"],["store","1","1","1","1","1","1","-1"],["store","-1","0","1","1","1","1","1"],["store","1","1","1","1","1","1","1","1"],["store","1","1","1","1","-1/2","1","1"],["store","1000001","1","1","1","1","1","1"],["store","1","1","1/2","1","1","1","1"],["Store","1","1","1","1","1","1","1"],["hour"],["hour","1"],["hour","1","1"],["hour","1","1","line"],["hour","1","1","dark","1"],["hour","1","1","light"],["hour","1","1","line","1","1","1"],["hour","1","1","line","1","1","1","1","1"],["hour","1","1","dark","1","1","1","1"],["hour","-1","1","dark"],["hour","1","-1","dark"],["hour","01","1","dark"],["hour","1","1000001","dark"],["hour","1","1","line","1","-1","1","1"],["hour","1","1","line","1","1","1","-1"],["hour","1","1","line","1000001","1","1","1"],["hour","1/2","1","dark"],["hour","1","1","line","1","1","-1000001","1"],["hour","1","1","line","x","1","1","1"],["hour","1","1","line","-0","1","1","1"],["hour","1","1","DARK"],["work"],["work","a"],["work","a","1"],["work","a","1","0","0"],["work","a","1","0","0","1","1"],["work","a","1","1","0","1"],["work","a","1","0","24","1"],["work","A","1","0","0","1"],["work","a1","1","0","0","1"],["work","ninelettr","1","0","0","1"],["work","a","-1","0","0","1"],["work","a","1","-1","0","1"],["work","a","1","0","0","-1"],["work","a","1000001","0","0","1"],["work","a","1","0","0","1000001"],["work","a","01","0","0","1"],["work","a","1","0","0","1/2"],["work","a","1","0","1/2","1"],["work","a","x","0","0","1"],["end"],["dark"],["line"],["hour","1","1","line","1","1","1","+1"],["work","a","1_0","0","0","1"]]
noncomputable def os (ws:List String):List Str:=ws.map Str.ofString
noncomputable def chk:List String->Bool
 | []=>false
 | w0::r=>(w0 != "store"||q9 (A4 b1T (os r)))&&(w0 != "hour"||q9 (A4 a4O (os (r.take 2)))||(r.drop 2 != ["dark"]&&((r.drop 2).take 1 != ["line"]||q9 (A4 a9r (os (r.drop 3))))))&&(w0 != "work"||q9 (A4 b5D (os r)))
noncomputable def sp3:List (List String):=[["store","1","2","1","1","1","1","1"],["work","a","1","1","0","1"],["work","a","1","0","24","1"]]
theorem c6e:a4s.map (fun s=>lz (Str.ofString s))=a1Y.map (fun ws=>lz (lnS (os ws))):=by decide +kernel
theorem c4l:∀ ws ∈ a1Y,chk ws=true\/ws ∈ sp3:=by decide +kernel
theorem b9I:∀ ws ∈ a1Y,ws ≠ []/\ws.length<=20/\∀ s ∈ ws,((lz (Str.ofString s)).all fun c=>decide (c < 1114112/\c ≠ 32))=true/\(lz (Str.ofString s)).length<=130:=by decide +kernel
theorem b9J {ws:List String} (h:ws ∈ a1Y):Ln5 (os ws):=by
 obtain ⟨h1,h2,h3⟩:=b9I ws h
 refine ⟨by unfold os;simpa using h1,by unfold os;rw [length_map];omega,fun w hw=>?_⟩
 obtain ⟨s,hs,rfl⟩:=mem_map.mp hw
 exact S9 (h3 s hs).1 (h3 s hs).2
theorem c3b {a b:List String} (h:a ≠ b):os a ≠ os b:=fun z=>h (by
 unfold os at z
 exact (List.map_inj_right (fun x y e=>by rw [a6c] at e;exact e)).mp z)
theorem b7i {h:C3} (a1:InM h.size) (a2:InM h.start) (a3:InM h.fill) (a4:InM h.take) (a5:Shr h.kept) (a6:Shr h.left) (a7:InM h.rest) (hf:h.size < h.start):a3Q (B2 h):=by
 have p:=a2H (l:=A9 h) (by
  intro x hx
  simp only [A9,mem_cons,not_mem_nil,or_false] at hx
  rcases hx with rfl | rfl | rfl | rfl | rfl | rfl | rfl <;> assumption) (by simp [A9])
 have e1:(A3 (B2 h):PyData)=.list (.str (Str.ofString "store")::(A9 h).map fun x=>.str x.w):=by
  simp [B2,map_map]
 have e2:PyData.tuple ((A9 h).map Wrd.v)=K3 h:=rfl
 have e3:(a0F:PyData)=.tuple ((A9 h).map Wrd.rd):=rfl
 rw [e2] at p
 unfold a3Q
 rw [e1]
 unfold z9
 walk_at "w"
 rw [show p7 (.list (.str (Str.ofString "store")::(A9 h).map fun x=>.str x.w)) (some 1) none=some (.own ((A9 h).map fun x=>.str x.w)) from rfl,e3]
 walk_at "w"
 rw [p]
 walk_at "w"
 unfold K3
 walk_at "w"
 rw [if_pos hf]
 walk_at "w"
theorem b2L {w:Wk} {n:Int} (a1:Nm w.name) (a2:InM w.J1) (a3:InM w.first) (a4:InM w.last) (a6:InM w.most) (hf:w.last < w.first\/n<=w.last):E3 [A3 (B6 w),.int n]=some (.dat .none):=by
 have p:=a2H (l:=D0 w) (by
  intro x hx
  simp only [D0,mem_cons,not_mem_nil,or_false] at hx
  rcases hx with rfl | rfl | rfl | rfl | rfl <;> assumption) (by simp [D0])
 have e1:(A3 (B6 w):PyData)=.list (.str (Str.ofString "work")::(D0 w).map fun x=>.str x.w):=by
  simp [B6,map_map]
 have e2:PyData.tuple ((D0 w).map Wrd.v)=o7 w:=rfl
 have e3:(a0Z:PyData)=.tuple ((D0 w).map Wrd.rd):=rfl
 rw [e2] at p
 rw [e1]
 unfold E3
 walk_at "w"
 rw [show p7 (.list (.str (Str.ofString "work")::(D0 w).map fun x=>.str x.w)) (some 1) none=some (.own ((D0 w).map fun x=>.str x.w)) from rfl,e3]
 walk_at "w"
 rw [p]
 walk_at "w"
 unfold o7
 walk_at "w"
 by_cases c:w.last < w.first
 . rw [if_pos c]
   walk_at "w"
 . rw [if_neg c,decide_eq_true (hf.resolve_left c)]
   walk_at "w"
theorem im (n:Int) (h:0<=n/\n<=1000000):InM n:=h
theorem c6i:Nm (Str.ofString "a"):=⟨by decide +kernel,by decide +kernel,by decide +kernel⟩
theorem c5u:Shr (1,1):=⟨by decide,by decide,by decide,by decide⟩
theorem c7I:os ["store","1","2","1","1","1","1","1"]=B2 ⟨[],1,2,1,1,(1,1),(1,1),1,[]⟩:=by
 have e:∀ n:Int,n=1->B7 (n,1)=j8 n:=fun n _=>by unfold B7;rw [if_pos rfl]
 unfold os B2 A9
 simp only [map_cons,map_nil,Wrd.w,e 1 rfl]
 rw [show j8 1=(Str.ofString "1") from D3 (by decide +kernel),show j8 2=(Str.ofString "2") from D3 (by decide +kernel)]
theorem c7a:os ["work","a","1","1","0","1"]=B6 ⟨(Str.ofString "a"),1,1,0,1⟩:=by
 unfold os B6 D0
 simp only [map_cons,map_nil,Wrd.w]
 rw [show j8 1=(Str.ofString "1") from D3 (by decide +kernel),show j8 0=(Str.ofString "0") from D3 (by decide +kernel)]
theorem c6Z:os ["work","a","1","0","24","1"]=B6 ⟨(Str.ofString "a"),1,0,24,1⟩:=by
 unfold os B6 D0
 simp only [map_cons,map_nil,Wrd.w]
 rw [show j8 1=(Str.ofString "1") from D3 (by decide +kernel),show j8 0=(Str.ofString "0") from D3 (by decide +kernel),show j8 24=(Str.ofString "24") from D3 (by decide +kernel)]
theorem c4n {ws:List String} (h:ws ∈ a1Y):a3Q (os ws)/\a5O (os ws)/\a4U (os ws):=by
 have L:=b9J h
 obtain ⟨_,h20,_⟩:=b9I ws h
 rcases c4l ws h with c | c
 . cases ws with
   | nil=>cases c
   | cons w0 r =>
    have W:Ws (os r):=a6Q (w0:=Str.ofString w0) L (by unfold os;rw [length_map];simp at h20;omega)
    unfold chk at c
    simp only [Bool.and_eq_true,Bool.or_eq_true,bne_iff_ne,ne_eq] at c
    obtain ⟨⟨c1,c2⟩,c3⟩:=c
    refine ⟨a4X (w0:=Str.ofString w0) (r:=os r) W ?_,a2U (w0:=Str.ofString w0) (r:=os r) W ?_,fun n _ _=>a6r (w0:=Str.ofString w0) (r:=os r) W ?_⟩
    . rcases c1 with c1 | c1
      . exact .inl (K4 c1)
      . exact .inr (a1Z c1)
    . have et:∀ k,(os r).take k=os (r.take k):=fun k=>by unfold os;rw [map_take]
      have ed:∀ k,(os r).drop k=os (r.drop k):=fun k=>by unfold os;rw [map_drop]
      rcases c2 with (c2 | c2) | ⟨c2,c4⟩
      . exact .inl (K4 c2)
      . exact .inr (.inl (by rw [et];exact a1Z c2))
      . refine .inr (.inr ⟨by rw [ed];exact c3b c2,?_⟩)
        rcases c4 with c4 | c4
        . left
          rw [ed,show (os (r.drop 2)).take 1=os ((r.drop 2).take 1) from by unfold os;rw [map_take]]
          exact c3b c4
        . right
          rw [ed]
          exact a1Z c4
    . rcases c3 with c3 | c3
      . exact .inl (K4 c3)
      . exact .inr (a1Z c3)
 . simp only [sp3,mem_cons,not_mem_nil,or_false] at c
   rcases c with rfl | rfl | rfl
   . have W:Ws (os ["1","2","1","1","1","1","1"]):=a6Q (w0:=(Str.ofString "store")) L (by simp [os])
     refine ⟨?_,a3a W (K4 (by decide)),a4f W (K4 (by decide))⟩
     rw [c7I]
     exact b7i (im _ (by decide)) (im _ (by decide)) (im _ (by decide)) (im _ (by decide)) c5u c5u (im _ (by decide)) (by decide)
   . have W:Ws (os ["a","1","1","0","1"]):=a6Q (w0:=(Str.ofString "work")) L (by simp [os])
     refine ⟨b2C W (K4 (by decide)),a3a W (K4 (by decide)),fun n _ _=>?_⟩
     rw [c7a]
     exact b2L c6i (im _ (by decide)) (im _ (by decide)) (im _ (by decide)) (im _ (by decide)) (.inl (by decide))
   . have W:Ws (os ["a","1","0","24","1"]):=a6Q (w0:=(Str.ofString "work")) L (by simp [os])
     refine ⟨b2C W (K4 (by decide)),a3a W (K4 (by decide)),fun n _ n1=>?_⟩
     rw [c6Z]
     exact b2L c6i (im _ (by decide)) (im _ (by decide)) (im _ (by decide)) (im _ (by decide)) (.inr n1)
noncomputable def oc0:List String:=[""," ","store","store 1 1 1 1 1 1","store 1 2 1 1 1 1 1","store 1 1 1 1 0 1 1"]
noncomputable def oc1:List String:=["store 1 1 1 1 1 0 1","store 1 1 1 1 3/2 1 1","store 1 1 1 1 1 2 1"]
noncomputable def oc2:List String:=["store 1 1 1 1 2/4 1 1","store 1 1 1 1 1 1/1001 1","store 1 1 1 1 1 1 -1"]
noncomputable def oc3:List String:=["store -1 0 1 1 1 1 1","store 1 1 1 1 1 1 1 1","store 1 1 1 1 -1/2 1 1"]
noncomputable def oc4:List String:=["store 1000001 1 1 1 1 1 1","store 1 1 1/2 1 1 1 1","Store 1 1 1 1 1 1 1","hour"]
noncomputable def oc5:List String:=["hour 1","hour 1 1","hour 1 1 line","hour 1 1 dark 1","hour 1 1 light"]
noncomputable def oc6:List String:=["hour 1 1 line 1 1 1","hour 1 1 line 1 1 1 1 1","hour 1 1 dark 1 1 1 1","hour -1 1 dark"]
noncomputable def oc7:List String:=["hour 1 -1 dark","hour 01 1 dark","hour 1 1000001 dark","hour 1 1 line 1 -1 1 1"]
noncomputable def oc8:List String:=["hour 1 1 line 1 1 1 -1","hour 1 1 line 1000001 1 1 1","hour 1/2 1 dark"]
noncomputable def oc9:List String:=["hour 1 1 line 1 1 -1000001 1","hour 1 1 line x 1 1 1","hour 1 1 line -0 1 1 1"]
noncomputable def b7O:List String:=["hour 1 1 DARK","work","work a","work a 1","work a 1 0 0","work a 1 0 0 1 1"]
noncomputable def b7N:List String:=["work a 1 1 0 1","work a 1 0 24 1","work A 1 0 0 1","work a1 1 0 0 1"]
noncomputable def b7M:List String:=["work ninelettr 1 0 0 1","work a -1 0 0 1","work a 1 -1 0 1","work a 1 0 0 -1"]
noncomputable def b7L:List String:=["work a 1000001 0 0 1","work a 1 0 0 1000001","work a 01 0 0 1","work a 1 0 0 1/2"]
noncomputable def b7K:List String:=["work a 1 0 1/2 1","work a x 0 0 1","end","dark","line","hour 1 1 line 1 1 1 +1"]
noncomputable def b7J:List String:=["work a 1_0 0 0 1"]
noncomputable abbrev sf (s:String):PyData:=.str (Str.ofString s)
theorem M4 {FL:Ds->Option PV} {c:Int} {A C:List String} (h:FL [iD c,some (.dat (.list (A.map sf)))]=some (.own (C.map sf))) (hl:A.length + C.length<=1000):j6 1 (fOp m5 (d5 1) FL) [iD c,some (.dat (.list (A.map sf)))]=some (.next [iD c,some (.dat (.list ((A++C).map sf)))]):=by
 refine A8 (pv:=.own ((A++C).map sf)) ?_
 simp only [fOp,d5,List.getElem?_cons_zero,List.getElem?_cons_succ,Option.bind_some,PV.t9,h,PV.a3g]
 rw [b2F (by rw [length_map,length_map];exact hl),map_append]
theorem c4m:oc0++oc1++oc2++oc3++oc4++oc5++oc6++oc7++oc8++oc9++b7O++b7N++b7M++b7L++b7K++b7J=a4s:=by rfl
theorem c1W:a1Y.length=63:=by rfl
theorem c1V:a4s.length=63:=by rfl
theorem c7R (G:Ds->Option Out) (d:PyData):fnF 1 2 G [d]=(G [some (.dat d),none]).bind a6G:=rfl
theorem c1U (c:Int):V1 [.int c]=((Z1 (.int c) (.int 63)).bind fun k=>ixD (.list (a4s.map sf)) k.d):=by
 unfold V1
 rw [c7R]
 rw [m3 (ds':=[iD c,some (.dat (.list (oc0.map sf)))]) rfl]
 rw [m3 (M4 (C:=oc1) rfl (by decide))]
 rw [m3 (M4 (C:=oc2) rfl (by decide))]
 rw [m3 (M4 (C:=oc3) rfl (by decide))]
 rw [m3 (M4 (C:=oc4) rfl (by decide))]
 rw [m3 (M4 (C:=oc5) rfl (by decide))]
 rw [m3 (M4 (C:=oc6) rfl (by decide))]
 rw [m3 (M4 (C:=oc7) rfl (by decide))]
 rw [m3 (M4 (C:=oc8) rfl (by decide))]
 rw [m3 (M4 (C:=oc9) rfl (by decide))]
 rw [m3 (M4 (C:=b7O) rfl (by decide))]
 rw [m3 (M4 (C:=b7N) rfl (by decide))]
 rw [m3 (M4 (C:=b7M) rfl (by decide))]
 rw [m3 (M4 (C:=b7L) rfl (by decide))]
 rw [m3 (M4 (C:=b7K) rfl (by decide))]
 rw [m3 (M4 (C:=b7J) rfl (by decide))]
 rw [c4m]
 generalize a4s.map sf=OL
 simp only [p8,fOp,d5,fC,List.getElem?_cons_zero,List.getElem?_cons_succ,Option.bind_some,PV.t9]
 cases Z1 (.int c) (.int 63) with
 | none=>rfl
 | some k =>
  simp only [Option.bind_some]
  cases ixD (.list OL) k.d with
  | none=>rfl
  | some v=>rfl
theorem c6f {i:Nat} (hi:i < a1Y.length) (hi':i < a4s.length):ixD (.list (a4s.map sf)) (.int (i:Int))=some (.dat (.str (lnS (os a1Y[i])))):=by
 rw [K5,O7 (n:=i) rfl (by rw [length_map];exact hi'),List.getElem?_map,List.getElem?_eq_getElem hi']
 have k:(a4s.map (fun s=>lz (Str.ofString s)))[i]? = (a1Y.map (fun ws=>lz (lnS (os ws))))[i]?:=by rw [c6e]
 rw [List.getElem?_map,List.getElem?_map,List.getElem?_eq_getElem hi',List.getElem?_eq_getElem hi] at k
 have k':lz (Str.ofString a4s[i])=lz (lnS (os a1Y[i])):=Option.some.inj k
 show some (PV.dat (.str (Str.ofString a4s[i])))=_
 rw [D3 k']
theorem b9K {c:Int} (h0:0<=c) (h1:c < 63):∃ x,V1 [.int c]=some (.dat (.str (lnS x)))/\Ln5 x/\a3Q x/\a5O x/\a4U x:=by
 obtain ⟨i,rfl⟩:∃ i:Nat,c=(i:Int):=⟨c.toNat,by omega⟩
 have hi:i < a1Y.length:=by rw [c1W];omega
 have hi':i < a4s.length:=by rw [c1V];omega
 have hm:a1Y[i] ∈ a1Y:=List.getElem_mem hi
 have fm:((i:Int)).fmod 63=(i:Int):=by rw [Int.fmod_eq_emod_of_nonneg _ (by decide)];omega
 refine ⟨os a1Y[i],?_,b9J hm,c4n hm⟩
 rw [c1U,S6 (by decide),fm]
 exact c6f hi hi'
theorem V7 (w:Str) (r:List Str):lz (lnS (w::r))=lz w++(r.map fun x=>32::lz x).flatten:=by
 unfold lnS
 rw [show Txt.join ⟨#[32]⟩ (w::r)=Str.join ⟨#[32]⟩ (w::r) from glued_eq_join _ _,a6f]
 rfl
noncomputable abbrev em:Str:=(Str.ofString "")
theorem b8b:lz em=[]:=by decide +kernel
theorem b4a:lz (Str.ofString " ")=[32]:=by decide +kernel
theorem c4V (w:Str) (r:List Str):(Str.ofString " ")++lnS (w::r)=lnS (em::w::r):=by
 refine D3 ?_
 rw [D5,b4a,V7,V7,b8b,map_cons,flatten_cons]
 rfl
theorem c5i (w:Str) (r:List Str) (x:Str):lnS (w::r)++(Str.ofString " ")++x=lnS (w::(r++[x])):=by
 refine D3 ?_
 rw [D5,D5,b4a,V7,V7,map_append,List.flatten_append]
 simp
theorem c4U (w:Str) (r:List Str):lnS (w::r)++(Str.ofString " ")=lnS (w::(r++[em])):=by
 refine D3 ?_
 rw [D5,b4a,V7,V7,map_append,List.flatten_append]
 simp [b8b]
theorem b5w:∀ (r:List Str) (w:Str) (k:Nat),(∀ x ∈ w::r,32 ∉ lz x)->(lz (lnS (w::r)))[k]? = some 32 ->
  ∃ j,j < r.length/\(lz (lnS (w::r))).take k++32::(lz (lnS (w::r))).drop k=lz (lnS (w::(r.take j++em::r.drop j)))
 | [],w,k,h,hk=>by
  rw [V7,map_nil,List.flatten_nil,append_nil] at hk
  exact absurd (List.mem_of_getElem? hk) (h w mem_cons_self)
 | x::r,w,k,h,hk=>by
  have e0:lz (lnS (w::x::r))=lz w++32::lz (lnS (x::r)):=by
   rw [V7,V7,map_cons,flatten_cons]
   rfl
  rw [e0] at hk ⊢
  by_cases c:k < (lz w).length
  . rw [List.getElem?_append_left c] at hk
    exact absurd (List.mem_of_getElem? hk) (h w mem_cons_self)
  . by_cases c2:k=(lz w).length
    . subst c2
      refine ⟨0,by simp,?_⟩
      rw [List.take_left',List.drop_left']
      . have e2:lz (lnS (w::(([]:List Str)++em::x::r)))=lz w++32::32::lz (lnS (x::r)):=by
          rw [nil_append,V7,V7,map_cons,flatten_cons,map_cons,flatten_cons,b8b]
          rfl
        exact e2.symm
      . rfl
      . rfl
    . obtain ⟨m,rfl⟩:∃ m,k=(lz w).length + (m + 1):=⟨k - (lz w).length - 1,by omega⟩
      rw [List.getElem?_append_right (by omega),show (lz w).length + (m + 1) - (lz w).length=m + 1 by omega,List.getElem?_cons_succ] at hk
      obtain ⟨j,hj,e⟩:=b5w r x m (fun y hy=>h y (mem_cons_of_mem _ hy)) hk
      refine ⟨j + 1,by simp;omega,?_⟩
      rw [take_append,List.drop_append,take_of_length_le (by omega),drop_of_length_le (by omega),show (lz w).length + (m + 1) - (lz w).length=m + 1 by omega,take_succ_cons,drop_succ_cons,nil_append]
      have e1:lz (lnS (w::((x::r).take (j + 1)++em::(x::r).drop (j + 1))))=lz w++32::lz (lnS (x::(r.take j++em::r.drop j))):=by
       rw [V7,V7,take_succ_cons,drop_succ_cons,cons_append,map_cons,flatten_cons]
       rfl
      rw [e1,<-e]
      simp
theorem b3i {Fq:Ds->Option Bool} {ds:Ds} {lo:Int} {n:Nat} {b:Nat->Bool} (hQ:∀ k,k < n->Fq (iD (lo + (k:Nat))::ds)=some (b k)):D9 C1 Fq (d5 0) ds (W4 lo n)=some (((List.range n).filter b).map fun k=>.int (lo + (k:Nat))):=by
 unfold W4
 have key:∀ (l:List Nat),(∀ i ∈ l,i < n)->D9 C1 Fq (d5 0) ds (l.map fun k=>PyData.int (lo + (k:Nat)))=some ((l.filter b).map fun k=>.int (lo + (k:Nat))):=by
  intro l
  induction l with
  | nil=>intro _;rfl
  | cons i r ih =>
   intro h
   have ih':=ih fun j hj=>h j (mem_cons_of_mem _ hj)
   have hq:=hQ i (h i mem_cons_self)
   rw [map_cons]
   unfold D9
   have e1:C1 (PyData.int (lo + (i:Nat)))=some [.int (lo + (i:Nat))]:=rfl
   have e2:V3 [PyData.int (lo + (i:Nat))]++ds=iD (lo + (i:Nat))::ds:=rfl
   rw [e1]
   simp only [Option.bind_some]
   rw [e2,hq,ih']
   cases hb:b i with
   | true =>
    rw [List.filter_cons_of_pos hb]
    rfl
   | false =>
    rw [List.filter_cons_of_neg (by rw [hb];decide)]
    rfl
 exact key _ fun i hi=>mem_range.mp hi
theorem b5B {z:Str} {k:Nat} {c:Nat} (hz:z.length<=1000000) (h:(lz z)[k]? = some c):ixD (.str z) (.int (k:Int))=some (.dat (.str ⟨#[c]⟩)):=by
 show (if z.length<=1000000 then (atI z.cps.toList (k:Int)).bind fun c=>some (PV.dat (.str ⟨#[c]⟩)) else none)=_
 have hk:k < (lz z).length:=(List.getElem?_eq_some_iff.mp h).1
 rw [if_pos hz,O7 (n:=k) rfl hk]
 have h':z.cps.toList[k]? = some c:=h
 rw [h']
 rfl
theorem c6c (c d:Nat):((⟨#[c]⟩:Str)=⟨#[d]⟩)=(c=d):=by
 refine propext ⟨fun h=>?_,fun h=>by rw [h]⟩
 have:lz (⟨#[c]⟩:Str)=lz (⟨#[d]⟩:Str):=by rw [h]
 simpa using this
theorem c3B:(Str.ofString " ")=⟨#[32]⟩:=D3 (by decide +kernel)
theorem b4S {l:List Str} (h:Ln5 l):(lnS l).length<=92000:=b4X h.len fun w hw=>(h.w w hw).len
theorem blank_eq {ns:List Int} (hl:ns.length<=63) {l:List Str} (h:Row l):∃ x,Y6 [scr ns,.str (lnS l)]=some (.dat (.str (lnS x)))/\Ln5 x/\Bad l x:=by
 have L:=h.ln
 have kl:=b4S L
 obtain ⟨w0,r,rfl,l3,l7,hw0⟩:=h.cons
 have no:∀ x ∈ w0::r,32 ∉ lz x:=fun x hx=>(L.w x hx).no
 obtain ⟨way,ew,w0',w1⟩:=u7 (ns:=ns) (k:=801) (m:=4) hl (by decide) (by decide) (by decide)
 have ln1:Ln5 (em::w0::r):=⟨by simp,by simp;omega,fun w hw=>by
  rcases mem_cons.mp hw with rfl | hw
  . exact b3V
  . exact L.w w hw⟩
 have lnj:∀ j,Ln5 (w0::(r.take j++em::r.drop j)):=fun j=>⟨by simp,by simp;omega,fun w hw=>by
  rcases mem_cons.mp hw with rfl | hw
  . exact L.w _ mem_cons_self
  . rcases mem_append.mp hw with hw | hw
    . exact L.w w (mem_cons_of_mem _ (mem_of_mem_take hw))
    . rcases mem_cons.mp hw with rfl | hw
      . exact b3V
      . exact L.w w (mem_cons_of_mem _ (mem_of_mem_drop hw))⟩
 let b:Nat->Bool:=fun k=>decide ((lz (lnS (w0::r)))[k]? = some 32)
 have ec:D9 C1 a1t a5N [some (.dat (scr ns)),some (.dat (.str (lnS (w0::r)))),iD way,none,none] (W4 0 (lnS (w0::r)).length)=some (((List.range (lnS (w0::r)).length).filter b).map fun k=>.int (0 + (k:Nat))):=by
  refine b3i (Fq:=a1t) fun k hk=>?_
  have hk':k < (lz (lnS (w0::r))).length:=by rw [<-u4];exact hk
  unfold a1t
  have a:=b5B (z:=lnS (w0::r)) (k:=k) (by omega) (List.getElem?_eq_getElem hk')
  rw [Int.zero_add]
  simp only [m4,fOp,d5,fC,List.getElem?_cons_zero,List.getElem?_cons_succ,Option.bind_some,PV.t9]
  rw [a]
  simp only [Option.bind_some,PV.t9,a7p,a3c]
  show some (decide ((⟨#[(lz (lnS (w0::r)))[k]]⟩:Str)=(Str.ofString " ")))=some (decide ((lz (lnS (w0::r)))[k]? = some 32))
  rw [List.getElem?_eq_getElem hk']
  congr 1
  rw [decide_eq_decide,c3B,c6c]
  simp
 have hat:((List.range (lnS (w0::r)).length).filter b) ≠ []:=by
  cases r with
  | nil=>simp at l3
  | cons x r' =>
   have e0:lz (lnS (w0::x::r'))=lz w0++32::lz (lnS (x::r')):=by
    rw [V7,V7,map_cons,flatten_cons]
    rfl
   refine List.ne_nil_of_mem (a:=(lz w0).length) (mem_filter.mpr ⟨mem_range.mpr ?_,decide_eq_true ?_⟩)
   . rw [u4,e0,length_append,length_cons];omega
   . rw [e0,List.getElem?_append_right (Nat.le_refl _),Nat.sub_self]
     rfl
 generalize eA:(List.range (lnS (w0::r)).length).filter b=A at *
 have hA:∀ k ∈ A,(lz (lnS (w0::r)))[k]? = some 32:=fun k hk=>by
  rw [<-eA] at hk
  exact of_decide_eq_true (mem_filter.mp hk).2
 have lA:A.length<=92000:=by
  rw [<-eA]
  exact Nat.le_trans (List.length_filter_le _ _) (by rw [List.length_range];exact kl)
 have pA:0 < A.length:=List.length_pos_iff.mpr hat
 obtain ⟨v,ev,v0,v1⟩:=u7 (ns:=ns) (k:=802) (m:=(A.length:Int)) hl (by decide) (by decide) (by omega)
 obtain ⟨i,rfl⟩:∃ i:Nat,v=(i:Int):=⟨v.toNat,by omega⟩
 have hi:i < A.length:=by omega
 obtain ⟨j,hj,ej⟩:=b5w r w0 A[i] no (hA _ (List.getElem_mem hi))
 have hk:A[i]<=92000:=by
  have:=(List.getElem?_eq_some_iff.mp (hA _ (List.getElem_mem hi))).1
  rw [<-u4] at this
  omega
 have len1:(Str.ofString " ").length=1:=by decide +kernel
 have sl1:=c3E (z:=lnS (w0::r)) (by omega) A[i]
 have sl2:=a8o (z:=lnS (w0::r)) (by omega) A[i]
 have t1:(Txt.slice (lnS (w0::r)) none (some (A[i]:Int))).length<=92000:=by
  rw [u4,c3g]
  exact Nat.le_trans (List.length_take_le _ _) hk
 have t2:(Txt.slice (lnS (w0::r)) (some (A[i]:Int)) none).length<=92000:=by
  rw [u4,a6g,length_drop,<-u4]
  omega
 have t3:(Txt.slice (lnS (w0::r)) none (some (A[i]:Int))++(Str.ofString " ")).length<=92001:=by
  rw [u4,D5,length_append,<-u4,<-u4];omega
 have es:Txt.slice (lnS (w0::r)) none (some (A[i]:Int))++(Str.ofString " ")++Txt.slice (lnS (w0::r)) (some (A[i]:Int)) none=lnS (w0::(r.take j++em::r.drop j)):=by
  refine D3 ?_
  rw [D5,D5,c3g,a6g,b4a,<-ej]
  simp
 have ix:ixD (.list (A.map fun k=>.int (0 + (k:Nat)))) (.int (i:Int))=some (.dat (.int (A[i]:Int))):=by
  rw [K5,O7 (n:=i) rfl (by rw [length_map];exact hi),List.getElem?_map,List.getElem?_eq_getElem hi]
  show some (PV.dat (.int (0 + (A[i]:Int))))=_
  rw [Int.zero_add]
 have la:(A.map fun k=>PyData.int (0 + (k:Nat))).length=A.length:=length_map ..
 have bz:=c4U w0 r
 have ba:=c4V w0 r
 have hb1:Bad (w0::r) (em::w0::r):=by
  have e:∀ s:String,s ≠ ""->em ≠ Str.ofString s:=fun s hs=>K4 (fun z=>hs z.symm)
  exact b3n (w0:=w0) h (a6Q ln1 (by simp;omega)) (e _ (by decide)) (e _ (by decide)) (e _ (by decide))
 have hbz:Bad (w0::r) (w0::(r++[em])):=by
  have:=b0Y (x:=em) (j:=r.length) h b3V (Nat.le_refl _) (.inl rfl)
  rw [List.take_length,drop_length] at this
  exact this
 have hbj:Bad (w0::r) (w0::(r.take j++em::r.drop j)):=b0Y h b3V (by omega) (.inr rfl)
 have lnz:Ln5 (w0::(r++[em])):=by
  have:=lnj r.length
  rw [List.take_length,drop_length] at this
  exact this
 generalize lnS (w0::r)=Z at *
 generalize (A.map fun k=>PyData.int (0 + (k:Nat)))=AD at *
 have q1:(j6 2 (g0 i5 (d4 (d5 0) (d4 (fC (.int 801)) (d4 (fC (.int 4)) e8))))) [some (.dat (scr ns)),some (.dat (.str Z)),none,none,none]=some (.next [some (.dat (scr ns)),some (.dat (.str Z)),iD way,none,none]):=by
  refine A8 (pv:=.dat (.int way)) ?_
  simp only [g0,d4,e8,fC,d5,List.getElem?_cons_zero,Option.bind_some,PV.t9,ew]
 have q2:(j6 3 (O2 (iFn a4p (d4 (g0 H0 (d4 (d5 1) e8)) e8)) C1 a1t a5N)) [some (.dat (scr ns)),some (.dat (.str Z)),iD way,none,none]=some (.next [some (.dat (scr ns)),some (.dat (.str Z)),iD way,some (.dat (.list AD)),none]):=by
  refine A8 (pv:=.own AD) ?_
  simp only [O2,iFn,g0,d4,e8,d5,List.getElem?_cons_zero,List.getElem?_cons_succ,Option.bind_some,PV.t9,a4v (show Z.length<=1000000 by omega)]
  rw [a2E (by omega),Int.toNat_natCast]
  simp only [Option.bind_some]
  rw [if_pos (by unfold W4;rw [length_map,List.length_range];omega),ec]
  rfl
 unfold Y6
 change ∃ x,(i8 _ _ [some (.dat (scr ns)),some (.dat (.str Z)),none,none,none]).bind a6G=_/\_
 rw [m3 q1,m3 q2]
 walk_at "w"
 by_cases c0:way=0
 . refine ⟨em::w0::r,?_,ln1,hb1⟩
   rw [if_pos c0,M6 (by omega),ba]
   walk_at "w"
 . rw [if_neg c0]
   walk_at "w"
   by_cases c1:way=1
   . refine ⟨w0::(r++[em]),?_,lnz,hbz⟩
     rw [if_pos c1,M6 (by omega),bz]
     walk_at "w"
   . refine ⟨_,?_,lnj j,hbj⟩
     rw [if_neg c1]
     walk_at "w"
     rw [la,ev]
     walk_at "w"
     rw [K5] at ix
     rw [ix]
     walk_at "w"
     rw [sl1]
     walk_at "w"
     rw [M6 (by omega)]
     walk_at "w"
     rw [sl2]
     walk_at "w"
     rw [M6 (by omega),es]
     walk_at "w"
theorem V9 {Ft:Ds->Option Bool} {G1 G2:Ds->Option Out} {ds:Ds} {b:Bool} (h:Ft ds=some b):gIf Ft G1 G2 ds=if b=true then G1 ds else G2 ds:=by
 unfold gIf
 rw [h]
 cases b <;> rfl
theorem c7y {Ft Fu:Ds->Option Bool} {ds:Ds} {p q:Prop} [Decidable p] [Decidable q] (h1:Ft ds=some (decide p)) (h2:Fu ds=some (decide q)):bOr Ft Fu ds=some (decide (p\/q)):=by
 unfold bOr
 rw [h1,h2]
 by_cases c:p
 . simp [c]
 . simp [c]
theorem a1F {i:Nat} {a b:Int} {ds:Ds} (h1:ds[i]? = some (iD a)):(m4 (fOp v5 (d5 i) (fC (.int b)))) ds=some (decide (a=b)):=by
 simp only [m4,fOp,d5,fC,h1,Option.bind_some,PV.t9,a4J,a3c]
theorem c7U {w:Str} {c:Nat} (hne:(lz w)[0]? = some c) (h:c ∈ lz (Str.ofString "-0123456789")):D w:=by
 rw [show lz (Str.ofString "-0123456789")=[45,48,49,50,51,52,53,54,55,56,57] by decide +kernel] at h
 cases e:lz w with
 | nil=>rw [e] at hne;cases hne
 | cons d r =>
  rw [e] at hne
  cases hne
  refine ⟨_,r,e,?_⟩
  simp only [mem_cons,not_mem_nil,or_false] at h
  omega
theorem b9L {n:Int}:∃ c,(lz (j8 n))[0]? = some c/\c ∈ lz (Str.ofString "-0123456789"):=by
 rw [show lz (Str.ofString "-0123456789")=[45,48,49,50,51,52,53,54,55,56,57] by decide +kernel,X8]
 have key:∀ c,c=45\/(48<=c/\c<=57)->c ∈ [45,48,49,50,51,52,53,54,55,56,57]:=fun c h=>by
  simp only [mem_cons,not_mem_nil,or_false]
  omega
 cases e:H9 n with
 | nil =>
  unfold H9 at e
  split at e
  . cases e
  . exact absurd e (b2k _)
 | cons c r=>exact ⟨c,rfl,key c (a2T n c (by rw [e];exact mem_cons_self))⟩
theorem Row.ne {l:List Str} (h:Row l):∀ w ∈ l,lz w ≠ []:=by
 have ni:∀ n:Int,lz (j8 n) ≠ []:=fun n z=>by
  obtain ⟨c,e,_⟩:=b9L (n:=n)
  rw [z] at e
  cases e
 have nw:∀ x:Wrd,x.ok->lz x.w ≠ []:=fun x ok=>by
  cases x with
  | am n=>exact ni n
  | pr n=>exact ni n
  | nm z=>exact ok.ne
  | sh q =>
   intro z
   have hm:Num (.sh q):=fun z hz=>by cases hz
   rcases a6I hm ok with ⟨n,e,_⟩ | ⟨a,b,e,_⟩
   . rw [e,<-X8] at z
     exact ni n z
   . rw [e] at z
     simp at z
 have wl:∀ s:String,lz (Str.ofString s) ≠ []->∀ l:List Wrd,(∀ x ∈ l,x.ok)->∀ w ∈ Str.ofString s::l.map Wrd.w,lz w ≠ []:=fun s hs l ok w hw=>by
  rcases mem_cons.mp hw with rfl | hw
  . exact hs
  . obtain ⟨x,hx,rfl⟩:=mem_map.mp hw
    exact nw x (ok x hx)
 cases h with
 | @store h H =>
  have a1:=H.size;have a2:=H.start;have a3:=H.fill;have a4:=H.take;have a5:=H.kept;have a6:=H.left;have a7:=H.rest
  refine wl "store" (by decide +kernel) (A9 h) fun x hx=>?_
  simp only [A9,mem_cons,not_mem_nil,or_false] at hx
  rcases hx with rfl | rfl | rfl | rfl | rfl | rfl | rfl <;> assumption
 | @work n y H hn =>
  have a1:=H.name;have a2:=H.J1;have a3:=H.first;have a4:=H.fl;have a5:=H.last;have a6:=H.most
  refine wl "work" (by decide +kernel) (D0 y) fun x hx=>?_
  simp only [D0,mem_cons,not_mem_nil,or_false] at hx
  rcases hx with rfl | rfl | rfl | rfl | rfl
  . exact a1
  . exact a2
  . exact ⟨a3,by omega⟩
  . exact ⟨by omega,by omega⟩
  . exact a6
 | @hour y H =>
  obtain ⟨s,n,l⟩:=y
  cases l with
  | none =>
   intro w hw
   simp only [A2,mem_cons,not_mem_nil,or_false] at hw
   rcases hw with rfl | rfl | rfl | rfl
   . decide +kernel
   . exact ni _
   . exact ni _
   . decide +kernel
  | some q =>
   obtain ⟨a,b,c,d⟩:=q
   intro w hw
   simp only [A2,T2,map_cons,map_nil,Wrd.w,cons_append,nil_append,mem_cons,not_mem_nil,or_false] at hw
   rcases hw with rfl | rfl | rfl | rfl | rfl | rfl | rfl | rfl
   . decide +kernel
   . exact ni _
   . exact ni _
   . decide +kernel
   . exact ni _
   . exact ni _
   . exact ni _
   . exact ni _
theorem Row.num {w0:Str} {r:List Str} (h:Row (w0::r)):∃ (i:Nat) (n:Int),r[i]? = some (j8 n):=by
 generalize el:w0::r=l at h
 cases h with
 | @store h H =>
  have e:r=(A9 h).map Wrd.w:=by injection el
  exact ⟨0,h.size,by rw [e];rfl⟩
 | @work n y H hn =>
  have e:r=(D0 y).map Wrd.w:=by injection el
  exact ⟨1,y.J1,by rw [e];rfl⟩
 | @hour y H =>
  obtain ⟨s,n,l⟩:=y
  cases l with
  | none =>
   have e:r=[j8 s,j8 n,(Str.ofString "dark")]:=by injection el
   exact ⟨0,s,by rw [e];rfl⟩
  | some q =>
   obtain ⟨a,b,c,d⟩:=q
   have e:r=[j8 s,j8 n,(Str.ofString "line"),j8 a,j8 b,j8 c,j8 d]:=by injection el
   exact ⟨0,s,by rw [e];rfl⟩
theorem c2z {α:Type} (l:List α):cutD l none (some (-1))=l.dropLast:=by
 unfold cutD HT.sIx
 simp only [show (-1:Int) < 0 by decide,if_true,List.drop_zero,Nat.sub_zero]
 rw [List.dropLast_eq_take]
 congr 1
 omega
theorem b6w {w0:Str} {r:List Str} (h:Row (w0::r)):3<=r.length/\r.length<=7:=by
 obtain ⟨_,_,e,l3,l7,_⟩:=h.cons
 cases e
 exact ⟨l3,l7⟩
theorem c4F {α:Type} {l:List α} (h:l ≠ []):∃ w,atI l (-1)=some w/\w ∈ l:=by
 have hl:0 < l.length:=List.length_pos_iff.mpr h
 refine ⟨l[l.length - 1],?_,List.getElem_mem _⟩
 unfold atI ixN
 rw [if_neg (by decide),if_pos (by omega)]
 show l[(-1 + (l.length:Int)).toNat]? = _
 rw [show (-1 + (l.length:Int)).toNat=l.length - 1 by omega,List.getElem?_eq_getElem]
theorem c4W {ns:List Int} (hl:ns.length<=63) {l:List Str} (h:Row l):∃ x,a0v [scr ns,.str (lnS l)]=some (.dat (.str (lnS x)))/\Ln5 x/\Bad l x:=by
 have L:=h.ln
 have kl:=b4S L
 have ne:=h.ne
 have bl:=c2G h
 have sp:=a8n (ws:=l) L.ne L.len (fun w hw=>(L.w w hw).len) (fun w hw=>(L.w w hw).no)
 have sp':a0S (.str (lnS l)) [.str (Str.ofString " ")]=some (.own (l.map .str)):=sp
 obtain ⟨w0,r,rfl,_⟩:=h.cons
 obtain ⟨l3,l7⟩:=b6w h
 obtain ⟨way,ew,w0',w1⟩:=u7 (ns:=ns) (k:=803) (m:=3) hl (by decide) (by decide) (by decide)
 have q1:(j6 2 (Q9 a0S (d5 1) (d4 (fC (.str " ")) e8))) [some (.dat (scr ns)),some (.dat (.str (lnS (w0::r)))),none,none,none,none,none,none]=some (.next [some (.dat (scr ns)),some (.dat (.str (lnS (w0::r)))),some (.dat (.list ((w0::r).map .str))),none,none,none,none,none]):=by
  refine A8 (pv:=.own ((w0::r).map .str)) ?_
  simp only [Q9,d4,e8,fC,d5,List.getElem?_cons_zero,List.getElem?_cons_succ,Option.bind_some,PV.t9]
  exact sp'
 have q2:(j6 3 (g0 i5 (d4 (d5 0) (d4 (fC (.int 803)) (d4 (fC (.int 3)) e8))))) [some (.dat (scr ns)),some (.dat (.str (lnS (w0::r)))),some (.dat (.list ((w0::r).map .str))),none,none,none,none,none]=some (.next [some (.dat (scr ns)),some (.dat (.str (lnS (w0::r)))),some (.dat (.list ((w0::r).map .str))),iD way,none,none,none,none]):=by
  refine A8 (pv:=.dat (.int way)) ?_
  simp only [g0,d4,e8,fC,d5,List.getElem?_cons_zero,Option.bind_some,PV.t9,ew]
 have len1:(Str.ofString " ").length=1:=by decide +kernel
 unfold a0v
 change ∃ x,(i8 _ _ [some (.dat (scr ns)),some (.dat (.str (lnS (w0::r)))),none,none,none,none,none,none]).bind a6G=_/\_
 rw [m3 q1,m3 q2]
 by_cases c0:way=0
 . -- a word more
   obtain ⟨wl,el,hm⟩:=c4F (l:=(w0::r).map PyData.str) (by simp)
   obtain ⟨wl',hwl,rfl⟩:=mem_map.mp hm
   obtain ⟨v,ev,v0,v1⟩:=u7 (ns:=ns) (k:=804) (m:=3) hl (by decide) (by decide) (by decide)
   obtain ⟨x,ex,wx⟩:∃ x,ixD (.list [.str (Str.ofString "7"),.str (Str.ofString "x"),.str wl']) (.int v)=some (.dat (.str x))/\W5 x:=by
    rcases (by omega:v=0\/v=1\/v=2) with rfl | rfl | rfl
    . exact ⟨_,rfl,S9 (by decide +kernel) (by decide +kernel)⟩
    . exact ⟨_,rfl,S9 (by decide +kernel) (by decide +kernel)⟩
    . exact ⟨_,rfl,L.w wl' hwl⟩
   have hb:=b0Y (x:=x) (j:=r.length) h wx (Nat.le_refl _) (.inl rfl)
   rw [List.take_length,drop_length] at hb
   refine ⟨w0::(r++[x]),?_,⟨by simp,by simp;omega,fun w hw=>?_⟩,hb⟩
   . have e:=c5i w0 r x
     have xl:=wx.len
     have t3:(lnS (w0::r)++(Str.ofString " ")).length<=92001:=by
      rw [u4,D5,length_append,<-u4,<-u4];omega
     rw [K5] at ex
     generalize lnS (w0::r)=Z at *
     generalize (w0::r).map PyData.str=WL at *
     subst c0
     walk_at "w"
     rw [M6 (by omega)]
     walk_at "w"
     rw [el]
     walk_at "w"
     rw [ev]
     walk_at "w"
     rw [ex]
     walk_at "w"
     rw [M6 (by omega),e]
     walk_at "w"
   . rcases mem_cons.mp hw with rfl | hw
     . exact L.w _ mem_cons_self
     . rcases mem_append.mp hw with hw | hw
       . exact L.w w (mem_cons_of_mem _ hw)
       . rw [mem_singleton.mp hw];exact wx
 . rw [m3 (ds':=[some (.dat (scr ns)),some (.dat (.str (lnS (w0::r)))),some (.dat (.list ((w0::r).map .str))),iD way,none,none,none,none]) (by
     refine (V9 (a1F (a:=way) rfl)).trans ?_
     rw [decide_eq_false c0];rfl)]
   by_cases c1:way=1
   . -- one fewer
     have Ld:Ln5 (w0::r).dropLast:=⟨fun z=>by
      have:=congrArg List.length z
      rw [List.length_dropLast,length_cons,length_nil] at this
      omega,by rw [List.length_dropLast];have:=L.len;omega,fun w hw=>L.w w ((List.dropLast_sublist _).subset hw)⟩
     refine ⟨_,?_,Ld,bl⟩
     have j:=b8e Ld
     have sl:p7 (.list ((w0::r).map .str)) none (some (-1))=some (.own (((w0::r).dropLast).map .str)):=by
      show some (PV.own (cutD ((w0::r).map PyData.str) none (some (-1))))=_
      rw [c2z,List.map_dropLast]
     generalize lnS (w0::r)=Z at *
     generalize (w0::r).map PyData.str=WL at *
     subst c1
     walk_at "w"
     rw [sl]
     walk_at "w"
     rw [j]
     walk_at "w"
   . rw [m3 (ds':=[some (.dat (scr ns)),some (.dat (.str (lnS (w0::r)))),some (.dat (.list ((w0::r).map .str))),iD way,none,none,none,none]) (by
       refine (V9 (a1F (a:=way) rfl)).trans ?_
       rw [decide_eq_false c1];rfl)]
     let b:Nat->Bool:=fun k=>match r[k]? with
      | some w=>(match (lz w)[0]? with
       | some c=>decide (c ∈ lz (Str.ofString "-0123456789"))
       | none=>false)
      | none=>false
     have wat:∀ k,k < r.length->atI ((w0::r).map PyData.str) (1 + (k:Int))=(r[k]?).map PyData.str:=fun k hk=>by
      rw [O7 (n:=k + 1) (by omega) (by rw [length_map,length_cons];omega),List.getElem?_map,List.getElem?_cons_succ]
     have ec:D9 C1 a3Z b1V [some (.dat (scr ns)),some (.dat (.str (lnS (w0::r)))),some (.dat (.list ((w0::r).map .str))),iD way,none,none,none,none] (W4 1 r.length)=some (((List.range r.length).filter b).map fun k=>.int (1 + (k:Nat))):=by
      refine b3i (Fq:=a3Z) fun k hk=>?_
      have hw:r[k]? = some r[k]:=List.getElem?_eq_getElem hk
      have nw:=ne r[k] (mem_cons_of_mem _ (List.getElem_mem hk))
      have wl:=(L.w r[k] (mem_cons_of_mem _ (List.getElem_mem hk))).len
      obtain ⟨c,hc⟩:∃ c,(lz r[k])[0]? = some c:=by
       cases e:lz r[k] with
       | nil=>exact absurd e nw
       | cons c t=>exact ⟨c,rfl⟩
      have a0:=b5B (z:=r[k]) (k:=0) (by omega) hc
      have wk:=wat k hk
      rw [hw] at wk
      have io:(or2 inD a6U) (.str ⟨#[c]⟩) (.str (Str.ofString "-0123456789"))=some (.dat (.bool (decide (c ∈ lz (Str.ofString "-0123456789"))))):=by
       show some (PV.dat (.bool (Txt.contains (Str.ofString "-0123456789") ⟨#[c]⟩)))=_
       rw [a2u]
      have eb:b k=decide (c ∈ lz (Str.ofString "-0123456789")):=by
       show (match r[k]? with
        | some w=>(match (lz w)[0]? with
         | some c=>decide (c ∈ lz (Str.ofString "-0123456789"))
         | none=>false)
        | none=>false)=_
       rw [hw]
       simp only [hc]
      rw [eb]
      generalize (w0::r).map PyData.str=WL at *
      unfold a3Z
      simp only [m4,fOp,d5,fC,List.getElem?_cons_zero,List.getElem?_cons_succ,Option.bind_some,PV.t9,K5]
      rw [wk]
      simp only [Option.map_some,Option.bind_some,PV.t9]
      rw [show ixD (.str r[k]) (.int 0)=some (.dat (.str ⟨#[c]⟩)) from a0]
      simp only [Option.bind_some,PV.t9]
      rw [io]
      rfl
     have hat:(List.range r.length).filter b ≠ []:=by
      obtain ⟨i,n,hi⟩:=h.num
      obtain ⟨c,hc,hd⟩:=b9L (n:=n)
      refine List.ne_nil_of_mem (a:=i) (mem_filter.mpr ⟨mem_range.mpr (List.getElem?_eq_some_iff.mp hi).1,?_⟩)
      show (match r[i]? with
        | some w=>(match (lz w)[0]? with
         | some c=>decide (c ∈ lz (Str.ofString "-0123456789"))
         | none=>false)
        | none=>false)=true
      rw [hi]
      simp only [hc]
      exact decide_eq_true hd
     have hA:∀ k ∈ (List.range r.length).filter b,∃ w,r[k]? = some w/\D w:=fun k hk=>by
      have hb:b k=true:=(mem_filter.mp hk).2
      have hlt:=mem_range.mp (mem_filter.mp hk).1
      refine ⟨r[k],List.getElem?_eq_getElem hlt,?_⟩
      have hb':(match r[k]? with
        | some w=>(match (lz w)[0]? with
         | some c=>decide (c ∈ lz (Str.ofString "-0123456789"))
         | none=>false)
        | none=>false)=true:=hb
      rw [List.getElem?_eq_getElem hlt] at hb'
      simp only at hb'
      split at hb'
      . rename_i c hc
        exact c7U hc (of_decide_eq_true hb')
      . cases hb'
     have lA:((List.range r.length).filter b).length<=7:=Nat.le_trans (List.length_filter_le _ _) (by rw [List.length_range];exact l7)
     clear_value b
     generalize eA:(List.range r.length).filter b=A at *
     have pA:0 < A.length:=List.length_pos_iff.mpr hat
     obtain ⟨v,ev,v0,v1⟩:=u7 (ns:=ns) (k:=805) (m:=(A.length:Int)) hl (by decide) (by decide) (by omega)
     obtain ⟨i,rfl⟩:∃ i:Nat,v=(i:Int):=⟨v.toNat,by omega⟩
     have hi:i < A.length:=by omega
     obtain ⟨w,hw,hD⟩:=hA A[i] (List.getElem_mem hi)
     have hk:A[i] < r.length:=(List.getElem?_eq_some_iff.mp hw).1
     obtain ⟨u,eu,u0,u1⟩:=u7 (ns:=ns) (k:=806) (m:=9) hl (by decide) (by decide) (by decide)
     have wl:=(L.w w (mem_cons_of_mem _ (List.mem_of_getElem? hw))).len
     obtain ⟨s,es,hs⟩:∃ s,ixD (.list ((a1b w).map .str)) (.int u)=some (.dat (.str s))/\s ∈ a1b w:=by
      obtain ⟨m,rfl⟩:∃ m:Nat,u=(m:Int):=⟨u.toNat,by omega⟩
      have hm:m < (a1b w).length:=by show m < 9;omega
      refine ⟨(a1b w)[m],?_,List.getElem_mem hm⟩
      rw [K5,O7 (n:=m) rfl (by rw [length_map];exact hm),List.getElem?_map,List.getElem?_eq_getElem hm]
      rfl
     obtain ⟨w5,hb⟩:=c4X h hw hD hs
     have Ls:Ln5 (w0::r.set A[i] s):=⟨by simp,by simp;omega,fun z hz=>by
      rcases mem_cons.mp hz with rfl | hz
      . exact L.w _ mem_cons_self
      . rcases mem_or_eq_of_mem_set hz with hz | hz
        . exact L.w z (mem_cons_of_mem _ hz)
        . rw [hz];exact w5⟩
     refine ⟨_,?_,Ls,hb⟩
     have j:=b8e Ls
     have wk:=wat A[i] hk
     rw [hw] at wk
     have ix:atI (A.map fun k=>PyData.int (1 + (k:Nat))) (i:Int)=some (.int (1 + (A[i]:Int))):=by
      rw [O7 (n:=i) rfl (by rw [length_map];exact hi),List.getElem?_map,List.getElem?_eq_getElem hi]
      rfl
     have la:(A.map fun k=>PyData.int (1 + (k:Nat))).length=A.length:=length_map ..
     have sl1:p7 (.list ((w0::r).map .str)) none (some (1 + (A[i]:Int)))=some (.own ((w0::r.take A[i]).map .str)):=by
      show some (PV.own (cutD ((w0::r).map PyData.str) none (some (1 + (A[i]:Int)))))=_
      rw [show (1 + (A[i]:Int))=((A[i] + 1:Nat):Int) by omega,a3t,map_cons,take_succ_cons,<-map_take]
      rfl
     have sl2:p7 (.list ((w0::r).map .str)) (some (1 + (A[i]:Int) + 1)) none=some (.own ((r.drop (A[i] + 1)).map .str)):=by
      show some (PV.own (cutD ((w0::r).map PyData.str) (some (1 + (A[i]:Int) + 1)) none))=_
      rw [show (1 + (A[i]:Int) + 1)=((A[i] + 1 + 1:Nat):Int) by omega,a1M,map_cons,drop_succ_cons,<-map_drop]
     have ew1:(w0::r.take A[i]).map PyData.str++[.str s]++(r.drop (A[i] + 1)).map .str=(w0::r.set A[i] s).map .str:=by
      rw [List.set_eq_take_append_cons_drop,if_pos hk]
      simp
     have ll:((w0::r).map PyData.str).length=r.length + 1:=by rw [length_map,length_cons]
     have k1:((w0::r.take A[i]).map PyData.str).length<=100:=by rw [length_map,length_cons,length_take];omega
     have k2:((r.drop (A[i] + 1)).map PyData.str).length<=100:=by rw [length_map,length_drop];omega
     generalize (w0::r.take A[i]).map PyData.str=W1 at *
     generalize (r.drop (A[i] + 1)).map PyData.str=W2 at *
     generalize (w0::r).map PyData.str=WL at *
     generalize lnS (w0::r)=Z at *
     generalize (A.map fun k=>PyData.int (1 + (k:Nat)))=AD at *
     rw [m3 (ds':=[some (.dat (scr ns)),some (.dat (.str Z)),some (.dat (.list WL)),iD way,some (.dat (.list AD)),none,none,none]) (by
      refine A8 (pv:=.own AD) ?_
      simp only [O2,iFn,g0,d4,e8,fC,d5,List.getElem?_cons_zero,List.getElem?_cons_succ,Option.bind_some,PV.t9,a3q]
      rw [show b7r [.int 1,.int (WL.length:Nat)]=some (W4 1 ((WL.length:Int) - 1).toNat) from @if_pos _ (Classical.propDecidable _) (by omega) _ _ _]
      simp only [Option.bind_some]
      rw [show ((WL.length:Int) - 1).toNat=r.length by omega,if_pos (by unfold W4;rw [length_map,List.length_range];omega),ec]
      rfl)]
     rw [m3 (ds':=[some (.dat (scr ns)),some (.dat (.str Z)),some (.dat (.list WL)),iD way,some (.dat (.list AD)),iD (1 + (A[i]:Int)),none,none]) (by
      refine A8 (pv:=.dat (.int (1 + (A[i]:Int)))) ?_
      simp only [fOp,g0,d4,e8,fC,d5,List.getElem?_cons_zero,List.getElem?_cons_succ,Option.bind_some,PV.t9,a3q]
      rw [la,ev]
      simp only [Option.bind_some,PV.t9,K5]
      rw [ix]
      rfl)]
     rw [m3 (ds':=[some (.dat (scr ns)),some (.dat (.str Z)),some (.dat (.list WL)),iD way,some (.dat (.list AD)),iD (1 + (A[i]:Int)),some (.dat (.str w)),none]) (by
      refine A8 (pv:=.dat (.str w)) ?_
      simp only [fOp,d5,List.getElem?_cons_zero,List.getElem?_cons_succ,Option.bind_some,PV.t9,K5]
      rw [wk]
      rfl)]
     have ad1:∀ t:String,(lz (Str.ofString t)).length<=5->m5 (.str (Str.ofString t)) (.str w)=some (.dat (.str (Str.ofString t++w))):=fun t ht=>M6 (by rw [u4 (Str.ofString t)];omega)
     have ad2:∀ t:String,(lz (Str.ofString t)).length<=5->m5 (.str w) (.str (Str.ofString t))=some (.dat (.str (w++Str.ofString t))):=fun t ht=>M6 (by rw [u4 (Str.ofString t)];omega)
     rw [m3 (ds':=[some (.dat (scr ns)),some (.dat (.str Z)),some (.dat (.list WL)),iD way,some (.dat (.list AD)),iD (1 + (A[i]:Int)),some (.dat (.str w)),some (.dat (.list ((a1b w).map .str)))]) (by
      refine A8 (pv:=.own ((a1b w).map .str)) ?_
      simp only [B1,fOp,d4,e8,fC,d5,List.getElem?_cons_zero,List.getElem?_cons_succ,Option.bind_some,PV.t9]
      rw [ad1 "+" (by decide +kernel),ad1 "0" (by decide +kernel),ad2 "_0" (by decide +kernel),ad2 "x" (by decide +kernel),ad2 "/1" (by decide +kernel)]
      rfl)]
     generalize (a1b w).map PyData.str=SP at *
     rw [K5] at es
     walk_at "w"
     rw [sl1]
     walk_at "w"
     rw [eu]
     walk_at "w"
     rw [es]
     walk_at "w"
     rw [b2F (by simp;omega)]
     walk_at "w"
     rw [sl2]
     walk_at "w"
     rw [b2F (by simp;omega)]
     walk_at "w"
     rw [ew1,j]
     walk_at "w"
noncomputable abbrev oS (l:List PyData):Option PV:=some (.own l)
noncomputable abbrev tS (l:List Str):PyData:=.str (lnS l)
structure SpA (h:C3) (R:List (List Str)) (p k:Nat) (x:List Str) (tl:List (List Str)):Prop where
 e:R=(t6 h).take p++x::tl
 hp:p<=(t6 h).length
 lx:Ln5 x
 lt:∀ l ∈ tl,Ln5 l
 kt:tl.length<=k
 b0:p=0->a3Q x
 b1:1<=p->a5O x/\a4U x
noncomputable def Sp (h:C3) (R:List (List Str)) (p k:Nat):Prop:=(∃ x tl,SpA h R p k x tl)\/(R=(t6 h).take p/\p < 2)
theorem c3A (cE:Addr) {h:C3} (H:H5 h) {R:List (List Str)} {p:Nat} (s:Sp h R p 60):O8 cE [.list (dl R)]=some (.inr (a0d cE "place" (.int (p:Int)))):=by
 rcases s with ⟨x,tl,s⟩ | ⟨e,hp⟩
 . rw [s.e]
   exact c3y cE H s.hp s.lx s.lt (by have:=s.kt;omega) s.b0 s.b1
 . rw [e]
   exact c1q cE H hp
theorem a6o {h:C3} (H:H5 h):2<=(t6 h).length/\(t6 h).length<=31:=by
 have h1:=H.h1;have hl:=H.hl;have wl:=H.wl
 simp [t6]
 omega
theorem c0r {α β:Type} (f:α->β) (l:List α) (k:Nat) (x:α):P2 (l.map f) k (f x)=(P2 l k x).map f:=by
 unfold P2
 rw [map_append,map_cons,map_take,map_drop]
theorem c0y (R:List (List Str)) (k:Nat) (x:List Str):P2 (dl R) k (tS x)=dl (P2 R k x):=c0r _ R k x
theorem a1r (A:List (List Str)):(dl A).length=A.length:=length_map ..
theorem c5q {h:C3} (H:H5 h) {R:List (List Str)} {p t:Nat} {o:List Str} (s:Sp h R p 50) (lo:Ln5 o) (bs:a3Q o) (bh:a5O o) (bw:a4U o):Sp h (P2 R (min R.length (p + 1 + t)) o) p 60:=by
 obtain ⟨a1,a2⟩:=a6o H
 rcases s with ⟨x,tl,s⟩ | ⟨e,hp⟩
 . have hp:=s.hp
   have kt:=s.kt
   have lt:((t6 h).take p).length=p:=by rw [length_take];omega
   have lR:R.length=p + 1 + tl.length:=by rw [s.e,length_append,length_cons,lt];omega
   obtain ⟨m,hm⟩:∃ m,min R.length (p + 1 + t)=p + (m + 1)/\m<=tl.length:=⟨min R.length (p + 1 + t) - p - 1,by omega,by omega⟩
   left
   refine ⟨x,P2 tl m o,⟨?_,hp,s.lx,fun l hl=>?_,?_,s.b0,s.b1⟩⟩
   . unfold P2
     rw [hm.1,s.e,take_append,List.drop_append,lt,take_of_length_le (by omega),drop_of_length_le (by omega),show p + (m + 1) - p=m + 1 by omega,take_succ_cons,drop_succ_cons]
     simp
   . unfold P2 at hl
     rcases mem_append.mp hl with z | z
     . exact s.lt l (mem_of_mem_take z)
     . rcases mem_cons.mp z with rfl | z
       . exact lo
       . exact s.lt l (mem_of_mem_drop z)
   . unfold P2
     rw [length_append,length_cons,length_take,length_drop]
     omega
 . have lt:R.length=p:=by rw [e,length_take];omega
   left
   refine ⟨o,[],⟨?_,by omega,lo,(fun l hl=>by cases hl),by simp,fun _=>bs,fun _=>⟨bh,bw⟩⟩⟩
   unfold P2
   rw [show min R.length (p + 1 + t)=R.length by omega,List.take_length,drop_length,e]
theorem c5w {h:C3} (H:H5 h) {p:Nat} (hp:p < (t6 h).length):∃ l,(t6 h)[p]? = some l/\Row l/\(p=0->l.head? = some (Str.ofString "store"))/\(1<=p->l.head? ≠ some (Str.ofString "store")):=by
 have hl:=H.hl
 cases p with
 | zero=>exact ⟨_,rfl,.store H,fun _=>rfl,fun z=>absurd z (by decide)⟩
 | succ q =>
  have e:(t6 h)[q + 1]? = (h.hs.map A2++h.ws.map B6)[q]?:=rfl
  have hq:q < (h.hs.map A2++h.ws.map B6).length:=by
   have:(t6 h).length=(h.hs.map A2++h.ws.map B6).length + 1:=rfl
   omega
  have hm:=List.getElem_mem hq
  refine ⟨_,e.trans (List.getElem?_eq_getElem hq),?_⟩
  generalize (h.hs.map A2++h.ws.map B6)[q]=l at hm
  rcases mem_append.mp hm with z | z
  . obtain ⟨x,hx,rfl⟩:=mem_map.mp z
    exact ⟨.hour (H.hs x hx),fun z=>absurd z (by omega),fun _=>b6J x⟩
  . obtain ⟨w,hw,rfl⟩:=mem_map.mp z
    exact ⟨.work (H.ws w hw) (by omega),fun z=>absurd z (by omega),fun _=>b6I w⟩
theorem b4q {h:C3} (H:H5 h) {p:Nat} {l x:List Str} (hp:p < (t6 h).length) (h0:p=0->l.head? = some (Str.ofString "store")) (h1:1<=p->l.head? ≠ some (Str.ofString "store")) (lx:Ln5 x) (b:Bad l x):Sp h ((t6 h).set p x) p 50:=by
 obtain ⟨a1,a2⟩:=a6o H
 left
 refine ⟨x,(t6 h).drop (p + 1),⟨?_,by omega,lx,fun y hy=>b4T H y (mem_of_mem_drop hy),by rw [length_drop];omega,fun z=>b.1 (h0 z),fun z=>b.2 (h1 z)⟩⟩
 rw [List.set_eq_take_append_cons_drop,if_pos hp]
theorem c5p {h:C3} (H:H5 h) {p:Nat} {o:List Str} (hp:p<=(t6 h).length) (lo:Ln5 o) (bs:a3Q o) (bh:a5O o) (bw:a4U o):Sp h (P2 (t6 h) p o) p 50:=by
 obtain ⟨a1,a2⟩:=a6o H
 left
 exact ⟨o,(t6 h).drop p,⟨rfl,hp,lo,fun y hy=>b4T H y (mem_of_mem_drop hy),by rw [length_drop];omega,fun _=>bs,fun _=>⟨bh,bw⟩⟩⟩
theorem c2q {w0:Str} {r:List Str} (h:Row (w0::r)):∃ (c:Nat) (u:Str) (x:List Str),(lz (lnS (w0::r)))[0]? = some c/\Txt.upper ⟨#[c]⟩=u/\u.length=1/\u++Txt.slice (lnS (w0::r)) (some ((1:Nat):Int)) none=lnS x/\Ln5 x/\Bad (w0::r) x:=by
 have L:=h.ln
 obtain ⟨l3,l7⟩:=b6w h
 have W:Ws r:=a6Q L (by omega)
 have go:∀ (a b:String) (c d:Nat) (t:List Nat),w0=Str.ofString a->lz (Str.ofString a)=c::t->lz (Str.ofString b)=d::t->Txt.upper ⟨#[c]⟩=⟨#[d]⟩->b ≠ "store"->b ≠ "hour"->b ≠ "work"->W5 (Str.ofString b)->∃ (c:Nat) (u:Str) (x:List Str),(lz (lnS (w0::r)))[0]? = some c/\Txt.upper ⟨#[c]⟩=u/\u.length=1/\u++Txt.slice (lnS (w0::r)) (some ((1:Nat):Int)) none=lnS x/\Ln5 x/\Bad (w0::r) x:=by
  intro a b c d t e0 ea eb eu n1 n2 n3 w5
  refine ⟨c,⟨#[d]⟩,Str.ofString b::r,?_,eu,rfl,D3 ?_,⟨by simp,by simp;omega,fun w hw=>?_⟩,b3n (w0:=w0) h W (K4 n1) (K4 n2) (K4 n3)⟩
  . rw [V7,e0,ea];rfl
  . rw [D5,a6g,V7,V7,e0,ea,eb]
    rfl
  . rcases mem_cons.mp hw with rfl | hw
    . exact w5
    . exact L.w w (mem_cons_of_mem _ hw)
 obtain ⟨_,_,e,_,_,hw⟩:=h.cons
 cases e
 rcases hw with e0 | e0 | e0
 . exact go "store" "Store" 115 83 [116,111,114,101] e0 (by decide +kernel) (by decide +kernel) (by decide +kernel) (by decide) (by decide) (by decide) (S9 (by decide +kernel) (by decide +kernel))
 . exact go "hour" "Hour" 104 72 [111,117,114] e0 (by decide +kernel) (by decide +kernel) (by decide +kernel) (by decide) (by decide) (by decide) (S9 (by decide +kernel) (by decide +kernel))
 . exact go "work" "Work" 119 87 [111,114,107] e0 (by decide +kernel) (by decide +kernel) (by decide +kernel) (by decide) (by decide) (by decide) (S9 (by decide +kernel) (by decide +kernel))
theorem c3G {i k:Nat} {Fk Fv:Ds->Option PV} {ds:Ds} {l:List PyData} {pv:PV} (h1:Fv ds=some pv) (h2:Fk ds=some (.dat (.int (k:Int)))) (h3:ds[i]? = some (some (.own l))) (hk:k < l.length) :
  a2h i Fk Fv ds=some (.next (ds.set i (some (.own (l.set k pv.d))))):=by
 have e:ixN l.length (k:Int)=some k:=by
  unfold ixN
  rw [if_pos (by omega),if_pos (by omega),Int.toNat_natCast]
 unfold a2h
 rw [h1,Option.bind_some,h2,Option.bind_some,h3]
 show (ixN l.length (k:Int)).bind _=_
 rw [e]
 rfl
theorem c0q {i k:Nat} {Fk F:Ds->Option PV} {ds:Ds} {l:List PyData} {pv:PV} (h1:F ds=some pv) (h2:Fk ds=some (.dat (.int (k:Int)))) (h3:ds[i]? = some (some (.own l))) (hk:k<=l.length) (hl:l.length < 1000000) :
  a8U i Fk F ds=some (.next (ds.set i (some (.own (P2 l k pv.d))))):=by
 unfold a8U
 rw [h2,Option.bind_some,h1,Option.bind_some,h3]
 show (if 0<=(k:Int)/\(k:Int).toNat<=l.length/\l.length < 1000000 then _ else none)=_
 rw [if_pos ⟨by omega,by rw [Int.toNat_natCast];exact hk,hl⟩,Int.toNat_natCast]
theorem c6E (R:List (List Str)) (k:Nat) (x:List Str):(dl R).set k (tS x)=dl (R.set k x):=by
 unfold dl
 rw [List.map_set]
theorem b7l {ns:List Int} (hl:ns.length<=63) {h:C3} (H:H5 h) {way:Int} {p0:Nat} (w0:0<=way) (w1:way < 6) (hp:p0<=(t6 h).length) :
  ∃ R p,Sp h R p 50/\R.length<=100/\(gIf (bOr (m4 (fOp v5 (d5 2) (fC (.int 0)))) (m4 (fOp v5 (U1 (d5 3)) (U1 (g0 H0 (d4 (d5 1) e8)))))) (a8U 1 (d5 3) (g0 V1 (d4 (g0 i5 (d4 (d5 0) (d4 (fC (.int 809)) (d4 (fC (.int 63)) e8)))) e8))) (gIf (m4 (fOp v5 (d5 2) (fC (.int 1)))) (a2h 1 (d5 3) (g0 Y6 (d4 (d5 0) (d4 (a1L 1 (d5 3)) e8)))) (gIf (m4 (fOp v5 (d5 2) (fC (.int 2)))) (a2h 1 (d5 3) (fOp m5 (fUn a8b (fOp ixD (a1L 1 (d5 3)) (fC (.int 0)))) (fSl p7 (a1L 1 (d5 3)) (A5 (fC (.int 1))) D8))) (gIf (m4 (fOp v5 (d5 2) (fC (.int 3)))) (i8 (j6 3 (g0 i5 (d4 (d5 0) (d4 (fC (.int 810)) (d4 (fC (.int 2)) e8))))) (a6X 1 (a0t 1 (fSl p7 (d5 1) D8 (A5 (d5 3)))))) (a2h 1 (d5 3) (g0 a0v (d4 (d5 0) (d4 (a1L 1 (d5 3)) e8)))))))) [some (.dat (scr ns)),oS (dl (t6 h)),iD way,iD p0,none,none]=some (.next [some (.dat (scr ns)),oS (dl R),iD way,iD p,none,none]):=by
 obtain ⟨a1,a2⟩:=a6o H
 have t1:(m4 (fOp v5 (U1 (d5 3)) (U1 (g0 H0 (d4 (d5 1) e8))))) [some (.dat (scr ns)),oS (dl (t6 h)),iD way,iD p0,none,none]=some (decide ((p0:Int)=((t6 h).length:Nat))):=by
  rw [<-a1r (t6 h)]
  generalize dl (t6 h)=LL
  walk_at "w"
 have t0:=c7y (a1F (ds:=[some (.dat (scr ns)),oS (dl (t6 h)),iD way,iD p0,none,none]) (i:=2) (a:=way) (b:=0) rfl) t1
 by_cases c0:way=0\/(p0:Int)=((t6 h).length:Nat)
 . obtain ⟨v,ev,v0,v1⟩:=u7 (ns:=ns) (k:=809) (m:=63) hl (by decide) (by decide) (by decide)
   obtain ⟨o,eo,lo,bs,bh,bw⟩:=b9K v0 v1
   refine ⟨P2 (t6 h) p0 o,p0,c5p H hp lo bs bh bw,by unfold P2;rw [length_append,length_cons,length_take,length_drop];omega,(V9 t0).trans ?_⟩
   rw [decide_eq_true c0,if_pos rfl,<-c0y]
   refine c0q (l:=dl (t6 h)) (pv:=.dat (tS o)) ?_ rfl rfl (by rw [a1r];exact hp) (by rw [a1r];omega)
   simp only [g0,d4,e8,fC,d5,List.getElem?_cons_zero,Option.bind_some,PV.t9,ev]
   exact eo
 . have hp':p0 < (t6 h).length:=by
     rcases Nat.lt_or_ge p0 (t6 h).length with z | z
     . exact z
     . exact absurd (.inr (by omega)) c0
   obtain ⟨l,el,hr,h0,h1⟩:=c5w H hp'
   have ix:∀ ds:Ds,ds[1]? = some (oS (dl (t6 h)))->ds[3]? = some (iD p0)->a1L 1 (d5 3) ds=some (.dat (tS l)):=fun ds e1 e3=>by
    have a:atI (dl (t6 h)) (p0:Int)=some (tS l):=by
     rw [O7 (n:=p0) rfl (by rw [a1r];exact hp')]
     unfold dl
     rw [List.getElem?_map,el]
     rfl
    unfold a1L
    simp only [e1,d5,e3,Option.bind_some,PV.t9,PV.a3g]
    rw [K5,a]
    rfl
   have st:∀ (F:Ds->Option PV) (x:List Str),F [some (.dat (scr ns)),oS (dl (t6 h)),iD way,iD p0,none,none]=some (.dat (tS x))->a2h 1 (d5 3) F [some (.dat (scr ns)),oS (dl (t6 h)),iD way,iD p0,none,none]=some (.next [some (.dat (scr ns)),oS (dl ((t6 h).set p0 x)),iD way,iD p0,none,none]):=fun F x hF=>by
    rw [<-c6E]
    exact c3G (l:=dl (t6 h)) hF rfl rfl (by rw [a1r];exact hp')
   have ks:∀ x,((t6 h).set p0 x).length<=100:=fun x=>by rw [List.length_set];omega
   by_cases c1:way=1
   . obtain ⟨x,ex,lx,bx⟩:=blank_eq hl hr
     refine ⟨_,p0,b4q H hp' h0 h1 lx bx,ks x,(V9 t0).trans ?_⟩
     rw [decide_eq_false c0,if_neg (by decide)]
     refine (V9 (a1F (a:=way) rfl)).trans ?_
     rw [decide_eq_true c1,if_pos rfl]
     refine st _ x ?_
     simp only [g0,d4,e8]
     rw [ix _ rfl rfl]
     simp only [d5,List.getElem?_cons_zero,Option.bind_some,PV.t9]
     exact ex
   . by_cases c2:way=2
     . obtain ⟨w,r,rfl,_⟩:=hr.cons
       obtain ⟨c,u,x,e1,e2,e3,e4,lx,bx⟩:=c2q hr
       have kl:=b4S hr.ln
       have a0:=b5B (z:=lnS (w::r)) (k:=0) (by omega) e1
       have sl:=a8o (z:=lnS (w::r)) (by omega) 1
       refine ⟨_,p0,b4q H hp' h0 h1 lx bx,ks x,(V9 t0).trans ?_⟩
       rw [decide_eq_false c0,if_neg (by decide)]
       refine (V9 (a1F (a:=way) rfl)).trans ?_
       rw [decide_eq_false c1,if_neg (by decide)]
       refine (V9 (a1F (a:=way) rfl)).trans ?_
       rw [decide_eq_true c2,if_pos rfl]
       refine st _ x ?_
       simp only [fOp,fUn,fSl,A5,D8,fC]
       rw [ix _ rfl rfl]
       simp only [Option.bind_some,PV.t9,a6m]
       rw [show ixD (tS (w::r)) (.int 0)=some (.dat (.str ⟨#[c]⟩)) from a0]
       simp only [Option.bind_some,PV.t9]
       have eu:a8b (.str ⟨#[c]⟩)=some (.dat (.str u)):=by
        show (if (Txt.upper ⟨#[c]⟩).length<=1000000 then some (PV.dat (.str (Txt.upper ⟨#[c]⟩))) else none)=_
        rw [e2,if_pos (by omega)]
       rw [eu]
       simp only [Option.bind_some,PV.t9]
       rw [show p7 (tS (w::r)) (some 1) none=_ from sl]
       simp only [Option.bind_some,PV.t9]
       have tl:(Txt.slice (lnS (w::r)) (some ((1:Nat):Int)) none).length<=92000:=by
        rw [u4,a6g,length_drop,<-u4]
        omega
       rw [M6 (by omega),e4]
     . by_cases c3:way=3
       . obtain ⟨v,ev,v0,v1⟩:=u7 (ns:=ns) (k:=810) (m:=2) hl (by decide) (by decide) (by decide)
         obtain ⟨p,rfl⟩:∃ p:Nat,v=(p:Int):=⟨v.toNat,by omega⟩
         refine ⟨(t6 h).take p,p,.inr ⟨rfl,by omega⟩,by rw [length_take];omega,(V9 t0).trans ?_⟩
         rw [decide_eq_false c0,if_neg (by decide)]
         refine (V9 (a1F (a:=way) rfl)).trans ?_
         rw [decide_eq_false c1,if_neg (by decide)]
         refine (V9 (a1F (a:=way) rfl)).trans ?_
         rw [decide_eq_false c2,if_neg (by decide)]
         refine (V9 (a1F (a:=way) rfl)).trans ?_
         rw [decide_eq_true c3,if_pos rfl]
         rw [m3 (ds':=[some (.dat (scr ns)),oS (dl (t6 h)),iD way,iD p,none,none]) (by
          refine A8 (pv:=.dat (.int p)) ?_
          simp only [g0,d4,e8,fC,d5,List.getElem?_cons_zero,Option.bind_some,PV.t9,ev])]
         have sl:p7 (.list (dl (t6 h))) none (some (p:Int))=some (.own (dl ((t6 h).take p))):=by
          show some (PV.own (cutD (dl (t6 h)) none (some (p:Int))))=_
          rw [a3t]
          unfold dl
          rw [map_take]
         generalize dl (t6 h)=LL at *
         generalize dl ((t6 h).take p)=L2 at *
         walk_at "w"
         rw [sl]
         rfl
       . obtain ⟨x,ex,lx,bx⟩:=c4W hl hr
         refine ⟨_,p0,b4q H hp' h0 h1 lx bx,ks x,(V9 t0).trans ?_⟩
         rw [decide_eq_false c0,if_neg (by decide)]
         refine (V9 (a1F (a:=way) rfl)).trans ?_
         rw [decide_eq_false c1,if_neg (by decide)]
         refine (V9 (a1F (a:=way) rfl)).trans ?_
         rw [decide_eq_false c2,if_neg (by decide)]
         refine (V9 (a1F (a:=way) rfl)).trans ?_
         rw [decide_eq_false c3,if_neg (by decide)]
         refine st _ x ?_
         simp only [g0,d4,e8]
         rw [ix _ rfl rfl]
         simp only [d5,List.getElem?_cons_zero,Option.bind_some,PV.t9]
         exact ex
theorem c7q (i j:Int):minD [.int i,.int j]=some (.dat (.int (if j < i then j else i))):=rfl
theorem b7k {ns:List Int} (hl:ns.length<=63) {h:C3} (H:H5 h) {way:Int} {R:List (List Str)} {p:Nat} (s:Sp h R p 50) (kR:R.length<=100) :
  ∃ R' y4 y5,Sp h R' p 60/\(gIf (m4 (fOp v5 (g0 i5 (d4 (d5 0) (d4 (fC (.int 811)) (d4 (fC (.int 2)) e8)))) (fC (.int 0)))) (i8 (j6 4 (fOp m5 (fOp m5 (d5 3) (fC (.int 1))) (g0 i5 (d4 (d5 0) (d4 (fC (.int 812)) (d4 (fC (.int 9)) e8)))))) (i8 (j6 5 (g0 V1 (d4 (g0 i5 (d4 (d5 0) (d4 (fC (.int 813)) (d4 (fC (.int 63)) e8)))) e8))) (a8U 1 (fLF (U1 (g0 minD (d4 (g0 H0 (d4 (d5 1) e8)) (d4 (d5 4) e8))))) (d5 5)))) o8) [some (.dat (scr ns)),oS (dl R),iD way,iD p,none,none]=some (.next [some (.dat (scr ns)),oS (dl R'),iD way,iD p,y4,y5]):=by
 obtain ⟨u,eu,u0,u1⟩:=u7 (ns:=ns) (k:=811) (m:=2) hl (by decide) (by decide) (by decide)
 obtain ⟨t,et,t0,t1⟩:=u7 (ns:=ns) (k:=812) (m:=9) hl (by decide) (by decide) (by decide)
 obtain ⟨v,ev,v0,v1⟩:=u7 (ns:=ns) (k:=813) (m:=63) hl (by decide) (by decide) (by decide)
 obtain ⟨o,eo,lo,bs,bh,bw⟩:=b9K v0 v1
 obtain ⟨t',rfl⟩:∃ t':Nat,t=(t':Int):=⟨t.toNat,by omega⟩
 have tt:(m4 (fOp v5 (g0 i5 (d4 (d5 0) (d4 (fC (.int 811)) (d4 (fC (.int 2)) e8)))) (fC (.int 0)))) [some (.dat (scr ns)),oS (dl R),iD way,iD p,none,none]=some (decide (u=0)):=by
  simp only [m4,fOp,g0,d4,e8,fC,d5,List.getElem?_cons_zero,Option.bind_some,PV.t9,eu,a4J,a3c]
 by_cases c:u=0
 . refine ⟨_,iD ((p:Int) + 1 + (t':Int)),some (.dat (tS o)),c5q H (t:=t') s lo bs bh bw,(V9 tt).trans ?_⟩
   rw [decide_eq_true c,if_pos rfl]
   rw [m3 (ds':=[some (.dat (scr ns)),oS (dl R),iD way,iD p,iD ((p:Int) + 1 + (t':Int)),none]) (by
    refine A8 (pv:=.dat (.int ((p:Int) + 1 + (t':Int)))) ?_
    simp only [fOp,g0,d4,e8,fC,d5,List.getElem?_cons_zero,List.getElem?_cons_succ,Option.bind_some,PV.t9,et,a1O])]
   rw [m3 (ds':=[some (.dat (scr ns)),oS (dl R),iD way,iD p,iD ((p:Int) + 1 + (t':Int)),some (.dat (tS o))]) (by
    refine A8 (pv:=.dat (tS o)) ?_
    simp only [g0,d4,e8,fC,d5,List.getElem?_cons_zero,List.getElem?_cons_succ,Option.bind_some,PV.t9,ev]
    exact eo)]
   rw [<-c0y]
   refine c0q (k:=min R.length (p + 1 + t')) (l:=dl R) (pv:=.dat (tS o)) rfl ?_ rfl (by rw [a1r];omega) (by rw [a1r];omega)
   have mi:(if (p:Int) + 1 + (t':Int) < (R.length:Int) then (p:Int) + 1 + (t':Int) else (R.length:Int))=((min R.length (p + 1 + t'):Nat):Int):=by
    split <;> omega
   have mn:minD [.int ((dl R).length:Nat),.int ((p:Int) + 1 + (t':Int))]=some (.dat (.int ((min R.length (p + 1 + t'):Nat):Int))):=by
    rw [c7q,a1r,mi]
   clear mi
   generalize dl R=LL at *
   generalize ((min R.length (p + 1 + t'):Nat):Int)=mm at *
   simp only [fLF]
   walk_at "w"
   rw [mn]
   walk_at "w"
   rfl
 . refine ⟨R,none,none,?_,(V9 tt).trans ?_⟩
   . rcases s with ⟨x,tl,s⟩ | s
     . exact .inl ⟨x,tl,s.e,s.hp,s.lx,s.lt,by have:=s.kt;omega,s.b0,s.b1⟩
     . exact .inr s
   . rw [decide_eq_false c,if_neg (by decide)]
     rfl
theorem b8U {ns:List Int} (hl:ns.length<=63) {h:C3} (H:H5 h):∃ R p,Y3 [scr ns,.list (Z9 h)]=some (.dat (.tuple [.list (dl R),.int ((p:Nat):Int)]))/\Sp h R p 60:=by
 obtain ⟨a1,a2⟩:=a6o H
 obtain ⟨way,ew,w0,w1⟩:=u7 (ns:=ns) (k:=807) (m:=6) hl (by decide) (by decide) (by decide)
 obtain ⟨q,eq,q0,q1⟩:=u7 (ns:=ns) (k:=808) (m:=((t6 h).length:Nat) + 1) hl (by decide) (by decide) (by omega)
 obtain ⟨p0,rfl⟩:∃ p0:Nat,q=(p0:Int):=⟨q.toNat,by omega⟩
 obtain ⟨R,p,s,kR,e4⟩:=b7l (ns:=ns) hl H w0 w1 (show p0<=(t6 h).length by omega)
 obtain ⟨R',y4,y5,s',e5⟩:=b7k (ns:=ns) hl H (way:=way) s kR
 refine ⟨R',p,?_,s'⟩
 have eL:Z9 h=dl (t6 h):=rfl
 rw [eL]
 unfold Y3
 change (i8 _ _ [some (.dat (scr ns)),some (.dat (.list (dl (t6 h)))),none,none,none,none]).bind a6G=_
 rw [m3 (ds':=[some (.dat (scr ns)),some (.dat (.list (dl (t6 h)))),iD way,none,none,none]) (by
  refine A8 (pv:=.dat (.int way)) ?_
  simp only [g0,d4,e8,fC,d5,List.getElem?_cons_zero,Option.bind_some,PV.t9,ew])]
 have k1:(dl (t6 h)).length<=1000:=by rw [a1r];omega
 rw [m3 (ds':=[some (.dat (scr ns)),oS (dl (t6 h)),iD way,none,none,none]) (by
  generalize dl (t6 h)=LL at *
  walk_at "w"
  try rw [if_pos (by omega)]
  try walk_at "w")]
 rw [m3 (ds':=[some (.dat (scr ns)),oS (dl (t6 h)),iD way,iD p0,none,none]) (by
  refine A8 (pv:=.dat (.int p0)) ?_
  have eq':i5 [scr ns,.int 808,.int (((dl (t6 h)).length:Nat) + 1)]=some (.dat (.int p0)):=by rw [a1r];exact eq
  generalize dl (t6 h)=LL at *
  simp only [fLF]
  walk_at "w"
  rw [eq']
  walk_at "w"
  rfl)]
 rw [m3 e4,m3 e5]
 generalize dl R'=LL
 walk_at "w"
theorem b7s (cE:Addr) {L:List PyData} {p:Nat} (h:O8 cE [.list L]=some (.inr (a0d cE "place" (.int (p:Int))))):M8 cE [.list L]=some (.dat (.int (p:Int))):=by
 unfold M8
 walk_at "w"
 rw [h]
 walk_at "w"
theorem same_int (p:Int):V5 [.int p,.int p]=some (.dat (.bool true)):=a8u 4 _ rfl
theorem c2i:∀ (cE:Addr) (ns:List Int),ns.length<=63->a4a cE [.list (ns.map .int)]=some (.dat (.bool true)):=by
 intro cE ns hl
 obtain ⟨h,eh,H⟩:=c6z (ns:=ns) hl
 obtain ⟨pv,el,hpv⟩:=c0h H
 obtain ⟨R,p,es,s⟩:=b8U (ns:=ns) hl H
 have er:=c3M H
 have rf:=b7s cE (c3A cE H s)
 have s2:V5 [a0E h,a0E h]=some (.dat (.bool true)):=a8u 4 _ (b9E h H)
 have s1:=same_int (p:Int)
 generalize Z9 h=LD at *
 generalize a0E h=HD at *
 generalize dl R=RL at *
 unfold a4a
 walk_at "w"
 rw [eh]
 walk_at "w"
 rw [el]
 simp only [a5h,a1Q,a9J,hpv]
 walk_at "w"
 rw [es]
 walk_at "w"
 rw [rf]
 walk_at "w"
 rw [s1]
 walk_at "w"
 rw [er]
 walk_at "w"
 rw [s2]
 try walk_at "w"
end Law
set_option maxHeartbeats 4000000
local macro_rules | `(tactic| walk_at "s") => `(tactic| simp only [L2.c1j, L2.a5q, L2.c1m, L2.b7c, L2.b7f, L2.tOp, L2.b7b, L2.tB, L2.b7e, L2.c7G, L2.tOr, L2.b7h, L2.c7E, L2.c6X, L2.tUn, L2.tCB, L2.a1w, L2.a8j, L2.Z5, L2.tC, L2.tIf, L2.a4W, L2.c1i, L2.c1l, L2.c1k, L2.tSl, L2.b2b, L2.b7d, L2.b7g, L2.a0u, L2.b5e, L2.a9L, L2.b5f, L2.rI, L2.rI0, L2.rU, L2.rEq, L2.rNe, L2.c1E, L2.c1D, L2.c1x, L2.c1w, L2.c3J, L2.start, L2.a0O, L2.c7W, L2.c7V, L2.a9v,
 L2.V.int.injEq,L2.V.ref.injEq,L2.V.bl.injEq,L2.V.str.injEq,L2.V.ty.injEq,List.cons.injEq,Option.some.injEq,reduceCtorEq,and_true,true_and,and_false,false_and,exists_eq_left,exists_eq_left',exists_and_left,L2.ex2,exists_false,exists_const,exists_eq',exists_eq,or_false,false_or,
 map_cons,map_nil,length_cons,length_nil,length_map,List.replicate,cons_append,nil_append,append_nil,set_cons_zero,set_cons_succ,List.getElem?_cons_zero,List.getElem?_cons_succ,length_append,length_singleton,
 decide_eq_true_eq,decide_eq_false_iff_not,Bool.not_eq_true',Bool.false_eq_true,if_true,if_false,ne_eq,not_true_eq_false,not_false_eq_true,Bool.not_true,Bool.not_false,decide_true,decide_false,Nat.reduceAdd,Nat.reduceSub,L2.isI,L2.b2a,String.reduceBEq,Bool.true_or,Bool.false_or,Bool.or_true,Bool.or_false,Bool.and_true,Bool.true_and,Bool.and_false,Bool.false_and])
local macro_rules | `(tactic| walk_at "g") => `(tactic| repeat ((first | refine ⟨_, (by assumption), _, rfl, ?_⟩ | refine ⟨⟨(by assumption), (by assumption)⟩, ?_⟩); (try walk_at "s")))
local macro_rules | `(tactic| walk_at "i") => `(tactic| repeat ((refine ⟨_, (by assumption), (by assumption), ?_⟩); (try walk_at "s")))
namespace Law
open PySem L2
noncomputable def top (i:Nat):Stmt:=PySem.Challenge.pw_sunstore_k06_lines_that_never_stand.main.body.getD i (.Pass ⟨0,0,0,0⟩)
noncomputable abbrev E8:Stmt:=top 10
theorem Z3:o9 ["one","other","rest"] ["one","other"] (e9 E8):=⟨rfl,rfl,rfl,by decide +kernel,rfl,by decide +kernel,by decide +kernel⟩
noncomputable abbrev T8:Stmt:=top 11
theorem a5t:o9 ["top","bottom","divisor"] ["top","bottom"] (e9 T8):=⟨rfl,rfl,rfl,by decide +kernel,rfl,by decide +kernel,by decide +kernel⟩
noncomputable abbrev N9:Stmt:=top 12
theorem a0y:o9 ["number","piece","pieces","rest"] ["number"] (e9 N9):=⟨rfl,rfl,rfl,by decide +kernel,rfl,by decide +kernel,by decide +kernel⟩
noncomputable abbrev X0:Stmt:=top 13
theorem a3U:o9 ["one","text"] ["one"] (e9 X0):=⟨rfl,rfl,rfl,by decide +kernel,rfl,by decide +kernel,by decide +kernel⟩
noncomputable abbrev J9:Stmt:=top 14
theorem a4Y:o9 ["text","sign"] ["text"] (e9 J9):=⟨rfl,rfl,rfl,by decide +kernel,rfl,by decide +kernel,by decide +kernel⟩
noncomputable abbrev M0:Stmt:=top 15
theorem a5X:o9 ["text","number"] ["text"] (e9 M0):=⟨rfl,rfl,rfl,by decide +kernel,rfl,by decide +kernel,by decide +kernel⟩
noncomputable abbrev G6:Stmt:=top 16
theorem P4:o9 ["text","parts","top","bottom","one"] ["text"] (e9 G6):=⟨rfl,rfl,rfl,by decide +kernel,rfl,by decide +kernel,by decide +kernel⟩
noncomputable abbrev N3:Stmt:=top 24
theorem a7H:o9 ["word","least","one"] ["word","least"] (e9 N3):=⟨rfl,rfl,rfl,by decide +kernel,rfl,by decide +kernel,by decide +kernel⟩
noncomputable abbrev M1:Stmt:=top 25
theorem b2f:o9 ["word"] ["word"] (e9 M1):=⟨rfl,rfl,rfl,by decide +kernel,rfl,by decide +kernel,by decide +kernel⟩
noncomputable abbrev N6:Stmt:=top 26
theorem b3y:o9 ["word"] ["word"] (e9 N6):=⟨rfl,rfl,rfl,by decide +kernel,rfl,by decide +kernel,by decide +kernel⟩
noncomputable abbrev N5:Stmt:=top 27
theorem a7J:o9 ["word","one"] ["word"] (e9 N5):=⟨rfl,rfl,rfl,by decide +kernel,rfl,by decide +kernel,by decide +kernel⟩
noncomputable abbrev Q3:Stmt:=top 28
theorem a8s:o9 ["word","sign"] ["word"] (e9 Q3):=⟨rfl,rfl,rfl,by decide +kernel,rfl,by decide +kernel,by decide +kernel⟩
noncomputable abbrev N7:Stmt:=top 33
theorem a7K:o9 ["words","readers","parts"] ["words","readers"] (e9 N7):=⟨rfl,rfl,rfl,by decide +kernel,rfl,by decide +kernel,by decide +kernel⟩
noncomputable abbrev N4:Stmt:=top 34
theorem a7I:o9 ["words","store"] ["words"] (e9 N4):=⟨rfl,rfl,rfl,by decide +kernel,rfl,by decide +kernel,by decide +kernel⟩
noncomputable abbrev Q4:Stmt:=top 35
theorem a4n:o9 ["words","amounts","line"] ["words"] (e9 Q4):=⟨rfl,rfl,rfl,by decide +kernel,rfl,by decide +kernel,by decide +kernel⟩
noncomputable abbrev Q0:Stmt:=top 36
theorem a8r:o9 ["words","hours","work"] ["words","hours"] (e9 Q0):=⟨rfl,rfl,rfl,by decide +kernel,rfl,by decide +kernel,by decide +kernel⟩
noncomputable abbrev N8:Stmt:=top 37
theorem a1x:o9 ["rows","hours","words","hour"] ["rows"] (e9 N8):=⟨rfl,rfl,rfl,by decide +kernel,rfl,by decide +kernel,by decide +kernel⟩
noncomputable abbrev N1:Stmt:=top 38
theorem a0x:o9 ["rows","hours","works","names","words","work"] ["rows","hours"] (e9 N1):=⟨rfl,rfl,rfl,by decide +kernel,rfl,by decide +kernel,by decide +kernel⟩
noncomputable abbrev a1U:Stmt:=top 39
theorem W8:o9 ["lines","rows","store","hours","works","place"] ["lines"] (e9 a1U):=⟨rfl,rfl,rfl,by decide +kernel,rfl,by decide +kernel,by decide +kernel⟩
noncomputable abbrev a0q:Stmt:=top 41
theorem a4Z:o9 ["_law_script","_law_k","_law_many","_law_cell","_law_mixed"] ["_law_script","_law_k","_law_many"] (e9 a0q):=⟨rfl,rfl,rfl,by decide +kernel,rfl,by decide +kernel,by decide +kernel⟩
noncomputable abbrev a0o:Stmt:=top 42
theorem b8Z:o9 ["_law_found","_law_due"] ["_law_found","_law_due"] (e9 a0o):=⟨rfl,rfl,rfl,by decide +kernel,rfl,by decide +kernel,by decide +kernel⟩
noncomputable abbrev T7:Stmt:=top 43
theorem a9W:o9 ["_law_one","_law_other"] ["_law_one","_law_other"] (e9 T7):=⟨rfl,rfl,rfl,by decide +kernel,rfl,by decide +kernel,by decide +kernel⟩
noncomputable abbrev T6:Stmt:=top 44
theorem a5s:o9 ["_law_top","_law_bottom","_law_both"] ["_law_top","_law_bottom"] (e9 T6):=⟨rfl,rfl,rfl,by decide +kernel,rfl,by decide +kernel,by decide +kernel⟩
noncomputable abbrev T5:Stmt:=top 45
theorem a9V:o9 ["_law_script","_law_k","_law_most","_law_way"] ["_law_script","_law_k","_law_most"] (e9 T5):=⟨rfl,rfl,rfl,by decide +kernel,rfl,by decide +kernel,by decide +kernel⟩
noncomputable abbrev X2:Stmt:=top 46
theorem b7p:o9 ["_law_script","_law_k"] ["_law_script","_law_k"] (e9 X2):=⟨rfl,rfl,rfl,by decide +kernel,rfl,by decide +kernel,by decide +kernel⟩
noncomputable abbrev X1:Stmt:=top 47
theorem b1o:o9 ["_law_script","_law_k","_law_bottom"] ["_law_script","_law_k"] (e9 X1):=⟨rfl,rfl,rfl,by decide +kernel,rfl,by decide +kernel,by decide +kernel⟩
noncomputable abbrev X3:Stmt:=top 48
theorem P9:o9 ["_law_script","_law_k","_law_many","_law_letters","_law_word","_law_names_here","_law_size","_law_at","_law_j","_law_sign"] ["_law_script","_law_k","_law_many"] (e9 X3):=⟨rfl,rfl,rfl,by decide +kernel,rfl,by decide +kernel,by decide +kernel⟩
noncomputable abbrev Q6:Stmt:=top 49
theorem a8t:o9 ["_law_script","_law_k","_law_buy"] ["_law_script","_law_k"] (e9 Q6):=⟨rfl,rfl,rfl,by decide +kernel,rfl,by decide +kernel,by decide +kernel⟩
noncomputable abbrev X5:Stmt:=top 50
theorem C5:o9 ["_law_script","_law_many","_law_hours","_law_t","_law_k","_law_sun","_law_size","_law_start","_law_store","_law_works","_law_names_here","_law_j","_law_first","_law_last","_law_amount"] ["_law_script"] (e9 X5):=⟨rfl,rfl,rfl,by decide +kernel,rfl,by decide +kernel,by decide +kernel⟩
noncomputable abbrev Q5:Stmt:=top 51
theorem b4t:o9 ["_law_one"] ["_law_one"] (e9 Q5):=⟨rfl,rfl,rfl,by decide +kernel,rfl,by decide +kernel,by decide +kernel⟩
noncomputable abbrev a0p:Stmt:=top 52
theorem b9a:o9 ["_law_words"] ["_law_words"] (e9 a0p):=⟨rfl,rfl,rfl,by decide +kernel,rfl,by decide +kernel,by decide +kernel⟩
noncomputable abbrev X4:Stmt:=top 53
theorem T3:o9 ["_law_house_here","_law_hours","_law_store","_law_works","_law_shares","_law_lines_here","_law_sun","_law_need","_law_line_here"] ["_law_house_here"] (e9 X4):=⟨rfl,rfl,rfl,by decide +kernel,rfl,by decide +kernel,by decide +kernel⟩
noncomputable abbrev a1c:Stmt:=top 54
theorem G8:o9 ["_law_cell","_law_some"] ["_law_cell"] (e9 a1c):=⟨rfl,rfl,rfl,by decide +kernel,rfl,by decide +kernel,by decide +kernel⟩
noncomputable abbrev X6:Stmt:=top 55
theorem a3V:o9 ["_law_script","_law_line_here","_law_way","_law_at","_law_k"] ["_law_script","_law_line_here"] (e9 X6):=⟨rfl,rfl,rfl,by decide +kernel,rfl,by decide +kernel,by decide +kernel⟩
noncomputable abbrev a0r:Stmt:=top 56
theorem a0T:o9 ["_law_script","_law_line_here","_law_words","_law_way","_law_at","_law_k","_law_old","_law_some"] ["_law_script","_law_line_here"] (e9 a0r):=⟨rfl,rfl,rfl,by decide +kernel,rfl,by decide +kernel,by decide +kernel⟩
noncomputable abbrev T4:Stmt:=top 57
theorem U2:o9 ["_law_script","_law_lines_here","_law_way","_law_place","_law_far","_law_more"] ["_law_script","_law_lines_here"] (e9 T4):=⟨rfl,rfl,rfl,by decide +kernel,rfl,by decide +kernel,by decide +kernel⟩
noncomputable abbrev K0:Stmt:=top 58
theorem a0L:o9 ["_law_lines_here","_law_found","e"] ["_law_lines_here"] (e9 K0):=⟨rfl,rfl,rfl,by decide +kernel,rfl,by decide +kernel,by decide +kernel⟩
noncomputable abbrev a1y:Stmt:=top 59
theorem b1n:o9 ["_law_script","_law_house_here","_law_lines_here","_law_spoilt_here"] ["_law_script"] (e9 a1y):=⟨rfl,rfl,rfl,by decide +kernel,rfl,by decide +kernel,by decide +kernel⟩
noncomputable abbrev a1V:Stmt:=inClass (top 3) 0
theorem c3K:o9 ["self","place"] ["self","place"] (e9 a1V):=⟨rfl,rfl,rfl,by decide +kernel,rfl,by decide +kernel,by decide +kernel⟩
theorem b3P:bootBuiltins "ValueError" = some (.type "ValueError"):=by decide +kernel
theorem b1S:bootBuiltins "abs" = some (.builtin "abs"):=by decide +kernel
theorem c6J:bootBuiltins "all" = some (.builtin "all"):=by decide +kernel
theorem a9R:bootBuiltins "bool" = some (.type "bool"):=by decide +kernel
theorem b5v:bootBuiltins "int" = some (.type "int"):=by decide +kernel
theorem u5:bootBuiltins "isinstance" = some (.builtin "isinstance"):=by decide +kernel
theorem E6:bootBuiltins "len" = some (.builtin "len"):=by decide +kernel
theorem a9Q:bootBuiltins "list" = some (.type "list"):=by decide +kernel
theorem c6I:bootBuiltins "min" = some (.builtin "min"):=by decide +kernel
theorem a4L:bootBuiltins "str" = some (.type "str"):=by decide +kernel
theorem Z2:bootBuiltins "tuple" = some (.type "tuple"):=by decide +kernel
structure Ads where
 a1K:Addr
 a1m:FuncData
 a7n:Addr
 a5C:FuncData
 a4H:Addr
 a3L:FuncData
 a9a:Addr
 a7b:FuncData
 a2X:Addr
 a2m:FuncData
 a3M:Addr
 a2V:FuncData
 a2q:Addr
 a1J:FuncData
 a4D:Addr
 a3F:FuncData
 a1E:Addr
 a2W:FuncData
 a2p:Addr
 a3I:FuncData
 a2o:Addr
 a3H:FuncData
 a3f:Addr
 a4y:FuncData
 a4F:Addr
 a3J:FuncData
 a4E:Addr
 a3G:FuncData
 a5E:Addr
 a4z:FuncData
 a5D:Addr
 a4x:FuncData
 a4G:Addr
 a3K:FuncData
 a4C:Addr
 a3E:FuncData
 b1Q:Addr
 a9M:FuncData
 b0N:Addr
 a8Y:FuncData
 a7j:Addr
 a5l:FuncData
 a7m:Addr
 a5B:FuncData
 a7l:Addr
 a5A:FuncData
 a7k:Addr
 a5z:FuncData
 a9c:Addr
 a7d:FuncData
 a9b:Addr
 a7c:FuncData
 a9d:Addr
 a7e:FuncData
 a5G:Addr
 a4B:FuncData
 a9f:Addr
 a7g:FuncData
 a5F:Addr
 a4A:FuncData
 b0M:Addr
 a8X:FuncData
 a9e:Addr
 a7f:FuncData
 b2B:Addr
 b0L:FuncData
 a9g:Addr
 a7h:FuncData
 b0O:Addr
 a8Z:FuncData
 a7i:Addr
 a5y:FuncData
 a2Y:Addr
 a2n:FuncData
 b8l:Addr
 b5j:FuncData
 b2S:Value
 b2O:V
 a8h:Value
 a8a:V
 b2R:Value
 b2N:V
 a8g:Value
 a7Z:V
 a7G:Value
 a7C:V
 a5T:Value
 a5R:V
 a8f:Value
 a7Y:V
 a5S:Value
 a5Q:V
 a7F:Value
 a7B:V
 a8e:Value
 a7X:V
 a7E:Value
 a7A:V
 a8d:Value
 a7W:V
 o6:Addr
 A1:Addr
 O6:Addr
 J5:Addr
 O5:Addr
 V6:Addr
 a2r:Addr
 a9N:FuncData
structure Txt (K:PySem.W.Frag) (mg:Str->Option Value) (a:Ads):Prop where
 J4:Fun K "common_divisor" "common_divisor" E8 a.a1K a.a1m
 b0D:mg "common_divisor" = some (.ref a.a1K)
 b1a:Binds K a.a1m ["one","other"] []
 Y7:Fun K "fraction" "fraction" T8 a.a7n a.a5C
 b8a:mg "fraction" = some (.ref a.a7n)
 b8r:Binds K a.a5C ["top","bottom"] []
 L9:Fun K "figures_of" "figures_of" N9 a.a4H a.a3L
 a8M:mg "figures_of" = some (.ref a.a4H)
 a9q:Binds K a.a3L ["number"] []
 a0k:Fun K "written" "written" X0 a.a9a a.a7b
 b9X:mg "written" = some (.ref a.a9a)
 c0K:Binds K a.a7b ["one"] []
 B5:Fun K "read_figures" "read_figures" J9 a.a2X a.a2m
 a2J:mg "read_figures" = some (.ref a.a2X)
 a3b:Binds K a.a2m ["text"] []
 O9:Fun K "read_signed" "read_signed" M0 a.a3M a.a2V
 b3C:mg "read_signed" = some (.ref a.a3M)
 b3Q:Binds K a.a2V ["text"] []
 C9:Fun K "read_fraction" "read_fraction" G6 a.a2q a.a1J
 a5g:mg "read_fraction" = some (.ref a.a2q)
 a5o:Binds K a.a1J ["text"] []
 C8:Fun K "read_whole" "read_whole" N3 a.a4D a.a3F
 a8J:mg "read_whole" = some (.ref a.a4D)
 a9n:Binds K a.a3F ["word","least"] []
 D4:Fun K "read_amount" "read_amount" M1 a.a1E a.a2W
 c5b:mg "read_amount" = some (.ref a.a1E)
 b3R:Binds K a.a2W ["word"] []
 L8:Fun K "read_price" "read_price" N6 a.a2p a.a3I
 c6l:mg "read_price" = some (.ref a.a2p)
 b5A:Binds K a.a3I ["word"] []
 L7:Fun K "read_share" "read_share" N5 a.a2o a.a3H
 c6k:mg "read_share" = some (.ref a.a2o)
 b5z:Binds K a.a3H ["word"] []
 J6:Fun K "read_name" "read_name" Q3 a.a3f a.a4y
 c6O:mg "read_name" = some (.ref a.a3f)
 b6f:Binds K a.a4y ["word"] []
 o5:Fun K "read_parts" "read_parts" N7 a.a4F a.a3J
 a2c:mg "read_parts" = some (.ref a.a4F)
 a2w:Binds K a.a3J ["words","readers"] []
 z9:Fun K "read_store" "read_store" N4 a.a4E a.a3G
 a8K:mg "read_store" = some (.ref a.a4E)
 a9o:Binds K a.a3G ["words"] []
 A7:Fun K "read_hour" "read_hour" Q4 a.a5E a.a4z
 b5Y:mg "read_hour" = some (.ref a.a5E)
 b6g:Binds K a.a4z ["words"] []
 E3:Fun K "read_work" "read_work" Q0 a.a5D a.a4x
 b5X:mg "read_work" = some (.ref a.a5D)
 b6e:Binds K a.a4x ["words","hours"] []
 B9:Fun K "read_hours" "read_hours" N8 a.a4G a.a3K
 a8L:mg "read_hours" = some (.ref a.a4G)
 a9p:Binds K a.a3K ["rows"] []
 C7:Fun K "read_works" "read_works" N1 a.a4C a.a3E
 a8I:mg "read_works" = some (.ref a.a4C)
 a9m:Binds K a.a3E ["rows","hours"] []
 a1u:Fun K "read" "read" a1U a.b1Q a.a9M
 b9Y:mg "read" = some (.ref a.b1Q)
 c0L:Binds K a.a9M ["lines"] []
 i5:Fun K "_law_draw" "_law_draw" a0q a.b0N a.a8Y
 p9:mg "_law_draw" = some (.ref a.b0N)
 q5:Binds K a.a8Y ["_law_script","_law_k","_law_many"] []
 V5:Fun K "_law_same" "_law_same" a0o a.a7j a.a5l
 b0C:mg "_law_same" = some (.ref a.a7j)
 b0Z:Binds K a.a5l ["_law_found","_law_due"] []
 Y5:Fun K "_law_common" "_law_common" T7 a.a7m a.a5B
 b7Z:mg "_law_common" = some (.ref a.a7m)
 b8q:Binds K a.a5B ["_law_one","_law_other"] []
 Y4:Fun K "_law_lowest" "_law_lowest" T6 a.a7l a.a5A
 b7Y:mg "_law_lowest" = some (.ref a.a7l)
 b8p:Binds K a.a5A ["_law_top","_law_bottom"] []
 p6:Fun K "_law_number" "_law_number" T5 a.a7k a.a5z
 O1:mg "_law_number" = some (.ref a.a7k)
 O3:Binds K a.a5z ["_law_script","_law_k","_law_most"] []
 U7:Fun K "_law_price" "_law_price" X2 a.a9c a.a7d
 b3d:mg "_law_price" = some (.ref a.a9c)
 b3p:Binds K a.a7d ["_law_script","_law_k"] []
 U6:Fun K "_law_share" "_law_share" X1 a.a9b a.a7c
 b3c:mg "_law_share" = some (.ref a.a9b)
 b3o:Binds K a.a7c ["_law_script","_law_k"] []
 a0l:Fun K "_law_names" "_law_names" X3 a.a9d a.a7e
 b9Z:mg "_law_names" = some (.ref a.a9d)
 c0M:Binds K a.a7e ["_law_script","_law_k","_law_many"] []
 U8:Fun K "_law_line_of" "_law_line_of" Q6 a.a5G a.a4B
 b5Z:mg "_law_line_of" = some (.ref a.a5G)
 b6h:Binds K a.a4B ["_law_script","_law_k"] []
 a0n:Fun K "_law_house" "_law_house" X5 a.a9f a.a7g
 c0b:mg "_law_house" = some (.ref a.a9f)
 c0O:Binds K a.a7g ["_law_script"] []
 M9:Fun K "_law_text_of" "_law_text_of" Q5 a.a5F a.a4A
 a9Z:mg "_law_text_of" = some (.ref a.a5F)
 b0f:Binds K a.a4A ["_law_one"] []
 J3:Fun K "_law_line" "_law_line" a0p a.b0M a.a8X
 a6P:mg "_law_line" = some (.ref a.b0M)
 a7t:Binds K a.a8X ["_law_words"] []
 a0m:Fun K "_law_lines" "_law_lines" X4 a.a9e a.a7f
 c0a:mg "_law_lines" = some (.ref a.a9e)
 c0N:Binds K a.a7f ["_law_house_here"] []
 V1:Fun K "_law_odd" "_law_odd" a1c a.b2B a.b0L
 b6F:mg "_law_odd" = some (.ref a.b2B)
 b6Q:Binds K a.b0L ["_law_cell"] []
 Y6:Fun K "_law_blank" "_law_blank" X6 a.a9g a.a7h
 c0c:mg "_law_blank" = some (.ref a.a9g)
 c0P:Binds K a.a7h ["_law_script","_law_line_here"] []
 a0v:Fun K "_law_bent" "_law_bent" a0r a.b0O a.a8Z
 c2c:mg "_law_bent" = some (.ref a.b0O)
 c2H:Binds K a.a8Z ["_law_script","_law_line_here"] []
 Y3:Fun K "_law_spoilt" "_law_spoilt" T4 a.a7i a.a5y
 b7X:mg "_law_spoilt" = some (.ref a.a7i)
 b8o:Binds K a.a5y ["_law_script","_law_lines_here"] []
 M8:Fun K "_law_refused_at" "_law_refused_at" K0 a.a2Y a.a2n
 b2l:mg "_law_refused_at" = some (.ref a.a2Y)
 b2D:Binds K a.a2n ["_law_lines_here"] []
 a4a:Fun K "law" "law" a1y a.b8l a.b5j
 c7Y:mg "law" = some (.ref a.b8l)
 c7Z:Binds K a.b5j ["_law_script"] []
 b3N:PySem.W.nsIn K mainGlobals "read_amount" = some (some (.ref a.a1E))
 b6b:PySem.W.nsIn K mainGlobals "read_name" = some (some (.ref a.a3f))
 b5d:PySem.W.nsIn K mainGlobals "read_price" = some (some (.ref a.a2p))
 b5c:PySem.W.nsIn K mainGlobals "read_share" = some (some (.ref a.a2o))
 b4Q:mg "ValueError" = none
 b3Z:mg "abs" = none
 c7o:mg "all" = none
 b1C:mg "bool" = none
 b7R:mg "int" = none
 v9:mg "isinstance" = none
 K9:mg "len" = none
 b1B:mg "list" = none
 c7n:mg "min" = none
 a2I:mg "range" = none
 a6O:mg "str" = none
 a0J:mg "tuple" = none
 c3f:mg "zip" = none
 a4V:mg "NoText" = some (.ref a.o6)
 a7z:mg "StoreError" = some (.ref a.A1)
 b5K:mg "NoKeeper" = some (.ref a.O6)
 b3u:mg "NoFraction" = some (.ref a.J5)
 b5J:mg "NoPrices" = some (.ref a.O5)
 b8J:mg "NoLine" = some (.ref a.V6)
 xK:a5K K a.o6 a.A1 a.a2r "place"
 xC:a2z K a.o6
 xk:PySem.W.keepIn K (.ref a.o6)=true
 xF:Fun K "__init__" "NoText.__init__" a1V a.a2r a.a9N
 xb:Binds K a.a9N ["self","place"] []
 a0a:PySem.W.kitOne K (.ref a.o6) (.type "ValueError")=some true
 X9:PySem.W.kitOne K (.type "NoneType") (.type "ValueError")=some false
 a0b:PySem.W.kitOne K (.ref a.o6) (.ref a.A1)=some true
 Y0:PySem.W.kitOne K (.type "NoneType") (.ref a.A1)=some false
 a0W:PySem.W.kitOne K (.ref a.o6) (.ref a.O6)=some false
 a0D:PySem.W.kitOne K (.type "NoneType") (.ref a.O6)=some false
 a0c:PySem.W.kitOne K (.ref a.o6) (.ref a.J5)=some false
 Y1:PySem.W.kitOne K (.type "NoneType") (.ref a.J5)=some false
 a0V:PySem.W.kitOne K (.ref a.o6) (.ref a.O5)=some false
 a0C:PySem.W.kitOne K (.type "NoneType") (.ref a.O5)=some false
 a2d:PySem.W.kitOne K (.ref a.o6) (.ref a.V6)=some false
 a1q:PySem.W.kitOne K (.type "NoneType") (.ref a.V6)=some false
 b8N:mg "FIGURES" = some a.b2S/\RelV a.b2O a.b2S/\∀ H,Dt K H a.b2O a9k
 b4n:mg "HOUR_PARTS" = some a.a8h/\RelV a.a8a a.a8h/\∀ H,Dt K H a.a8a R7
 b8M:mg "LETTERS" = some a.b2R/\RelV a.b2N a.b2R/\∀ H,Dt K H a.b2N a5n
 b4m:mg "LINE_PARTS" = some a.a8g/\RelV a.a7Z a.a8g/\∀ H,Dt K H a.a7Z a2v
 b3w:mg "MOST_BOTTOM" = some a.a7G/\RelV a.a7C a.a7G/\∀ H,Dt K H a.a7C a7R
 b1Z:mg "MOST_FIGURES" = some a.a5T/\RelV a.a5R a.a5T/\∀ H,Dt K H a.a5R a2Z
 b4l:mg "MOST_HOURS" = some a.a8f/\RelV a.a7Y a.a8f/\∀ H,Dt K H a.a7Y a9j
 b1Y:mg "MOST_LETTERS" = some a.a5S/\RelV a.a5Q a.a5S/\∀ H,Dt K H a.a5Q a0f
 a7D:mg "MOST_NUMBER" = some a.a7F/\RelV a.a7B a.a7F/\∀ H,Dt K H a.a7B a3N
 b4k:mg "MOST_WORKS" = some a.a8e/\RelV a.a7X a.a8e/\∀ H,Dt K H a.a7X a9i
 b3v:mg "STORE_PARTS" = some a.a7E/\RelV a.a7A a.a7E/\∀ H,Dt K H a.a7A a0F
 b4j:mg "WORK_PARTS" = some a.a8d/\RelV a.a7W a.a8d/\∀ H,Dt K H a.a7W a0Z
section
variable {P:Program} {w:World} {K:PySem.W.Frag} {mg:Str->Option Value} {base:Heap} {ad:Ads}
theorem a9T (T:Txt K mg ad):m6 P w K mg base CX0 1 ad.a1K ad.a1m ["one","other"] (spF K J4):=by
 exact T.J4.okF (k:=0) Z3 (by decide) fun cdv A outer s H E hr=>⟨_,(d9 (a8E (a2b 1) PassesOwn.never (j7 (fr:=true) (r:=a1W K) (a0B hr.units) a3u (m8 _) (b9 1 (pv 1)) e7) (d9 (i7 (i:=2) Z3.nd rfl (Or.inl rfl) (j1 V0 a1a (b9 0 (pv 0)) (b9 1 (pv 1)))) (d9 (i7 (i:=0) Z3.nd rfl (Or.inl rfl) (b9 1 (pv 1))) (i3 (i7 (i:=1) Z3.nd rfl (Or.inl rfl) (b9 2 (pv 2))))))) (i3 (P7 0 (pv 0))))⟩
theorem b5W (T:Txt K mg ad):m6 P w K mg base CX0 2 ad.a7n ad.a5C ["top","bottom"] (spF K Y7):=by
 have b1e:m6 P w K mg base CX0 1 _ _ _ (spF K J4):=a9T T
 exact T.Y7.okF (k:=1) a5t (by decide) fun cdv A outer s H E hr=>⟨_,(d9 (n9 (j7 (fr:=true) (r:=K1 K) (B3 hr.units) L4 (m8 _) (b9 1 (pv 1)) e7) (i3 a5c) n8) (d9 (i7 (i:=2) a5t.nd rfl (Or.inl rfl) (i6 rfl b1e (hr.mono (by omega)) rfl T.b0D T.J4.kp T.b1a j9 (b6 (u3 a7r b3U rfl T.b3Z b1S (b6 (b9 0 (pv 0)) d8)) (b6 (u3 a7r b3U rfl T.b3Z b1S (b6 (b9 1 (pv 1)) d8)) d8)))) (d9 (n9 (j7 (fr:=true) a6H b0h (m8 _) (b9 1 (pv 1)) e7) (i3 (i7 (i:=2) a5t.nd rfl (Or.inl rfl) (a6C a4h a6q (b9 2 (pv 2))))) n8) (i3 (n6 (fr:=true) (L6 (b6 (j1 a1I a4g (b9 0 (pv 0)) (b9 2 (pv 2))) (b6 (j1 a1I a4g (b9 1 (pv 1)) (b9 2 (pv 2))) d8))))))))⟩
theorem b3B (T:Txt K mg ad):m6 P w K mg base CX0 1 ad.a4H ad.a3L ["number"] (spF K L9):=by
 exact T.L9.okF (k:=0) a0y (by decide) fun cdv A outer s H E hr=>⟨_,(d9 (i7 (i:=1) a0y.nd rfl (Or.inl rfl) (j1 c5W c6R e7 e7)) (d9 (Z6 (i:=2) a0y.nd rfl (Or.inl rfl) (u9 d8)) (d9 (i7 (i:=3) a0y.nd rfl (Or.inl rfl) (b9 0 (pv 0))) (d9 (a8E (a2b 3) PassesOwn.never (j7 (fr:=true) c3c c5g (m8 _) (b9 3 (pv 3)) (b9 1 (pv 1))) (d9 (a0H 2 (pv 2) (a0z (name:="zfill") (id:="str.zfill") rfl F.slot_str_zfill F.type_str_zfill c2a c3s (fun _ _ _ h=>b6U h) (G9 a0e a9w rfl T.a6O a4L (b6 (j1 V0 a1a (b9 3 (pv 3)) (b9 1 (pv 1))) d8)) (b6 e7 d8))) (i3 (i7 (i:=3) a0y.nd rfl (Or.inl rfl) (j1 a1I a4g (b9 3 (pv 3)) (b9 1 (pv 1))))))) (d9 (a0H 2 (pv 2) (G9 a0e a9w rfl T.a6O a4L (b6 (b9 3 (pv 3)) d8))) (d9 (c3S 2 (pv 2)) (i3 (n6 (fr:=false) (a1p (a0z (name:="join") (id:="str.join") (r:=rJoin K) rfl F.slot_str_join F.type_str_join a4e a5P (fun _ _ _ h=>a1T h) i9 (b6 (b9 2 (pv 2)) d8)))))))))))⟩
theorem b7C (T:Txt K mg ad):m6 P w K mg base CX0 2 ad.a9a ad.a7b ["one"] (spF K a0k):=by
 have a9s:m6 P w K mg base CX0 1 _ _ _ (spF K L9):=b3B T
 exact T.a0k.okF (k:=1) a3U (by decide) fun cdv A outer s H E hr=>⟨_,(d9 (i7 (i:=1) a3U.nd rfl (Or.inl rfl) (i6 rfl a9s (hr.mono (by omega)) rfl T.a8M T.L9.kp T.a9q j9 (b6 (u3 a7r b3U rfl T.b3Z b1S (b6 (r9 (r:=rIx K) o3 z0 (b9 0 (pv 0)) e7 (fun _ _=>rfl)) d8)) d8))) (d9 (n9 (j7 (fr:=true) a6H b0h (m8 _) (r9 (r:=rIx K) o3 z0 (b9 0 (pv 0)) e7 (fun _ _=>rfl)) e7) (i3 (i7 (i:=1) a3U.nd rfl (Or.inl rfl) (j1 (r:=m7 K) j0 m9 i9 (b9 1 (pv 1))))) n8) (d9 (n9 (j7 (fr:=true) (r:=a1W K) (a0B hr.units) a3u (m8 _) (r9 (r:=rIx K) o3 z0 (b9 0 (pv 0)) e7 (fun _ _=>rfl)) e7) (i3 (i7 (i:=1) a3U.nd rfl (Or.inl rfl) (j1 (r:=m7 K) j0 m9 (j1 (r:=m7 K) j0 m9 (b9 1 (pv 1)) i9) (i6 rfl a9s (hr.mono (by omega)) rfl T.a8M T.L9.kp T.a9q j9 (b6 (r9 (r:=rIx K) o3 z0 (b9 0 (pv 0)) e7 (fun _ _=>rfl)) d8))))) n8) (i3 (P7 1 (pv 1))))))⟩
theorem a5f (T:Txt K mg ad):m6 P w K mg base CX0 1 ad.a2X ad.a2m ["text"] (spF K B5):=by
 exact T.B5.okF (k:=0) a4Y (by decide) fun cdv A outer s H E hr=>⟨_,(d9 (n9 (PWX.pt (G0 (j7 (fr:=true) (r:=K1 K) (B3 hr.units) L4 (m8 _) (b9 0 (pv 0)) i9) (L3 (j7 (fr:=true) a5e a7T (m8 _) (u3 (r:=P1 K) v7 K8 rfl T.K9 E6 (b6 (b9 0 (pv 0)) d8)) (P6 rfl T.b1Z))))) (i3 (n6 (fr:=true) u6)) n8) (d9 (a1R PassesOwn.never rfl (a1f (b9 0 (pv 0))) (C0 (i:=1) a4Y.nd rfl (Or.inl rfl)) a1G (i3 (n9 (j7 (fr:=true) (r:=a8z K true) b2Y b4g (by with_unfolding_all rfl) (b9 1 (pv 1)) (P6 rfl T.b8N)) (i3 (n6 (fr:=true) u6)) n8))) (i3 (n6 (fr:=true) (G9 (c0F.or c0E) (c6T.or c5f) rfl T.b7R b5v (b6 (b9 0 (pv 0)) d8))))))⟩
theorem b2h (T:Txt K mg ad):m6 P w K mg base CX0 2 ad.a3M ad.a2V ["text"] (spF K O9):=by
 have a1k:m6 P w K mg base CX0 1 _ _ _ (spF K B5):=a5f T
 exact T.O9.okF (k:=1) a5X (by decide) fun cdv A outer s H E hr=>⟨_,(d9 (n9 (a9z (U9 (fr:=true) (a0z (name:="startswith") (id:="str.startswith") rfl F.slot_str_startswith F.type_str_startswith b9S c1c (fun _ _ _ h=>b5N h) (b9 0 (pv 0)) (b6 i9 d8)))) (i3 (n6 (fr:=true) (i6 rfl a1k (hr.mono (by omega)) rfl T.a2J T.B5.kp T.a3b j9 (b6 (b9 0 (pv 0)) d8)))) n8) (d9 (i7 (i:=1) a5X.nd rfl (Or.inl rfl) (i6 rfl a1k (hr.mono (by omega)) rfl T.a2J T.B5.kp T.a3b j9 (b6 (A0 (r:=P0 K) E5 K7 (b9 0 (pv 0)) (v8 (fr:=true) e7) B8) d8))) (d9 (n9 (j7 (fr:=true) R5 a0P (m8 _) (b9 1 (pv 1)) u6) (i3 (n6 (fr:=true) u6)) n8) (i3 (n6 (fr:=true) (a6C a4h a6q (b9 1 (pv 1))))))))⟩
theorem a4r (T:Txt K mg ad):m6 P w K mg base CX0 3 ad.a2q ad.a1J ["text"] (spF K C9):=by
 have b8G:m6 P w K mg base CX0 2 _ _ _ (spF K Y7):=b5W T
 have a1k:m6 P w K mg base CX0 1 _ _ _ (spF K B5):=a5f T
 have b3S:m6 P w K mg base CX0 2 _ _ _ (spF K O9):=b2h T
 have c0S:m6 P w K mg base CX0 2 _ _ _ (spF K a0k):=b7C T
 exact T.C9.okF (k:=2) P4 (by decide) fun cdv A outer s H E hr=>⟨_,(d9 (i7 (i:=1) P4.nd rfl (Or.inl rfl) (a0z (name:="partition") (id:="str.partition") rfl F.slot_str_partition F.type_str_partition c4z c5d (fun _ _ _ h=>b9v h) (b9 0 (pv 0)) (b6 i9 d8))) (d9 (i7 (i:=2) P4.nd rfl (Or.inl rfl) (i6 rfl b3S (hr.mono (by omega)) rfl T.b3C T.O9.kp T.b3Q j9 (b6 (r9 (r:=rIx K) o3 z0 (b9 1 (pv 1)) e7 (fun _ _=>rfl)) d8))) (d9 (i7 (i:=3) P4.nd rfl (Or.inl rfl) e7) (d9 (n9 (j7 (fr:=true) (r:=K1 K) (B3 hr.units) L4 (m8 _) (r9 (r:=rIx K) o3 z0 (b9 1 (pv 1)) e7 (fun _ _=>rfl)) i9) (i3 (i7 (i:=3) P4.nd rfl (Or.inl rfl) (i6 rfl a1k (hr.mono (by omega)) rfl T.a2J T.B5.kp T.a3b j9 (b6 (r9 (r:=rIx K) o3 z0 (b9 1 (pv 1)) e7 (fun _ _=>rfl)) d8)))) n8) (d9 (n9 (PWX.pt (G0 (j7 (fr:=true) R5 a0P (m8 _) (b9 2 (pv 2)) u6) (G0 (j7 (fr:=true) R5 a0P (m8 _) (b9 3 (pv 3)) u6) (L3 (j7 (fr:=true) (r:=K1 K) (B3 hr.units) L4 (m8 _) (b9 3 (pv 3)) e7))))) (i3 (n6 (fr:=true) u6)) n8) (d9 (i7 (i:=4) P4.nd rfl (Or.inl rfl) (i6 rfl b8G (hr.mono (by omega)) rfl T.b8a T.Y7.kp T.b8r j9 (b6 (b9 2 (pv 2)) (b6 (b9 3 (pv 3)) d8)))) (d9 (n9 (j7 (fr:=true) (r:=a1W K) (a0B hr.units) a3u (m8 _) (i6 rfl c0S (hr.mono (by omega)) rfl T.b9X T.a0k.kp T.c0K j9 (b6 (b9 4 (pv 4)) d8)) (b9 0 (pv 0))) (i3 (n6 (fr:=true) u6)) n8) (i3 (P7 4 (pv 4))))))))))⟩
theorem a7M (T:Txt K mg ad):m6 P w K mg base CX0 4 ad.a4D ad.a3F ["word","least"] (spF K C8):=by
 have a2y:m6 P w K mg base CX0 3 _ _ _ (spF K C9):=a4r T
 exact T.C8.okF (k:=3) a7H (by decide) fun cdv A outer s H E hr=>⟨_,(d9 (i7 (i:=2) a7H.nd rfl (Or.inl rfl) (i6 rfl a2y (hr.mono (by omega)) rfl T.a5g T.C9.kp T.a5o j9 (b6 (b9 0 (pv 0)) d8))) (d9 (n9 (PWX.pt (G0 (j7 (fr:=true) R5 a0P (m8 _) (b9 2 (pv 2)) u6) (G0 (j7 (fr:=true) (r:=a1W K) (a0B hr.units) a3u (m8 _) (r9 (r:=rIx K) o3 z0 (b9 2 (pv 2)) e7 (fun _ _=>rfl)) e7) (G0 (j7 (fr:=true) a6H b0h (m8 _) (r9 (r:=rIx K) o3 z0 (b9 2 (pv 2)) e7 (fun _ _=>rfl)) (b9 1 (pv 1))) (L3 (j7 (fr:=true) a5e a7T (m8 _) (r9 (r:=rIx K) o3 z0 (b9 2 (pv 2)) e7 (fun _ _=>rfl)) (P6 rfl T.a7D))))))) (i3 (n6 (fr:=true) u6)) n8) (i3 (n6 (fr:=true) (r9 (r:=rIx K) o3 z0 (b9 2 (pv 2)) e7 (fun _ _=>rfl))))))⟩
theorem b2j (T:Txt K mg ad):m6 P w K mg base CX0 5 ad.a1E ad.a2W ["word"] (spF K D4):=by
 have a4Q:m6 P w K mg base CX0 4 _ _ _ (spF K C8):=a7M T
 exact T.D4.okF (k:=4) b2f (by decide) fun cdv A outer s H E hr=>⟨_,(i3 (n6 (fr:=true) (i6 rfl a4Q (hr.mono (by omega)) rfl T.a8J T.C8.kp T.a9n j9 (b6 (b9 0 (pv 0)) (b6 e7 d8)))))⟩
theorem b3A (T:Txt K mg ad):m6 P w K mg base CX0 5 ad.a2p ad.a3I ["word"] (spF K L8):=by
 have a4Q:m6 P w K mg base CX0 4 _ _ _ (spF K C8):=a7M T
 exact T.L8.okF (k:=4) b3y (by decide) fun cdv A outer s H E hr=>⟨_,(i3 (n6 (fr:=true) (i6 rfl a4Q (hr.mono (by omega)) rfl T.a8J T.C8.kp T.a9n j9 (b6 (b9 0 (pv 0)) (b6 (a6C a4h a6q (P6 rfl T.a7D)) d8)))))⟩
theorem b3z (T:Txt K mg ad):m6 P w K mg base CX0 4 ad.a2o ad.a3H ["word"] (spF K L7):=by
 have a2y:m6 P w K mg base CX0 3 _ _ _ (spF K C9):=a4r T
 exact T.L7.okF (k:=3) a7J (by decide) fun cdv A outer s H E hr=>⟨_,(d9 (i7 (i:=1) a7J.nd rfl (Or.inl rfl) (i6 rfl a2y (hr.mono (by omega)) rfl T.a5g T.C9.kp T.a5o j9 (b6 (b9 0 (pv 0)) d8))) (d9 (n9 (PWX.pt (G0 (j7 (fr:=true) R5 a0P (m8 _) (b9 1 (pv 1)) u6) (G0 (j7 (fr:=true) c7k c7C (m8 _) (r9 (r:=rIx K) o3 z0 (b9 1 (pv 1)) e7 (fun _ _=>rfl)) e7) (G0 (j7 (fr:=true) a5e a7T (m8 _) (r9 (r:=rIx K) o3 z0 (b9 1 (pv 1)) e7 (fun _ _=>rfl)) (r9 (r:=rIx K) o3 z0 (b9 1 (pv 1)) e7 (fun _ _=>rfl))) (L3 (j7 (fr:=true) a5e a7T (m8 _) (r9 (r:=rIx K) o3 z0 (b9 1 (pv 1)) e7 (fun _ _=>rfl)) (P6 rfl T.b3w))))))) (i3 (n6 (fr:=true) u6)) n8) (i3 (P7 1 (pv 1)))))⟩
theorem b4I (T:Txt K mg ad):m6 P w K mg base CX0 1 ad.a3f ad.a4y ["word"] (spF K J6):=by
 exact T.J6.okF (k:=0) a8s (by decide) fun cdv A outer s H E hr=>⟨_,(d9 (n9 (PWX.pt (G0 (j7 (fr:=true) (r:=K1 K) (B3 hr.units) L4 (m8 _) (b9 0 (pv 0)) i9) (L3 (j7 (fr:=true) a5e a7T (m8 _) (u3 (r:=P1 K) v7 K8 rfl T.K9 E6 (b6 (b9 0 (pv 0)) d8)) (P6 rfl T.b1Y))))) (i3 (n6 (fr:=true) u6)) n8) (d9 (a1R PassesOwn.never rfl (a1f (b9 0 (pv 0))) (C0 (i:=1) a8s.nd rfl (Or.inl rfl)) a1G (i3 (n9 (j7 (fr:=true) (r:=a8z K true) b2Y b4g (by with_unfolding_all rfl) (b9 1 (pv 1)) (P6 rfl T.b8M)) (i3 (n6 (fr:=true) u6)) n8))) (i3 (P7 0 (pv 0)))))⟩
theorem a3v (T:Txt K mg ad):m6 P w K mg base CX0 6 ad.a4F ad.a3J ["words","readers"] (spF K o5):=by
 have b3T:m6 P w K mg base CX0 5 _ _ _ (spF K D4):=b2j T
 have b6k:m6 P w K mg base CX0 1 _ _ _ (spF K J6):=b4I T
 have b5G:m6 P w K mg base CX0 5 _ _ _ (spF K L8):=b3A T
 have b5F:m6 P w K mg base CX0 4 _ _ _ (spF K L7):=b3z T
 exact T.o5.okF (k:=5) a7K (by decide) fun cdv A outer s H E hr=>⟨_,(d9 (n9 (j7 (fr:=true) (r:=a1W K) (a0B hr.units) a3u (m8 _) (u3 (r:=P1 K) v7 K8 rfl T.K9 E6 (b6 (b9 0 (pv 0)) d8)) (u3 (r:=P1 K) v7 K8 rfl T.K9 E6 (b6 (b9 1 (pv 1)) d8))) (i3 (n6 (fr:=true) u6)) n8) (d9 (a3n (i:=2) (bs:=["reader","word"]) (nb:=["words","readers","parts"]) a7K.nd rfl (Or.inl rfl) rfl (a1s rfl) (b6C rfl T.c3f (b6 (b9 1 (pv 1)) (b6 (b9 0 (pv 0)) d8))) (b5a (a3X (i:=0) (a3X (i:=1) b3g (by decide)) (by decide))) (fun _ _ _ _ _ _=>(b1v (n:=2) rfl (Z0 (C0 (i:=0) (show List.Nodup (["reader","word","words","readers","parts"]:List Str) by decide +kernel) rfl (Or.inl rfl) (Or.inr rfl)) (Z0 (C0 (i:=1) (show List.Nodup (["reader","word","words","readers","parts"]:List Str) by decide +kernel) rfl (Or.inl rfl) (Or.inr rfl)) a9B)))) b4p (fun _ _ _ _ _ _=>a0h) (fun _ _ _ _ _ _=>(b4C (a6D (i:=0) (nm:="read_amount") rfl T.b3N (pv 0) b3T (hr.mono (by omega)) T.D4.kp T.b3R j9 (b6 (b9 1 (pv 1)) d8)) (b4C (a6D (i:=0) (nm:="read_name") rfl T.b6b (pv 0) b6k (hr.mono (by omega)) T.J6.kp T.b6f j9 (b6 (b9 1 (pv 1)) d8)) (b4C (a6D (i:=0) (nm:="read_price") rfl T.b5d (pv 0) b5G (hr.mono (by omega)) T.L8.kp T.b5A j9 (b6 (b9 1 (pv 1)) d8)) (a6D (i:=0) (nm:="read_share") rfl T.b5c (pv 0) b5F (hr.mono (by omega)) T.L7.kp T.b5z j9 (b6 (b9 1 (pv 1)) d8))))))) (d9 (n9 (j7 (fr:=true) (r:=b2g K) (b9x (c2n hr.units)) c1e (by with_unfolding_all rfl) u6 (b9 2 (pv 2))) (i3 (n6 (fr:=true) u6)) n8) (i3 (n6 (fr:=true) (G9 (r:=a6B K) S7 a2C rfl T.a0J Z2 (b6 (b9 2 (pv 2)) d8)))))))⟩
theorem a7N (T:Txt K mg ad):m6 P w K mg base CX0 7 ad.a4E ad.a3G ["words"] (spF K z9):=by
 have a0g:m6 P w K mg base CX0 6 _ _ _ (spF K o5):=a3v T
 exact T.z9.okF (k:=6) a7I (by decide) fun cdv A outer s H E hr=>⟨_,(d9 (i7 (i:=1) a7I.nd rfl (Or.inl rfl) (i6 rfl a0g (hr.mono (by omega)) rfl T.a2c T.o5.kp T.a2w j9 (b6 (A0 (r:=P0 K) E5 K7 (b9 0 (pv 0)) (v8 (fr:=true) e7) B8) (b6 (P6 rfl T.b3v) d8)))) (d9 (n9 (PWX.pt (G0 (j7 (fr:=true) (r:=a1W K) (a0B hr.units) a3u (m8 _) (r9 (r:=rIx K) o3 z0 (b9 0 (pv 0)) e7 (fun _ _=>rfl)) i9) (G0 (j7 (fr:=true) R5 a0P (m8 _) (b9 1 (pv 1)) u6) (L3 (j7 (fr:=true) a5e a7T (m8 _) (r9 (r:=rIx K) o3 z0 (b9 1 (pv 1)) e7 (fun _ _=>rfl)) (r9 (r:=rIx K) o3 z0 (b9 1 (pv 1)) e7 (fun _ _=>rfl))))))) (i3 (n6 (fr:=true) u6)) n8) (i3 (P7 1 (pv 1)))))⟩
theorem b4J (T:Txt K mg ad):m6 P w K mg base CX0 7 ad.a5E ad.a4z ["words"] (spF K A7):=by
 have a0g:m6 P w K mg base CX0 6 _ _ _ (spF K o5):=a3v T
 exact T.A7.okF (k:=6) a4n (by decide) fun cdv A outer s H E hr=>⟨_,(d9 (i7 (i:=1) a4n.nd rfl (Or.inl rfl) (i6 rfl a0g (hr.mono (by omega)) rfl T.a2c T.o5.kp T.a2w j9 (b6 (A0 (r:=P0 K) E5 K7 (b9 0 (pv 0)) (v8 (fr:=true) e7) (v8 (fr:=true) e7)) (b6 (P6 rfl T.b4n) d8)))) (d9 (n9 (PWX.pt (G0 (j7 (fr:=true) (r:=a1W K) (a0B hr.units) a3u (m8 _) (r9 (r:=rIx K) o3 z0 (b9 0 (pv 0)) e7 (fun _ _=>rfl)) i9) (L3 (j7 (fr:=true) R5 a0P (m8 _) (b9 1 (pv 1)) u6)))) (i3 (n6 (fr:=true) u6)) n8) (d9 (n9 (j7 (fr:=true) (r:=K1 K) (B3 hr.units) L4 (m8 _) (A0 (r:=P0 K) E5 K7 (b9 0 (pv 0)) (v8 (fr:=true) e7) B8) (u9 (b6 i9 d8))) (i3 (n6 (fr:=true) (j1 (r:=m7 K) j0 m9 (b9 1 (pv 1)) (L6 (b6 u6 d8))))) n8) (d9 (i7 (i:=2) a4n.nd rfl (Or.inl rfl) (i6 rfl a0g (hr.mono (by omega)) rfl T.a2c T.o5.kp T.a2w j9 (b6 (A0 (r:=P0 K) E5 K7 (b9 0 (pv 0)) (v8 (fr:=true) e7) B8) (b6 (P6 rfl T.b4m) d8)))) (d9 (n9 (PWX.pt (G0 (j7 (fr:=true) (r:=a1W K) (a0B hr.units) a3u (m8 _) (A0 (r:=P0 K) E5 K7 (b9 0 (pv 0)) (v8 (fr:=true) e7) (v8 (fr:=true) e7)) (u9 (b6 i9 d8))) (L3 (j7 (fr:=true) R5 a0P (m8 _) (b9 2 (pv 2)) u6)))) (i3 (n6 (fr:=true) u6)) n8) (i3 (n6 (fr:=true) (j1 (r:=m7 K) j0 m9 (b9 1 (pv 1)) (L6 (b6 (b9 2 (pv 2)) d8))))))))))⟩
theorem b4H (T:Txt K mg ad):m6 P w K mg base CX0 7 ad.a5D ad.a4x ["words","hours"] (spF K E3):=by
 have a0g:m6 P w K mg base CX0 6 _ _ _ (spF K o5):=a3v T
 exact T.E3.okF (k:=6) a8r (by decide) fun cdv A outer s H E hr=>⟨_,(d9 (i7 (i:=2) a8r.nd rfl (Or.inl rfl) (i6 rfl a0g (hr.mono (by omega)) rfl T.a2c T.o5.kp T.a2w j9 (b6 (A0 (r:=P0 K) E5 K7 (b9 0 (pv 0)) (v8 (fr:=true) e7) B8) (b6 (P6 rfl T.b4j) d8)))) (d9 (n9 (PWX.pt (G0 (j7 (fr:=true) (r:=a1W K) (a0B hr.units) a3u (m8 _) (r9 (r:=rIx K) o3 z0 (b9 0 (pv 0)) e7 (fun _ _=>rfl)) i9) (L3 (j7 (fr:=true) R5 a0P (m8 _) (b9 2 (pv 2)) u6)))) (i3 (n6 (fr:=true) u6)) n8) (d9 (n9 (PWX.pt (G0 (j7 (fr:=true) a5e a7T (m8 _) (r9 (r:=rIx K) o3 z0 (b9 2 (pv 2)) e7 (fun _ _=>rfl)) (r9 (r:=rIx K) o3 z0 (b9 2 (pv 2)) e7 (fun _ _=>rfl))) (L3 (j7 (fr:=true) c3c c5g (m8 _) (r9 (r:=rIx K) o3 z0 (b9 2 (pv 2)) e7 (fun _ _=>rfl)) (b9 1 (pv 1)))))) (i3 (n6 (fr:=true) u6)) n8) (i3 (P7 2 (pv 2))))))⟩
theorem a7O (T:Txt K mg ad):m6 P w K mg base CX0 8 ad.a4G ad.a3K ["rows"] (spF K B9):=by
 have b6l:m6 P w K mg base CX0 7 _ _ _ (spF K A7):=b4J T
 exact T.B9.okF (k:=7) a1x (by decide) fun cdv A outer s H E hr=>⟨_,(d9 (Z6 (i:=1) a1x.nd rfl (Or.inl rfl) (u9 d8)) (d9 (a1R PassesOwn.never rfl (a1f (A0 (r:=P0 K) E5 K7 (b9 0 (pv 0)) B8 (v8 (fr:=true) (P6 rfl T.b4l)))) (C0 (i:=2) a1x.nd rfl (Or.inl rfl)) a1G (d9 (i7 (i:=3) a1x.nd rfl (Or.inl rfl) (i6 rfl b6l (hr.mono (by omega)) rfl T.b5Y T.A7.kp T.b6g j9 (b6 (b9 2 (pv 2)) d8))) (d9 (n9 (j7 (fr:=true) R5 a0P (m8 _) (b9 3 (pv 3)) u6) (i3 (P7 1 (pv 1))) n8) (i3 (a0H 1 (pv 1) (b9 3 (pv 3))))))) (i3 (P7 1 (pv 1)))))⟩
theorem a7L (T:Txt K mg ad):m6 P w K mg base CX0 8 ad.a4C ad.a3E ["rows","hours"] (spF K C7):=by
 have b6j:m6 P w K mg base CX0 7 _ _ _ (spF K E3):=b4H T
 exact T.C7.okF (k:=7) a0x (by decide) fun cdv A outer s H E hr=>⟨_,(d9 (Z6 (i:=2) a0x.nd rfl (Or.inl rfl) (u9 d8)) (d9 (Z6 (i:=3) a0x.nd rfl (Or.inl rfl) (u9 d8)) (d9 (a1R PassesOwn.never rfl (a1f (A0 (r:=P0 K) E5 K7 (b9 0 (pv 0)) B8 (v8 (fr:=true) (P6 rfl T.b4k)))) (C0 (i:=4) a0x.nd rfl (Or.inl rfl)) a1G (d9 (i7 (i:=5) a0x.nd rfl (Or.inl rfl) (i6 rfl b6j (hr.mono (by omega)) rfl T.b5X T.E3.kp T.b6e j9 (b6 (b9 4 (pv 4)) (b6 (b9 1 (pv 1)) d8)))) (d9 (n9 (PWX.pt (G0 (j7 (fr:=true) R5 a0P (m8 _) (b9 5 (pv 5)) u6) (L3 (j7 (fr:=false) (r:=a8z K false) b9A c2O (by with_unfolding_all rfl) (a1p (r9 (r:=rIx K) o3 z0 (b9 5 (pv 5)) e7 (fun _ _=>rfl))) (a1p (b9 3 (pv 3))))))) (i3 (P7 2 (pv 2))) n8) (d9 (a0H 2 (pv 2) (b9 5 (pv 5))) (i3 (a0H 3 (pv 3) (r9 (r:=rIx K) o3 z0 (b9 5 (pv 5)) e7 (fun _ _=>rfl)))))))) (i3 (P7 2 (pv 2))))))⟩
theorem c4j (T:Txt K mg ad):m6 P w K mg base CX0 1 ad.a2r ad.a9N ["self","place"] (a4c b5E ad.o6 "place"):=by
 refine T.xF.ok (k:=0) c3K (fun vs H Q E h=>?_) fun cdv A outer s H vs Q E hr h=>⟨_,b4E (a9A (b5R T.xK rfl T.a7z (a0I (pv 0) (a0I (c4a 1 (pv 1) (by decide +kernel) (by decide +kernel)) a6b)) (pl:=_))) (b6A (c3W T.xK (pv 0) (pv 1))),?_⟩
 . obtain ⟨ea,v,rfl,_⟩:=h
   rfl
 . obtain ⟨ea,v,rfl,⟨i,rfl,hi⟩,hH,q⟩:=h
   exact ⟨.ref ea,rfl,i,rfl,hi,fun x=>⟨ea,_,none,rfl,hH,.int i,rfl,.ref ea,rfl,ea,rfl,hH,q⟩⟩
theorem c1R (T:Txt K mg ad):m6 P w K mg base (CX1 P w) 9 ad.b1Q ad.a9M ["lines"] (spX K (O8 ad.o6)):=by
 have a4S:m6 P w K mg base CX0 8 _ _ _ (spF K B9):=a7O T
 have a4R:m6 P w K mg base CX0 7 _ _ _ (spF K z9):=a7N T
 have a4P:m6 P w K mg base CX0 8 _ _ _ (spF K C7):=a7L T
 have b5H:m6 P w K mg base CX0 1 ad.a2r ad.a9N ["self","place"] (a4c b5E ad.o6 "place"):=c4j T
 exact T.a1u.okX (k:=8) W8 (by decide) fun cdv A outer s H E hr=>⟨_,(d9 (a3n (i:=1) (bs:=["line"]) (nb:=["lines","rows","store","hours","works","place"]) W8.nd rfl (Or.inl rfl) rfl (a1s rfl) (a1f (b9 0 (pv 0))) (a0i (by decide)) (fun _ _ _ _ _ _=>(C0 (i:=0) (show List.Nodup (["line","lines","rows","store","hours","works","place"]:List Str) by decide +kernel) rfl (Or.inl rfl) (Or.inr rfl))) a0R (fun _ _ _ _ _ _=>a0h) (fun _ _ _ _ _ _=>(a0z (name:="split") (id:="str.split") rfl F.slot_str_split F.type_str_split b0B b1W (fun _ _ _ h=>a6x h) (b9 0 (pv 0)) (b6 i9 d8)))) (d9 (i7 (i:=2) W8.nd rfl (Or.inl rfl) (c2Y (j7 (fr:=true) (r:=K1 K) (B3 hr.units) L4 (m8 _) (b9 1 (pv 1)) (u9 d8)) u6 (i6 rfl a4R (hr.mono (by omega)) rfl T.a8K T.z9.kp T.a9o j9 (b6 (r9 (r:=rIx K) o3 z0 (b9 1 (pv 1)) e7 (fun _ _=>rfl)) d8)))) (d9 (n9 (j7 (fr:=true) R5 a0P (m8 _) (b9 2 (pv 2)) u6) (i3 (a6E (fr:=true) b0l T.xK T.xC b5H (hr.mono (by omega)) T.xb T.xk hr.hd rfl T.a4V (b6 e7 d8))) n8) (d9 (i7 (i:=3) W8.nd rfl (Or.inl rfl) (i6 rfl a4S (hr.mono (by omega)) rfl T.a8L T.B9.kp T.a9p j9 (b6 (A0 (r:=P0 K) E5 K7 (b9 1 (pv 1)) (v8 (fr:=true) e7) B8) d8))) (d9 (n9 (j7 (fr:=true) (r:=K1 K) (B3 hr.units) L4 (m8 _) (b9 3 (pv 3)) (u9 d8)) (i3 (a6E (fr:=true) b0l T.xK T.xC b5H (hr.mono (by omega)) T.xb T.xk hr.hd rfl T.a4V (b6 e7 d8))) n8) (d9 (i7 (i:=4) W8.nd rfl (Or.inl rfl) (i6 rfl a4P (hr.mono (by omega)) rfl T.a8I T.C7.kp T.a9m j9 (b6 (A0 (r:=P0 K) E5 K7 (b9 1 (pv 1)) (v8 (fr:=true) (j1 (r:=m7 K) j0 m9 e7 (u3 (r:=P1 K) v7 K8 rfl T.K9 E6 (b6 (b9 3 (pv 3)) d8)))) B8) (b6 (u3 (r:=P1 K) v7 K8 rfl T.K9 E6 (b6 (b9 3 (pv 3)) d8)) d8)))) (d9 (i7 (i:=5) W8.nd rfl (Or.inl rfl) (j1 (r:=m7 K) j0 m9 (j1 (r:=m7 K) j0 m9 e7 (u3 (r:=P1 K) v7 K8 rfl T.K9 E6 (b6 (b9 3 (pv 3)) d8))) (u3 (r:=P1 K) v7 K8 rfl T.K9 E6 (b6 (b9 4 (pv 4)) d8)))) (d9 (n9 (j7 (fr:=true) a6H b0h (m8 _) (b9 5 (pv 5)) (u3 (r:=P1 K) v7 K8 rfl T.K9 E6 (b6 (b9 1 (pv 1)) d8))) (i3 (a6E (fr:=true) b0l T.xK T.xC b5H (hr.mono (by omega)) T.xb T.xk hr.hd rfl T.a4V (b6 (b9 5 (pv 5)) d8))) n8) (i3 (n6 (fr:=true) (L6 (b6 (G9 (r:=a6B K) S7 a2C rfl T.a0J Z2 (b6 (b9 3 (pv 3)) d8)) (b6 (b9 2 (pv 2)) (b6 (G9 (r:=a6B K) S7 a2C rfl T.a0J Z2 (b6 (b9 4 (pv 4)) d8)) d8))))))))))))))⟩
theorem c4i (T:Txt K mg ad):m6 P w K mg base CX0 9 ad.b1Q ad.a9M ["lines"] (spF K a1u):=by
 have a4S:m6 P w K mg base CX0 8 _ _ _ (spF K B9):=a7O T
 have a4R:m6 P w K mg base CX0 7 _ _ _ (spF K z9):=a7N T
 have a4P:m6 P w K mg base CX0 8 _ _ _ (spF K C7):=a7L T
 exact T.a1u.okF (k:=8) W8 (by decide) fun cdv A outer s H E hr=>⟨_,(d9 (a3n (i:=1) (bs:=["line"]) (nb:=["lines","rows","store","hours","works","place"]) W8.nd rfl (Or.inl rfl) rfl (a1s rfl) (a1f (b9 0 (pv 0))) (a0i (by decide)) (fun _ _ _ _ _ _=>(C0 (i:=0) (show List.Nodup (["line","lines","rows","store","hours","works","place"]:List Str) by decide +kernel) rfl (Or.inl rfl) (Or.inr rfl))) a0R (fun _ _ _ _ _ _=>a0h) (fun _ _ _ _ _ _=>(a0z (name:="split") (id:="str.split") rfl F.slot_str_split F.type_str_split b0B b1W (fun _ _ _ h=>a6x h) (b9 0 (pv 0)) (b6 i9 d8)))) (d9 (i7 (i:=2) W8.nd rfl (Or.inl rfl) (c2Y (j7 (fr:=true) (r:=K1 K) (B3 hr.units) L4 (m8 _) (b9 1 (pv 1)) (u9 d8)) u6 (i6 rfl a4R (hr.mono (by omega)) rfl T.a8K T.z9.kp T.a9o j9 (b6 (r9 (r:=rIx K) o3 z0 (b9 1 (pv 1)) e7 (fun _ _=>rfl)) d8)))) (d9 (n9 (j7 (fr:=true) R5 a0P (m8 _) (b9 2 (pv 2)) u6) (i3 a5c) n8) (d9 (i7 (i:=3) W8.nd rfl (Or.inl rfl) (i6 rfl a4S (hr.mono (by omega)) rfl T.a8L T.B9.kp T.a9p j9 (b6 (A0 (r:=P0 K) E5 K7 (b9 1 (pv 1)) (v8 (fr:=true) e7) B8) d8))) (d9 (n9 (j7 (fr:=true) (r:=K1 K) (B3 hr.units) L4 (m8 _) (b9 3 (pv 3)) (u9 d8)) (i3 a5c) n8) (d9 (i7 (i:=4) W8.nd rfl (Or.inl rfl) (i6 rfl a4P (hr.mono (by omega)) rfl T.a8I T.C7.kp T.a9m j9 (b6 (A0 (r:=P0 K) E5 K7 (b9 1 (pv 1)) (v8 (fr:=true) (j1 (r:=m7 K) j0 m9 e7 (u3 (r:=P1 K) v7 K8 rfl T.K9 E6 (b6 (b9 3 (pv 3)) d8)))) B8) (b6 (u3 (r:=P1 K) v7 K8 rfl T.K9 E6 (b6 (b9 3 (pv 3)) d8)) d8)))) (d9 (i7 (i:=5) W8.nd rfl (Or.inl rfl) (j1 (r:=m7 K) j0 m9 (j1 (r:=m7 K) j0 m9 e7 (u3 (r:=P1 K) v7 K8 rfl T.K9 E6 (b6 (b9 3 (pv 3)) d8))) (u3 (r:=P1 K) v7 K8 rfl T.K9 E6 (b6 (b9 4 (pv 4)) d8)))) (d9 (n9 (j7 (fr:=true) a6H b0h (m8 _) (b9 5 (pv 5)) (u3 (r:=P1 K) v7 K8 rfl T.K9 E6 (b6 (b9 1 (pv 1)) d8))) (i3 a5c) n8) (i3 (n6 (fr:=true) (L6 (b6 (G9 (r:=a6B K) S7 a2C rfl T.a0J Z2 (b6 (b9 3 (pv 3)) d8)) (b6 (b9 2 (pv 2)) (b6 (G9 (r:=a6B K) S7 a2C rfl T.a0J Z2 (b6 (b9 4 (pv 4)) d8)) d8))))))))))))))⟩
theorem X7 (T:Txt K mg ad):m6 P w K mg base CX0 1 ad.b0N ad.a8Y ["_law_script","_law_k","_law_many"] (spF K i5):=by
 exact T.i5.okF (k:=0) a4Z (by decide) fun cdv A outer s H E hr=>⟨_,(d9 (i7 (i:=3) a4Z.nd rfl (Or.inl rfl) e7) (d9 (n9 (j7 (fr:=true) a5e a7T (m8 _) (u3 (r:=P1 K) v7 K8 rfl T.K9 E6 (b6 (b9 0 (pv 0)) d8)) e7) (d9 (i7 (i:=3) a4Z.nd rfl (Or.inl rfl) (r9 (r:=rIx K) o3 z0 (b9 0 (pv 0)) (j1 V0 a1a (b9 1 (pv 1)) (u3 (r:=P1 K) v7 K8 rfl T.K9 E6 (b6 (b9 0 (pv 0)) d8))) (fun _ _=>rfl))) (i3 (n9 (j7 (fr:=true) (r:=K1 K) (B3 hr.units) L4 (m8 _) (j1 V0 a1a (r9 (r:=rIx K) o3 z0 (b9 0 (pv 0)) e7 (fun _ _=>rfl)) e7) e7) (i3 (n6 (fr:=true) (j1 V0 a1a (j1 V0 a1a (j1 c5V c6Q (j1 a1I a4g (b9 3 (pv 3)) e7) (j1 a1g a3R e7 (j1 a1I a4g (b9 1 (pv 1)) (u3 (r:=P1 K) v7 K8 rfl T.K9 E6 (b6 (b9 0 (pv 0)) d8))))) e7) (b9 2 (pv 2))))) n8))) n8) (d9 (i7 (i:=4) a4Z.nd rfl (Or.inl rfl) (j1 V0 a1a (j1 (r:=m7 K) j0 m9 (j1 a1g a3R (j1 V0 a1a (b9 3 (pv 3)) e7) e7) (j1 a1g a3R (j1 a1g a3R (j1 (r:=m7 K) j0 m9 (b9 1 (pv 1)) e7) (j1 (r:=m7 K) j0 m9 (b9 1 (pv 1)) e7)) e7)) e7)) (i3 (n6 (fr:=true) (j1 V0 a1a (j1 V0 a1a (j1 a1g a3R (b9 4 (pv 4)) (j1 (r:=m7 K) j0 m9 (b9 4 (pv 4)) e7)) e7) (b9 2 (pv 2))))))))⟩
theorem b1y (T:Txt K mg ad):∀ n,m6 P w K mg base CX0 (n + 1) ad.a7j ad.a5l ["_law_found","_law_due"] (spF K (J2 n))
 | 0=>⟨fun vs H Q E h=>(by obtain ⟨_,_,_,_,_,h,_⟩:=h;cases h),fun A outer s H args us vs Q E _ _ _ _ h=>(by obtain ⟨_,_,_,_,_,h,_⟩:=h;cases h)⟩
 | n + 1=>by
  have a7u:m6 P w K mg base CX0 (n + 1) _ _ _ (spF K (J2 n)):=b1y T n
  exact T.V5.okF (k:=n + 1) b8Z (by decide) fun cdv A outer s H E hr=>⟨_,(d9 (n9 (PWX.pt (G0 (U9 (fr:=true) (P5 rfl a6Z rfl T.v9 u5 (b9 1 (pv 1)) (R8 (v:=.ty "tuple") rfl T.a0J Z2 rfl))) (L3 (U9 (fr:=true) (P5 rfl a8W rfl T.v9 u5 (b9 1 (pv 1)) (R8 (v:=.ty "list") rfl T.b1B a9Q rfl)))))) (d9 (n9 (PWX.pt (G0 (j7 (fr:=true) (r:=a1W K) (a0B hr.units) a3u (m8 _) (P5 rfl a6Z rfl T.v9 u5 (b9 0 (pv 0)) (R8 (v:=.ty "tuple") rfl T.a0J Z2 rfl)) (P5 rfl a6Z rfl T.v9 u5 (b9 1 (pv 1)) (R8 (v:=.ty "tuple") rfl T.a0J Z2 rfl))) (L3 (j7 (fr:=true) (r:=a1W K) (a0B hr.units) a3u (m8 _) (P5 rfl a8W rfl T.v9 u5 (b9 0 (pv 0)) (R8 (v:=.ty "list") rfl T.b1B a9Q rfl)) (P5 rfl a8W rfl T.v9 u5 (b9 1 (pv 1)) (R8 (v:=.ty "list") rfl T.b1B a9Q rfl)))))) (i3 (n6 (fr:=true) c2Z)) n8) (i3 (n6 (fr:=true) (a8D (a8C (r:=K1 K) (B3 hr.units) L4 (m8 _) (u3 (r:=P1 K) v7 K8 rfl T.K9 E6 (b6 (b9 0 (pv 0)) d8)) (u3 (r:=P1 K) v7 K8 rfl T.K9 E6 (b6 (b9 1 (pv 1)) d8))) (b1t (u3 (r:=b7w K) (c0H hr.hd) c5h rfl T.c7o c6J (b6 (a4d (bs:=["_law_one","_law_other"]) (nb:=["_law_found","_law_due"]) rfl (a1s rfl) (b6C rfl T.c3f (b6 (b9 0 (pv 0)) (b6 (b9 1 (pv 1)) d8))) (b5a (a3X (i:=0) (a3X (i:=1) b3g (by decide)) (by decide))) (fun _ _ _ _ _ _=>(b1v (n:=2) rfl (Z0 (C0 (i:=0) (show List.Nodup (["_law_one","_law_other","_law_found","_law_due"]:List Str) by decide +kernel) rfl (Or.inl rfl) (Or.inr rfl)) (Z0 (C0 (i:=1) (show List.Nodup (["_law_one","_law_other","_law_found","_law_due"]:List Str) by decide +kernel) rfl (Or.inl rfl) (Or.inr rfl)) a9B)))) b4p (fun _ _ _ _ _ _=>a0h) (fun _ _ _ _ _ _=>(i6 rfl a7u (hr.mono (by omega)) rfl T.b0C T.V5.kp T.b0Z j9 (b6 (b9 0 (pv 0)) (b6 (b9 1 (pv 1)) d8))))) d8))))))) n8) (d9 (n9 (PWX.pt (G0 (U9 (fr:=true) (P5 rfl a5k rfl T.v9 u5 (b9 1 (pv 1)) (R8 (v:=.ty "bool") rfl T.b1C a9R rfl))) (L3 (U9 (fr:=true) (P5 rfl a5k rfl T.v9 u5 (b9 0 (pv 0)) (R8 (v:=.ty "bool") rfl T.b1C a9R rfl)))))) (i3 (n6 (fr:=true) (a8D (P5 rfl a5k rfl T.v9 u5 (b9 1 (pv 1)) (R8 (v:=.ty "bool") rfl T.b1C a9R rfl)) (a8D (P5 rfl a5k rfl T.v9 u5 (b9 0 (pv 0)) (R8 (v:=.ty "bool") rfl T.b1C a9R rfl)) (b1t (a8C (r:=K1 K) (B3 hr.units) L4 (m8 _) (b9 0 (pv 0)) (b9 1 (pv 1)))))))) n8) (d9 (n9 (U9 (fr:=true) (P5 rfl b5h rfl T.v9 u5 (b9 1 (pv 1)) (R8 (v:=.ty "int") rfl T.b7R b5v rfl))) (i3 (n6 (fr:=true) (a8D (P5 rfl b5h rfl T.v9 u5 (b9 0 (pv 0)) (R8 (v:=.ty "int") rfl T.b7R b5v rfl)) (b1t (a8C (r:=K1 K) (B3 hr.units) L4 (m8 _) (b9 0 (pv 0)) (b9 1 (pv 1))))))) n8) (d9 (n9 (j7 (fr:=true) R5 a0P (m8 _) (b9 1 (pv 1)) u6) (i3 (n6 (fr:=true) (a8C R5 a0P (m8 _) (b9 0 (pv 0)) u6))) n8) (i3 (n6 (fr:=true) (a8D (P5 rfl c2s rfl T.v9 u5 (b9 0 (pv 0)) (R8 (v:=.ty "str") rfl T.a6O a4L rfl)) (b1t (a8C (r:=K1 K) (B3 hr.units) L4 (m8 _) (b9 0 (pv 0)) (b9 1 (pv 1)))))))))))⟩
theorem b9B (T:Txt K mg ad):m6 P w K mg base CX0 6 ad.a7j ad.a5l ["_law_found","_law_due"] (spF K V5):=b1y T 5
theorem b5V (T:Txt K mg ad):m6 P w K mg base CX0 1 ad.a7m ad.a5B ["_law_one","_law_other"] (spF K Y5):=by
 exact T.Y5.okF (k:=0) a9W (by decide) fun cdv A outer s H E hr=>⟨_,(d9 (a8E (a2b 1) PassesOwn.never (j7 (fr:=true) (r:=a1W K) (a0B hr.units) a3u (m8 _) (b9 1 (pv 1)) e7) (i3 (c3T (i:=0) (j:=1) rfl a9W.nd rfl rfl (by decide) rfl rfl (b6 (b9 1 (pv 1)) (b6 (j1 V0 a1a (b9 0 (pv 0)) (b9 1 (pv 1))) d8)) (by rfl)))) (i3 (n6 (fr:=true) (u3 a7r b3U rfl T.b3Z b1S (b6 (b9 0 (pv 0)) d8)))))⟩
theorem b5U (T:Txt K mg ad):m6 P w K mg base CX0 2 ad.a7l ad.a5A ["_law_top","_law_bottom"] (spF K Y4):=by
 have b8F:m6 P w K mg base CX0 1 _ _ _ (spF K Y5):=b5V T
 exact T.Y4.okF (k:=1) a5s (by decide) fun cdv A outer s H E hr=>⟨_,(d9 (i7 (i:=2) a5s.nd rfl (Or.inl rfl) (i6 rfl b8F (hr.mono (by omega)) rfl T.b7Z T.Y5.kp T.b8q j9 (b6 (b9 0 (pv 0)) (b6 (b9 1 (pv 1)) d8)))) (d9 (n9 (j7 (fr:=true) a6H b0h (m8 _) (b9 1 (pv 1)) e7) (i3 (i7 (i:=2) a5s.nd rfl (Or.inl rfl) (a6C a4h a6q (b9 2 (pv 2))))) n8) (i3 (n6 (fr:=true) (L6 (b6 (j1 a1I a4g (b9 0 (pv 0)) (b9 2 (pv 2))) (b6 (j1 a1I a4g (b9 1 (pv 1)) (b9 2 (pv 2))) d8)))))))⟩
theorem a5u (T:Txt K mg ad):m6 P w K mg base CX0 2 ad.a7k ad.a5z ["_law_script","_law_k","_law_most"] (spF K p6):=by
 have o2:m6 P w K mg base CX0 1 _ _ _ (spF K i5):=X7 T
 exact T.p6.okF (k:=1) a9V (by decide) fun cdv A outer s H E hr=>⟨_,(d9 (i7 (i:=3) a9V.nd rfl (Or.inl rfl) (i6 rfl o2 (hr.mono (by omega)) rfl T.p9 T.i5.kp T.q5 j9 (b6 (b9 0 (pv 0)) (b6 (b9 1 (pv 1)) (b6 e7 d8))))) (d9 (n9 (j7 (fr:=true) a6H b0h (m8 _) (b9 3 (pv 3)) e7) (i3 (n6 (fr:=true) (i6 rfl o2 (hr.mono (by omega)) rfl T.p9 T.i5.kp T.q5 j9 (b6 (b9 0 (pv 0)) (b6 (j1 (r:=m7 K) j0 m9 (b9 1 (pv 1)) e7) (b6 e7 d8)))))) n8) (d9 (n9 (j7 (fr:=true) (r:=K1 K) (B3 hr.units) L4 (m8 _) (b9 3 (pv 3)) e7) (i3 (P7 2 (pv 2))) n8) (i3 (n6 (fr:=true) (i6 rfl o2 (hr.mono (by omega)) rfl T.p9 T.i5.kp T.q5 j9 (b6 (b9 0 (pv 0)) (b6 (j1 (r:=m7 K) j0 m9 (b9 1 (pv 1)) e7) (b6 (j1 (r:=m7 K) j0 m9 (b9 2 (pv 2)) e7) d8)))))))))⟩
theorem b7E (T:Txt K mg ad):m6 P w K mg base CX0 3 ad.a9c ad.a7d ["_law_script","_law_k"] (spF K U7):=by
 have o2:m6 P w K mg base CX0 1 _ _ _ (spF K i5):=X7 T
 have K2:m6 P w K mg base CX0 2 _ _ _ (spF K p6):=a5u T
 exact T.U7.okF (k:=2) b7p (by decide) fun cdv A outer s H E hr=>⟨_,(i3 (n6 (fr:=true) (j1 a1g a3R (i6 rfl K2 (hr.mono (by omega)) rfl T.O1 T.p6.kp T.O3 j9 (b6 (b9 0 (pv 0)) (b6 (b9 1 (pv 1)) (b6 e7 d8)))) (r9 (r:=rIx K) o3 z0 (u9 (b6 e7 (b6 e7 (b6 (a6C a4h a6q e7) d8)))) (i6 rfl o2 (hr.mono (by omega)) rfl T.p9 T.i5.kp T.q5 j9 (b6 (b9 0 (pv 0)) (b6 (j1 (r:=m7 K) j0 m9 (b9 1 (pv 1)) e7) (b6 e7 d8)))) (fun _ _=>rfl)))))⟩
theorem b7D (T:Txt K mg ad):m6 P w K mg base CX0 3 ad.a9b ad.a7c ["_law_script","_law_k"] (spF K U6):=by
 have o2:m6 P w K mg base CX0 1 _ _ _ (spF K i5):=X7 T
 have b8E:m6 P w K mg base CX0 2 _ _ _ (spF K Y4):=b5U T
 exact T.U6.okF (k:=2) b1o (by decide) fun cdv A outer s H E hr=>⟨_,(d9 (n9 (j7 (fr:=true) (r:=K1 K) (B3 hr.units) L4 (m8 _) (i6 rfl o2 (hr.mono (by omega)) rfl T.p9 T.i5.kp T.q5 j9 (b6 (b9 0 (pv 0)) (b6 (j1 (r:=m7 K) j0 m9 e7 (b9 1 (pv 1))) (b6 e7 d8)))) e7) (i3 (n6 (fr:=true) (r9 (r:=rIx K) o3 z0 (u9 (b6 (L6 (b6 e7 (b6 e7 d8))) (b6 (L6 (b6 e7 (b6 e7 d8))) d8))) (i6 rfl o2 (hr.mono (by omega)) rfl T.p9 T.i5.kp T.q5 j9 (b6 (b9 0 (pv 0)) (b6 (j1 (r:=m7 K) j0 m9 e7 (b9 1 (pv 1))) (b6 e7 d8)))) (fun _ _=>rfl)))) n8) (d9 (i7 (i:=2) b1o.nd rfl (Or.inl rfl) (j1 (r:=m7 K) j0 m9 e7 (i6 rfl o2 (hr.mono (by omega)) rfl T.p9 T.i5.kp T.q5 j9 (b6 (b9 0 (pv 0)) (b6 (b9 1 (pv 1)) (b6 (r9 (r:=rIx K) o3 z0 (u9 (b6 e7 (b6 e7 d8))) (i6 rfl o2 (hr.mono (by omega)) rfl T.p9 T.i5.kp T.q5 j9 (b6 (b9 0 (pv 0)) (b6 (j1 (r:=m7 K) j0 m9 (b9 1 (pv 1)) e7) (b6 e7 d8)))) (fun _ _=>rfl)) d8)))))) (i3 (n6 (fr:=true) (i6 rfl b8E (hr.mono (by omega)) rfl T.b7Y T.Y4.kp T.b8p j9 (b6 (j1 (r:=m7 K) j0 m9 e7 (i6 rfl o2 (hr.mono (by omega)) rfl T.p9 T.i5.kp T.q5 j9 (b6 (b9 0 (pv 0)) (b6 (j1 (r:=m7 K) j0 m9 (b9 1 (pv 1)) e7) (b6 (b9 2 (pv 2)) d8))))) (b6 (b9 2 (pv 2)) d8)))))))⟩
theorem b7F (T:Txt K mg ad):m6 P w K mg base CX0 2 ad.a9d ad.a7e ["_law_script","_law_k","_law_many"] (spF K a0l):=by
 have o2:m6 P w K mg base CX0 1 _ _ _ (spF K i5):=X7 T
 exact T.a0l.okF (k:=1) P9 (by decide) fun cdv A outer s H E hr=>⟨_,(d9 (i7 (i:=3) P9.nd rfl (Or.inr rfl) i9) (d9 (i7 (i:=4) P9.nd rfl (Or.inr rfl) (a4d (bs:=["_law_j"]) (nb:=["_law_script","_law_k","_law_many","_law_letters","_law_word","_law_names_here","_law_size","_law_at","_law_j'","_law_sign"]) rfl (a1s rfl) (a1e rfl T.a2I (b6 e7 d8)) (a0i (by decide)) (fun _ _ _ _ _ _=>(C0 (i:=0) (show List.Nodup (["_law_j","_law_script","_law_k","_law_many","_law_letters","_law_word","_law_names_here","_law_size","_law_at","_law_j'","_law_sign"]:List Str) by decide +kernel) rfl (Or.inl rfl) (Or.inr rfl))) a0R (fun _ _ _ _ _ _=>a0h) (fun _ _ _ _ _ _=>(r9 (r:=rIx K) o3 z0 (b9 4 (pv 4)) (i6 rfl o2 (hr.mono (by omega)) rfl T.p9 T.i5.kp T.q5 j9 (b6 (b9 1 (pv 1)) (b6 (j1 (r:=m7 K) j0 m9 (b9 2 (pv 2)) (b9 0 (pv 0))) (b6 e7 d8)))) (fun _ _=>rfl))))) (d9 (Z6 (i:=5) P9.nd rfl (Or.inl rfl) (A0 (r:=P0 K) E5 K7 (u9 (b6 i9 (b6 i9 (b6 i9 (b6 i9 (b6 i9 (b6 i9 d8))))))) B8 (v8 (fr:=true) (b9 2 (pv 2))))) (d9 (n9 (j7 (fr:=true) (r:=K1 K) (B3 hr.units) L4 (m8 _) (i6 rfl o2 (hr.mono (by omega)) rfl T.p9 T.i5.kp T.q5 j9 (b6 (b9 0 (pv 0)) (b6 (j1 (r:=m7 K) j0 m9 (b9 1 (pv 1)) e7) (b6 e7 d8)))) e7) (i3 (b9j (i:=5) (bs:=["_law_j"]) (nb:=["_law_script","_law_k","_law_many","_law_letters","_law_word","_law_names_here","_law_size","_law_at","_law_j'","_law_sign"]) P9.nd rfl (Or.inl rfl) rfl (a1s rfl) (a1e rfl T.a2I (b6 (b9 2 (pv 2)) d8)) (a0i (by decide)) (fun _ _ _ _ _ _=>(C0 (i:=0) (show List.Nodup (["_law_j","_law_script","_law_k","_law_many","_law_letters","_law_word","_law_names_here","_law_size","_law_at","_law_j'","_law_sign"]:List Str) by decide +kernel) rfl (Or.inl rfl) (Or.inr rfl))) a0R (fun _ _ _ _ _ _=>a0h) (fun _ _ _ _ _ _=>(a0z (name:="join") (id:="str.join") (r:=rJoin K) rfl F.slot_str_join F.type_str_join a4e a5P (fun _ _ _ h=>a1T h) i9 (b6 (A0 (r:=P0 K) E5 K7 (b9 5 (pv 5)) B8 (v8 (fr:=true) (j1 (r:=m7 K) j0 m9 e7 (b9 0 (pv 0))))) d8))))) n8) (d9 (n9 (j7 (fr:=true) (r:=K1 K) (B3 hr.units) L4 (m8 _) (i6 rfl o2 (hr.mono (by omega)) rfl T.p9 T.i5.kp T.q5 j9 (b6 (b9 0 (pv 0)) (b6 (j1 (r:=m7 K) j0 m9 (b9 1 (pv 1)) e7) (b6 e7 d8)))) e7) (d9 (i7 (i:=6) P9.nd rfl (Or.inl rfl) (j1 (r:=m7 K) j0 m9 e7 (i6 rfl o2 (hr.mono (by omega)) rfl T.p9 T.i5.kp T.q5 j9 (b6 (b9 0 (pv 0)) (b6 (j1 (r:=m7 K) j0 m9 (b9 1 (pv 1)) e7) (b6 e7 d8)))))) (d9 (i7 (i:=7) P9.nd rfl (Or.inl rfl) (i6 rfl o2 (hr.mono (by omega)) rfl T.p9 T.i5.kp T.q5 j9 (b6 (b9 0 (pv 0)) (b6 (j1 (r:=m7 K) j0 m9 (b9 1 (pv 1)) e7) (b6 (b9 6 (pv 6)) d8))))) (d9 (Z6 (i:=5) P9.nd rfl (Or.inl rfl) (u9 d8)) (i3 (a1R PassesOwn.never rfl (a1e rfl T.a2I (b6 (b9 2 (pv 2)) d8)) (C0 (i:=8) P9.nd rfl (Or.inl rfl)) a1G (d9 (i7 (i:=9) P9.nd rfl (Or.inl rfl) (r9 (r:=rIx K) o3 z0 (b9 3 (pv 3)) (j1 V0 a1a (j1 (r:=m7 K) j0 m9 (j1 a1g a3R e7 (b9 8 (pv 8))) e7) e7) (fun _ _=>rfl))) (i3 (a0H 5 (pv 5) (a0z (name:="join") (id:="str.join") (r:=rJoin K) rfl F.slot_str_join F.type_str_join a4e a5P (fun _ _ _ h=>a1T h) i9 (b6 (j1 (r:=m7 K) j0 m9 (j1 (r:=m7 K) j0 m9 (A0 (r:=P0 K) E5 K7 (b9 4 (pv 4)) B8 (v8 (fr:=true) (b9 7 (pv 7)))) (u9 (b6 (b9 9 (pv 9)) d8))) (A0 (r:=P0 K) E5 K7 (b9 4 (pv 4)) (v8 (fr:=true) (j1 (r:=m7 K) j0 m9 (b9 7 (pv 7)) e7)) (v8 (fr:=true) (b9 6 (pv 6))))) d8)))))))))) n8) (i3 (P7 5 (pv 5))))))))⟩
theorem b4L (T:Txt K mg ad):m6 P w K mg base CX0 4 ad.a5G ad.a4B ["_law_script","_law_k"] (spF K U8):=by
 have o2:m6 P w K mg base CX0 1 _ _ _ (spF K i5):=X7 T
 have K2:m6 P w K mg base CX0 2 _ _ _ (spF K p6):=a5u T
 have b3s:m6 P w K mg base CX0 3 _ _ _ (spF K U7):=b7E T
 exact T.U8.okF (k:=3) a8t (by decide) fun cdv A outer s H E hr=>⟨_,(d9 (n9 (j7 (fr:=true) (r:=K1 K) (B3 hr.units) L4 (m8 _) (i6 rfl o2 (hr.mono (by omega)) rfl T.p9 T.i5.kp T.q5 j9 (b6 (b9 0 (pv 0)) (b6 (b9 1 (pv 1)) (b6 e7 d8)))) e7) (i3 (n6 (fr:=true) u6)) n8) (d9 (i7 (i:=2) a8t.nd rfl (Or.inl rfl) (L6 (b6 (i6 rfl b3s (hr.mono (by omega)) rfl T.b3d T.U7.kp T.b3p j9 (b6 (b9 0 (pv 0)) (b6 (j1 (r:=m7 K) j0 m9 (b9 1 (pv 1)) e7) d8))) (b6 (i6 rfl K2 (hr.mono (by omega)) rfl T.O1 T.p6.kp T.O3 j9 (b6 (b9 0 (pv 0)) (b6 (j1 (r:=m7 K) j0 m9 (b9 1 (pv 1)) e7) (b6 e7 d8)))) d8)))) (i3 (n6 (fr:=true) (j1 (r:=m7 K) j0 m9 (b9 2 (pv 2)) (L6 (b6 (i6 rfl b3s (hr.mono (by omega)) rfl T.b3d T.U7.kp T.b3p j9 (b6 (b9 0 (pv 0)) (b6 (j1 (r:=m7 K) j0 m9 (b9 1 (pv 1)) e7) d8))) (b6 (i6 rfl K2 (hr.mono (by omega)) rfl T.O1 T.p6.kp T.O3 j9 (b6 (b9 0 (pv 0)) (b6 (j1 (r:=m7 K) j0 m9 (b9 1 (pv 1)) e7) (b6 e7 d8)))) d8))))))))⟩
theorem b7H (T:Txt K mg ad):m6 P w K mg base CX0 5 ad.a9f ad.a7g ["_law_script"] (spF K a0n):=by
 have o2:m6 P w K mg base CX0 1 _ _ _ (spF K i5):=X7 T
 have b6m:m6 P w K mg base CX0 4 _ _ _ (spF K U8):=b4L T
 have c0T:m6 P w K mg base CX0 2 _ _ _ (spF K a0l):=b7F T
 have K2:m6 P w K mg base CX0 2 _ _ _ (spF K p6):=a5u T
 have b3r:m6 P w K mg base CX0 3 _ _ _ (spF K U6):=b7D T
 exact T.a0n.okF (k:=4) C5 (by decide) fun cdv A outer s H E hr=>⟨_,(d9 (i7 (i:=1) C5.nd rfl (Or.inl rfl) (j1 (r:=m7 K) j0 m9 e7 (i6 rfl o2 (hr.mono (by omega)) rfl T.p9 T.i5.kp T.q5 j9 (b6 (b9 0 (pv 0)) (b6 e7 (b6 (r9 (r:=rIx K) o3 z0 (u9 (b6 e7 (b6 e7 d8))) (i6 rfl o2 (hr.mono (by omega)) rfl T.p9 T.i5.kp T.q5 j9 (b6 (b9 0 (pv 0)) (b6 e7 (b6 e7 d8)))) (fun _ _=>rfl)) d8)))))) (d9 (Z6 (i:=2) C5.nd rfl (Or.inl rfl) (u9 d8)) (d9 (a1R PassesOwn.never rfl (a1e rfl T.a2I (b6 (b9 1 (pv 1)) d8)) (C0 (i:=3) C5.nd rfl (Or.inl rfl)) a1G (d9 (i7 (i:=4) C5.nd rfl (Or.inl rfl) (j1 (r:=m7 K) j0 m9 e7 (j1 a1g a3R e7 (b9 3 (pv 3))))) (d9 (i7 (i:=5) C5.nd rfl (Or.inl rfl) (i6 rfl K2 (hr.mono (by omega)) rfl T.O1 T.p6.kp T.O3 j9 (b6 (b9 0 (pv 0)) (b6 (b9 4 (pv 4)) (b6 e7 d8))))) (i3 (a0H 2 (pv 2) (L6 (b6 (b9 5 (pv 5)) (b6 (i6 rfl K2 (hr.mono (by omega)) rfl T.O1 T.p6.kp T.O3 j9 (b6 (b9 0 (pv 0)) (b6 (j1 (r:=m7 K) j0 m9 (b9 4 (pv 4)) e7) (b6 e7 d8)))) (b6 (i6 rfl b6m (hr.mono (by omega)) rfl T.b5Z T.U8.kp T.b6h j9 (b6 (b9 0 (pv 0)) (b6 (j1 (r:=m7 K) j0 m9 (b9 4 (pv 4)) e7) d8))) d8))))))))) (d9 (i7 (i:=6) C5.nd rfl (Or.inl rfl) (i6 rfl K2 (hr.mono (by omega)) rfl T.O1 T.p6.kp T.O3 j9 (b6 (b9 0 (pv 0)) (b6 e7 (b6 e7 d8))))) (d9 (i7 (i:=7) C5.nd rfl (Or.inl rfl) (r9 (r:=rIx K) o3 z0 (u9 (b6 e7 (b6 (b9 6 (pv 6)) (b6 (i6 rfl o2 (hr.mono (by omega)) rfl T.p9 T.i5.kp T.q5 j9 (b6 (b9 0 (pv 0)) (b6 e7 (b6 (j1 (r:=m7 K) j0 m9 (b9 6 (pv 6)) e7) d8)))) d8)))) (i6 rfl o2 (hr.mono (by omega)) rfl T.p9 T.i5.kp T.q5 j9 (b6 (b9 0 (pv 0)) (b6 e7 (b6 e7 d8)))) (fun _ _=>rfl))) (d9 (i7 (i:=8) C5.nd rfl (Or.inl rfl) (L6 (b6 (b9 6 (pv 6)) (b6 (b9 7 (pv 7)) (b6 (i6 rfl K2 (hr.mono (by omega)) rfl T.O1 T.p6.kp T.O3 j9 (b6 (b9 0 (pv 0)) (b6 e7 (b6 e7 d8)))) (b6 (i6 rfl K2 (hr.mono (by omega)) rfl T.O1 T.p6.kp T.O3 j9 (b6 (b9 0 (pv 0)) (b6 e7 (b6 e7 d8)))) d8)))))) (d9 (i7 (i:=8) C5.nd rfl (Or.inl rfl) (j1 (r:=m7 K) j0 m9 (b9 8 (pv 8)) (L6 (b6 (i6 rfl b3r (hr.mono (by omega)) rfl T.b3c T.U6.kp T.b3o j9 (b6 (b9 0 (pv 0)) (b6 e7 d8))) (b6 (i6 rfl b3r (hr.mono (by omega)) rfl T.b3c T.U6.kp T.b3o j9 (b6 (b9 0 (pv 0)) (b6 e7 d8))) (b6 (i6 rfl K2 (hr.mono (by omega)) rfl T.O1 T.p6.kp T.O3 j9 (b6 (b9 0 (pv 0)) (b6 e7 (b6 e7 d8)))) d8)))))) (d9 (Z6 (i:=9) C5.nd rfl (Or.inl rfl) (u9 d8)) (d9 (i7 (i:=10) C5.nd rfl (Or.inl rfl) (i6 rfl c0T (hr.mono (by omega)) rfl T.b9Z T.a0l.kp T.c0M j9 (b6 (b9 0 (pv 0)) (b6 e7 (b6 e7 d8))))) (d9 (a1R PassesOwn.never rfl (a1e rfl T.a2I (b6 (i6 rfl o2 (hr.mono (by omega)) rfl T.p9 T.i5.kp T.q5 j9 (b6 (b9 0 (pv 0)) (b6 e7 (b6 e7 d8)))) d8)) (C0 (i:=11) C5.nd rfl (Or.inl rfl)) a1G (d9 (i7 (i:=4) C5.nd rfl (Or.inl rfl) (j1 (r:=m7 K) j0 m9 e7 (j1 a1g a3R e7 (b9 11 (pv 11))))) (d9 (i7 (i:=12) C5.nd rfl (Or.inl rfl) (i6 rfl o2 (hr.mono (by omega)) rfl T.p9 T.i5.kp T.q5 j9 (b6 (b9 0 (pv 0)) (b6 (b9 4 (pv 4)) (b6 (b9 1 (pv 1)) d8))))) (d9 (i7 (i:=13) C5.nd rfl (Or.inl rfl) (j1 (r:=m7 K) j0 m9 (b9 12 (pv 12)) (i6 rfl o2 (hr.mono (by omega)) rfl T.p9 T.i5.kp T.q5 j9 (b6 (b9 0 (pv 0)) (b6 (j1 (r:=m7 K) j0 m9 (b9 4 (pv 4)) e7) (b6 (j1 c5U c6P (b9 1 (pv 1)) (b9 12 (pv 12))) d8)))))) (d9 (i7 (i:=14) C5.nd rfl (Or.inl rfl) (i6 rfl K2 (hr.mono (by omega)) rfl T.O1 T.p6.kp T.O3 j9 (b6 (b9 0 (pv 0)) (b6 (j1 (r:=m7 K) j0 m9 (b9 4 (pv 4)) e7) (b6 e7 d8))))) (i3 (a0H 9 (pv 9) (L6 (b6 (r9 (r:=rIx K) o3 z0 (b9 10 (pv 10)) (b9 11 (pv 11)) (fun _ _=>rfl)) (b6 (b9 14 (pv 14)) (b6 (b9 12 (pv 12)) (b6 (b9 13 (pv 13)) (b6 (i6 rfl K2 (hr.mono (by omega)) rfl T.O1 T.p6.kp T.O3 j9 (b6 (b9 0 (pv 0)) (b6 (j1 (r:=m7 K) j0 m9 (b9 4 (pv 4)) e7) (b6 e7 d8)))) d8))))))))))))) (i3 (n6 (fr:=false) (a1p (L6 (b6 (G9 (r:=a6B K) S7 a2C rfl T.a0J Z2 (b6 (b9 2 (pv 2)) d8)) (b6 (b9 8 (pv 8)) (b6 (G9 (r:=a6B K) S7 a2C rfl T.a0J Z2 (b6 (b9 9 (pv 9)) d8)) d8)))))))))))))))))⟩
theorem b4K (T:Txt K mg ad):m6 P w K mg base CX0 1 ad.a5F ad.a4A ["_law_one"] (spF K M9):=by
 exact T.M9.okF (k:=0) b4t (by decide) fun cdv A outer s H E hr=>⟨_,(d9 (n9 (j7 (fr:=true) (r:=K1 K) (B3 hr.units) L4 (m8 _) (r9 (r:=rIx K) o3 z0 (b9 0 (pv 0)) e7 (fun _ _=>rfl)) e7) (i3 (n6 (fr:=true) (G9 a0e a9w rfl T.a6O a4L (b6 (r9 (r:=rIx K) o3 z0 (b9 0 (pv 0)) e7 (fun _ _=>rfl)) d8)))) n8) (i3 (n6 (fr:=true) (j1 (r:=m7 K) j0 m9 (j1 (r:=m7 K) j0 m9 (G9 a0e a9w rfl T.a6O a4L (b6 (r9 (r:=rIx K) o3 z0 (b9 0 (pv 0)) e7 (fun _ _=>rfl)) d8)) i9) (G9 a0e a9w rfl T.a6O a4L (b6 (r9 (r:=rIx K) o3 z0 (b9 0 (pv 0)) e7 (fun _ _=>rfl)) d8))))))⟩
theorem b9C (T:Txt K mg ad):m6 P w K mg base CX0 1 ad.b0M ad.a8X ["_law_words"] (spF K J3):=by
 exact T.J3.okF (k:=0) b9a (by decide) fun cdv A outer s H E hr=>⟨_,(i3 (n6 (fr:=true) (a0z (name:="join") (id:="str.join") (r:=rJoin K) rfl F.slot_str_join F.type_str_join a4e a5P (fun _ _ _ h=>a1T h) i9 (b6 (a4d (bs:=["_law_word"]) (nb:=["_law_words"]) rfl (a1s rfl) (a1f (b9 0 (pv 0))) (a0i (by decide)) (fun _ _ _ _ _ _=>(C0 (i:=0) (show List.Nodup (["_law_word","_law_words"]:List Str) by decide +kernel) rfl (Or.inl rfl) (Or.inr rfl))) a0R (fun _ _ _ _ _ _=>a0h) (fun _ _ _ _ _ _=>(G9 (a0e.or b5r) (a9w.or c5c) rfl T.a6O a4L (b6 (b9 0 (pv 0)) d8)))) d8))))⟩
theorem b7G (T:Txt K mg ad):m6 P w K mg base CX0 2 ad.a9e ad.a7f ["_law_house_here"] (spF K a0m):=by
 have a7v:m6 P w K mg base CX0 1 _ _ _ (spF K J3):=b9C T
 have b0g:m6 P w K mg base CX0 1 _ _ _ (spF K M9):=b4K T
 exact T.a0m.okF (k:=1) T3 (by decide) fun cdv A outer s H E hr=>⟨_,(d9 (c3R (b9 0 (pv 0)) (b1v (n:=3) rfl (Z0 (C0 (i:=1) T3.nd rfl (Or.inl rfl)) (Z0 (C0 (i:=2) T3.nd rfl (Or.inl rfl)) (Z0 (C0 (i:=3) T3.nd rfl (Or.inl rfl)) a9B)))) (b6s (a1P (a1P (a1P b4o))))) (d9 (i7 (i:=4) T3.nd rfl (Or.inl rfl) (L6 (b6 (i6 rfl b0g (hr.mono (by omega)) rfl T.a9Z T.M9.kp T.b0f j9 (b6 (r9 (r:=rIx K) o3 z0 (b9 2 (pv 2)) e7 (fun _ _=>rfl)) d8)) (b6 (i6 rfl b0g (hr.mono (by omega)) rfl T.a9Z T.M9.kp T.b0f j9 (b6 (r9 (r:=rIx K) o3 z0 (b9 2 (pv 2)) e7 (fun _ _=>rfl)) d8)) d8)))) (d9 (Z6 (i:=5) T3.nd rfl (Or.inl rfl) (u9 (b6 (i6 rfl a7v (hr.mono (by omega)) rfl T.a6P T.J3.kp T.a7t j9 (b6 (j1 (r:=m7 K) j0 m9 (j1 (r:=m7 K) j0 m9 (j1 (r:=m7 K) j0 m9 (L6 (b6 i9 d8)) (A0 (r:=P0 K) E5 K7 (b9 2 (pv 2)) B8 (v8 (fr:=true) e7))) (b9 4 (pv 4))) (A0 (r:=P0 K) E5 K7 (b9 2 (pv 2)) (v8 (fr:=true) e7) B8)) d8)) d8))) (d9 (a1R PassesOwn.never rfl (a1f (b9 1 (pv 1))) (b1v (n:=3) rfl (Z0 (C0 (i:=6) T3.nd rfl (Or.inl rfl)) (Z0 (C0 (i:=7) T3.nd rfl (Or.inl rfl)) (Z0 (C0 (i:=8) T3.nd rfl (Or.inl rfl)) a9B)))) (b6s (a1P (a1P (a1P b4o)))) (i3 (n9 (j7 (fr:=true) R5 a0P (m8 _) (b9 8 (pv 8)) u6) (i3 (a0H 5 (pv 5) (i6 rfl a7v (hr.mono (by omega)) rfl T.a6P T.J3.kp T.a7t j9 (b6 (L6 (b6 i9 (b6 (b9 6 (pv 6)) (b6 (b9 7 (pv 7)) (b6 i9 d8))))) d8)))) (i3 (a0H 5 (pv 5) (i6 rfl a7v (hr.mono (by omega)) rfl T.a6P T.J3.kp T.a7t j9 (b6 (j1 (r:=m7 K) j0 m9 (L6 (b6 i9 (b6 (b9 6 (pv 6)) (b6 (b9 7 (pv 7)) (b6 i9 d8))))) (b9 8 (pv 8))) d8))))))) (i3 (n6 (fr:=false) (a1p (j1 (r:=m7 K) j0 m9 (b9 5 (pv 5)) (a4d (bs:=["_law_work"]) (nb:=["_law_house_here","_law_hours","_law_store","_law_works","_law_shares","_law_lines_here","_law_sun","_law_need","_law_line_here"]) rfl (a1s rfl) (a1f (b9 3 (pv 3))) (a0i (by decide)) (fun _ _ _ _ _ _=>(C0 (i:=0) (show List.Nodup (["_law_work","_law_house_here","_law_hours","_law_store","_law_works","_law_shares","_law_lines_here","_law_sun","_law_need","_law_line_here"]:List Str) by decide +kernel) rfl (Or.inl rfl) (Or.inr rfl))) a0R (fun _ _ _ _ _ _=>a0h) (fun _ _ _ _ _ _=>(i6 rfl a7v (hr.mono (by omega)) rfl T.a6P T.J3.kp T.a7t j9 (b6 (j1 (r:=m7 K) j0 m9 (L6 (b6 i9 d8)) (b9 0 (pv 0))) d8))))))))))))⟩
theorem c1S (T:Txt K mg ad):m6 P w K mg base CX0 1 ad.b2B ad.b0L ["_law_cell"] (spF K V1):=by
 exact T.V1.okF (k:=0) G8 (by decide) fun cdv A outer s H E hr=>⟨_,(d9 (i7 (i:=1) G8.nd rfl (Or.inl rfl) (u9 (b6 i9 (b6 i9 (b6 i9 (b6 i9 (b6 i9 (b6 i9 d8)))))))) (d9 (i7 (i:=1) G8.nd rfl (Or.inl rfl) (j1 (r:=m7 K) j0 m9 (b9 1 (pv 1)) (u9 (b6 i9 (b6 i9 (b6 i9 d8)))))) (d9 (i7 (i:=1) G8.nd rfl (Or.inl rfl) (j1 (r:=m7 K) j0 m9 (b9 1 (pv 1)) (u9 (b6 i9 (b6 i9 (b6 i9 d8)))))) (d9 (i7 (i:=1) G8.nd rfl (Or.inl rfl) (j1 (r:=m7 K) j0 m9 (b9 1 (pv 1)) (u9 (b6 i9 (b6 i9 (b6 i9 d8)))))) (d9 (i7 (i:=1) G8.nd rfl (Or.inl rfl) (j1 (r:=m7 K) j0 m9 (b9 1 (pv 1)) (u9 (b6 i9 (b6 i9 (b6 i9 (b6 i9 d8))))))) (d9 (i7 (i:=1) G8.nd rfl (Or.inl rfl) (j1 (r:=m7 K) j0 m9 (b9 1 (pv 1)) (u9 (b6 i9 (b6 i9 (b6 i9 (b6 i9 (b6 i9 d8)))))))) (d9 (i7 (i:=1) G8.nd rfl (Or.inl rfl) (j1 (r:=m7 K) j0 m9 (b9 1 (pv 1)) (u9 (b6 i9 (b6 i9 (b6 i9 (b6 i9 d8))))))) (d9 (i7 (i:=1) G8.nd rfl (Or.inl rfl) (j1 (r:=m7 K) j0 m9 (b9 1 (pv 1)) (u9 (b6 i9 (b6 i9 (b6 i9 (b6 i9 d8))))))) (d9 (i7 (i:=1) G8.nd rfl (Or.inl rfl) (j1 (r:=m7 K) j0 m9 (b9 1 (pv 1)) (u9 (b6 i9 (b6 i9 (b6 i9 d8)))))) (d9 (i7 (i:=1) G8.nd rfl (Or.inl rfl) (j1 (r:=m7 K) j0 m9 (b9 1 (pv 1)) (u9 (b6 i9 (b6 i9 (b6 i9 d8)))))) (d9 (i7 (i:=1) G8.nd rfl (Or.inl rfl) (j1 (r:=m7 K) j0 m9 (b9 1 (pv 1)) (u9 (b6 i9 (b6 i9 (b6 i9 (b6 i9 (b6 i9 (b6 i9 d8))))))))) (d9 (i7 (i:=1) G8.nd rfl (Or.inl rfl) (j1 (r:=m7 K) j0 m9 (b9 1 (pv 1)) (u9 (b6 i9 (b6 i9 (b6 i9 (b6 i9 d8))))))) (d9 (i7 (i:=1) G8.nd rfl (Or.inl rfl) (j1 (r:=m7 K) j0 m9 (b9 1 (pv 1)) (u9 (b6 i9 (b6 i9 (b6 i9 (b6 i9 d8))))))) (d9 (i7 (i:=1) G8.nd rfl (Or.inl rfl) (j1 (r:=m7 K) j0 m9 (b9 1 (pv 1)) (u9 (b6 i9 (b6 i9 (b6 i9 (b6 i9 d8))))))) (d9 (i7 (i:=1) G8.nd rfl (Or.inl rfl) (j1 (r:=m7 K) j0 m9 (b9 1 (pv 1)) (u9 (b6 i9 (b6 i9 (b6 i9 (b6 i9 (b6 i9 (b6 i9 d8))))))))) (d9 (i7 (i:=1) G8.nd rfl (Or.inl rfl) (j1 (r:=m7 K) j0 m9 (b9 1 (pv 1)) (u9 (b6 i9 d8)))) (i3 (n6 (fr:=true) (r9 (r:=rIx K) o3 z0 (b9 1 (pv 1)) (j1 V0 a1a (b9 0 (pv 0)) e7) (fun _ _=>rfl))))))))))))))))))))⟩
theorem b7I (T:Txt K mg ad):m6 P w K mg base CX0 2 ad.a9g ad.a7h ["_law_script","_law_line_here"] (spF K Y6):=by
 have o2:m6 P w K mg base CX0 1 _ _ _ (spF K i5):=X7 T
 exact T.Y6.okF (k:=1) a3V (by decide) fun cdv A outer s H E hr=>⟨_,(d9 (i7 (i:=2) a3V.nd rfl (Or.inl rfl) (i6 rfl o2 (hr.mono (by omega)) rfl T.p9 T.i5.kp T.q5 j9 (b6 (b9 0 (pv 0)) (b6 e7 (b6 e7 d8))))) (d9 (a3n (i:=3) (bs:=["_law_k"]) (nb:=["_law_script","_law_line_here","_law_way","_law_at","_law_k'"]) a3V.nd rfl (Or.inl rfl) rfl (a1s rfl) (a1e rfl T.a2I (b6 (u3 (r:=P1 K) v7 K8 rfl T.K9 E6 (b6 (b9 1 (pv 1)) d8)) d8)) (a0i (by decide)) (fun _ _ _ _ _ _=>(C0 (i:=0) (show List.Nodup (["_law_k","_law_script","_law_line_here","_law_way","_law_at","_law_k'"]:List Str) by decide +kernel) rfl (Or.inl rfl) (Or.inr rfl))) a0R (fun _ _ _ _ _ _=>(b2X (j7 (fr:=true) (r:=K1 K) (B3 hr.units) L4 (m8 _) (r9 (r:=rIx K) o3 z0 (b9 2 (pv 2)) (b9 0 (pv 0)) (fun _ _=>rfl)) i9))) (fun _ _ _ _ _ _=>(b9 0 (pv 0)))) (d9 (n9 (j7 (fr:=true) (r:=K1 K) (B3 hr.units) L4 (m8 _) (b9 2 (pv 2)) e7) (i3 (n6 (fr:=true) (j1 (r:=m7 K) j0 m9 i9 (b9 1 (pv 1))))) n8) (d9 (n9 (j7 (fr:=true) (r:=K1 K) (B3 hr.units) L4 (m8 _) (b9 2 (pv 2)) e7) (i3 (n6 (fr:=true) (j1 (r:=m7 K) j0 m9 (b9 1 (pv 1)) i9))) n8) (d9 (i7 (i:=4) a3V.nd rfl (Or.inl rfl) (r9 (r:=rIx K) o3 z0 (b9 3 (pv 3)) (i6 rfl o2 (hr.mono (by omega)) rfl T.p9 T.i5.kp T.q5 j9 (b6 (b9 0 (pv 0)) (b6 e7 (b6 (u3 (r:=P1 K) v7 K8 rfl T.K9 E6 (b6 (b9 3 (pv 3)) d8)) d8)))) (fun _ _=>rfl))) (i3 (n6 (fr:=true) (j1 (r:=m7 K) j0 m9 (j1 (r:=m7 K) j0 m9 (A0 (r:=P0 K) E5 K7 (b9 1 (pv 1)) B8 (v8 (fr:=true) (b9 4 (pv 4)))) i9) (A0 (r:=P0 K) E5 K7 (b9 1 (pv 1)) (v8 (fr:=true) (b9 4 (pv 4))) B8)))))))))⟩
theorem b9D (T:Txt K mg ad):m6 P w K mg base CX0 2 ad.b0O ad.a8Z ["_law_script","_law_line_here"] (spF K a0v):=by
 have o2:m6 P w K mg base CX0 1 _ _ _ (spF K i5):=X7 T
 exact T.a0v.okF (k:=1) a0T (by decide) fun cdv A outer s H E hr=>⟨_,(d9 (i7 (i:=2) a0T.nd rfl (Or.inr rfl) (a0z (name:="split") (id:="str.split") rfl F.slot_str_split F.type_str_split b0B b1W (fun _ _ _ h=>a6x h) (b9 1 (pv 1)) (b6 i9 d8))) (d9 (i7 (i:=3) a0T.nd rfl (Or.inl rfl) (i6 rfl o2 (hr.mono (by omega)) rfl T.p9 T.i5.kp T.q5 j9 (b6 (b9 0 (pv 0)) (b6 e7 (b6 e7 d8))))) (d9 (n9 (j7 (fr:=true) (r:=K1 K) (B3 hr.units) L4 (m8 _) (b9 3 (pv 3)) e7) (i3 (n6 (fr:=true) (j1 (r:=m7 K) j0 m9 (j1 (r:=m7 K) j0 m9 (b9 1 (pv 1)) i9) (r9 (r:=rIx K) o3 z0 (u9 (b6 i9 (b6 i9 (b6 (r9 (r:=rIx K) o3 z0 (b9 2 (pv 2)) (a6C a4h a6q e7) (fun _ _=>rfl)) d8)))) (i6 rfl o2 (hr.mono (by omega)) rfl T.p9 T.i5.kp T.q5 j9 (b6 (b9 0 (pv 0)) (b6 e7 (b6 e7 d8)))) (fun _ _=>rfl))))) n8) (d9 (n9 (j7 (fr:=true) (r:=K1 K) (B3 hr.units) L4 (m8 _) (b9 3 (pv 3)) e7) (i3 (n6 (fr:=true) (a0z (name:="join") (id:="str.join") (r:=rJoin K) rfl F.slot_str_join F.type_str_join a4e a5P (fun _ _ _ h=>a1T h) i9 (b6 (A0 (r:=P0 K) E5 K7 (b9 2 (pv 2)) B8 (v8 (fr:=true) (a6C a4h a6q e7))) d8)))) n8) (d9 (a3n (i:=4) (bs:=["_law_k"]) (nb:=["_law_script","_law_line_here","_law_words","_law_way","_law_at","_law_k'","_law_old","_law_some"]) a0T.nd rfl (Or.inl rfl) rfl (a1s rfl) (b7y rfl T.a2I (b6 e7 (b6 (u3 (r:=P1 K) v7 K8 rfl T.K9 E6 (b6 (b9 2 (pv 2)) d8)) d8))) (a0i (by decide)) (fun _ _ _ _ _ _=>(C0 (i:=0) (show List.Nodup (["_law_k","_law_script","_law_line_here","_law_words","_law_way","_law_at","_law_k'","_law_old","_law_some"]:List Str) by decide +kernel) rfl (Or.inl rfl) (Or.inr rfl))) a0R (fun _ _ _ _ _ _=>(b2X (j7 (fr:=true) (r:=a8z K false) b9A c2O (by with_unfolding_all rfl) (r9 (r:=rIx K) o3 z0 (r9 (r:=rIx K) o3 z0 (b9 3 (pv 3)) (b9 0 (pv 0)) (fun _ _=>rfl)) e7 (fun _ _=>rfl)) i9))) (fun _ _ _ _ _ _=>(b9 0 (pv 0)))) (d9 (i7 (i:=5) a0T.nd rfl (Or.inl rfl) (r9 (r:=rIx K) o3 z0 (b9 4 (pv 4)) (i6 rfl o2 (hr.mono (by omega)) rfl T.p9 T.i5.kp T.q5 j9 (b6 (b9 0 (pv 0)) (b6 e7 (b6 (u3 (r:=P1 K) v7 K8 rfl T.K9 E6 (b6 (b9 4 (pv 4)) d8)) d8)))) (fun _ _=>rfl))) (d9 (i7 (i:=6) a0T.nd rfl (Or.inl rfl) (r9 (r:=rIx K) o3 z0 (b9 2 (pv 2)) (b9 5 (pv 5)) (fun _ _=>rfl))) (d9 (i7 (i:=7) a0T.nd rfl (Or.inl rfl) (u9 (b6 (j1 (r:=m7 K) j0 m9 i9 (b9 6 (pv 6))) (b6 (j1 (r:=m7 K) j0 m9 i9 (b9 6 (pv 6))) (b6 (j1 (r:=m7 K) j0 m9 (b9 6 (pv 6)) i9) (b6 i9 (b6 i9 (b6 (j1 (r:=m7 K) j0 m9 (b9 6 (pv 6)) i9) (b6 (j1 (r:=m7 K) j0 m9 (b9 6 (pv 6)) i9) (b6 i9 (b6 i9 d8))))))))))) (i3 (n6 (fr:=true) (a0z (name:="join") (id:="str.join") (r:=rJoin K) rfl F.slot_str_join F.type_str_join a4e a5P (fun _ _ _ h=>a1T h) i9 (b6 (j1 (r:=m7 K) j0 m9 (j1 (r:=m7 K) j0 m9 (A0 (r:=P0 K) E5 K7 (b9 2 (pv 2)) B8 (v8 (fr:=true) (b9 5 (pv 5)))) (u9 (b6 (r9 (r:=rIx K) o3 z0 (b9 7 (pv 7)) (i6 rfl o2 (hr.mono (by omega)) rfl T.p9 T.i5.kp T.q5 j9 (b6 (b9 0 (pv 0)) (b6 e7 (b6 e7 d8)))) (fun _ _=>rfl)) d8))) (A0 (r:=P0 K) E5 K7 (b9 2 (pv 2)) (v8 (fr:=true) (j1 (r:=m7 K) j0 m9 (b9 5 (pv 5)) e7)) B8)) d8))))))))))))⟩
theorem b5T (T:Txt K mg ad):m6 P w K mg base CX0 3 ad.a7i ad.a5y ["_law_script","_law_lines_here"] (spF K Y3):=by
 have c2M:m6 P w K mg base CX0 2 _ _ _ (spF K a0v):=b9D T
 have c0W:m6 P w K mg base CX0 2 _ _ _ (spF K Y6):=b7I T
 have o2:m6 P w K mg base CX0 1 _ _ _ (spF K i5):=X7 T
 have b6R:m6 P w K mg base CX0 1 _ _ _ (spF K V1):=c1S T
 exact T.Y3.okF (k:=2) U2 (by decide) fun cdv A outer s H E hr=>⟨_,(d9 (i7 (i:=2) U2.nd rfl (Or.inl rfl) (i6 rfl o2 (hr.mono (by omega)) rfl T.p9 T.i5.kp T.q5 j9 (b6 (b9 0 (pv 0)) (b6 e7 (b6 e7 d8))))) (d9 (b4D 1 (Z6 (i:=1) U2.nd rfl (Or.inl rfl) (G9 (r:=c5A K) b5s c5e rfl T.b1B a9Q (b6 (b9 1 (pv 1)) d8)))) (d9 (i7 (i:=3) U2.nd rfl (Or.inl rfl) (c2X (a1p (i6 rfl o2 (hr.mono (by omega)) rfl T.p9 T.i5.kp T.q5 j9 (b6 (b9 0 (pv 0)) (b6 e7 (b6 (j1 (r:=m7 K) j0 m9 (u3 (r:=P1 K) v7 K8 rfl T.K9 E6 (b6 (b9 1 (pv 1)) d8)) e7) d8))))))) (d9 (n9 (PWX.pt (G0 (j7 (fr:=true) (r:=K1 K) (B3 hr.units) L4 (m8 _) (b9 2 (pv 2)) e7) (L3 (j7 (fr:=false) (r:=K1 K) (B3 hr.units) L4 (m8 _) (a1p (b9 3 (pv 3))) (a1p (u3 (r:=P1 K) v7 K8 rfl T.K9 E6 (b6 (b9 1 (pv 1)) d8))))))) (i3 (b6z 1 (pv 1) (b9 3 (pv 3)) (i6 rfl b6R (hr.mono (by omega)) rfl T.b6F T.V1.kp T.b6Q j9 (b6 (i6 rfl o2 (hr.mono (by omega)) rfl T.p9 T.i5.kp T.q5 j9 (b6 (b9 0 (pv 0)) (b6 e7 (b6 e7 d8)))) d8)))) (i3 (n9 (j7 (fr:=true) (r:=K1 K) (B3 hr.units) L4 (m8 _) (b9 2 (pv 2)) e7) (i3 (b0u 1 (pv 1) (b9 3 (pv 3)) (i6 rfl c0W (hr.mono (by omega)) rfl T.c0c T.Y6.kp T.c0P j9 (b6 (b9 0 (pv 0)) (b6 (b1u 1 (pv 1) (b9 3 (pv 3))) d8))))) (i3 (n9 (j7 (fr:=true) (r:=K1 K) (B3 hr.units) L4 (m8 _) (b9 2 (pv 2)) e7) (i3 (b0u 1 (pv 1) (b9 3 (pv 3)) (j1 (r:=m7 K) j0 m9 (c1F (r9 (r:=rIx K) o3 z0 (b1u 1 (pv 1) (b9 3 (pv 3))) e7 (fun _ _=>rfl))) (A0 (r:=P0 K) E5 K7 (b1u 1 (pv 1) (b9 3 (pv 3))) (v8 (fr:=true) e7) B8)))) (i3 (n9 (j7 (fr:=true) (r:=K1 K) (B3 hr.units) L4 (m8 _) (b9 2 (pv 2)) e7) (d9 (i7 (i:=3) U2.nd rfl (Or.inl rfl) (i6 rfl o2 (hr.mono (by omega)) rfl T.p9 T.i5.kp T.q5 j9 (b6 (b9 0 (pv 0)) (b6 e7 (b6 e7 d8))))) (i3 (b4D 1 (Z6 (i:=1) U2.nd rfl (Or.inl rfl) (A0 (r:=P0 K) E5 K7 (b9 1 (pv 1)) B8 (v8 (fr:=true) (b9 3 (pv 3)))))))) (i3 (b0u 1 (pv 1) (b9 3 (pv 3)) (i6 rfl c2M (hr.mono (by omega)) rfl T.c2c T.a0v.kp T.c2H j9 (b6 (b9 0 (pv 0)) (b6 (b1u 1 (pv 1) (b9 3 (pv 3))) d8)))))))))))) (d9 (n9 (j7 (fr:=true) (r:=K1 K) (B3 hr.units) L4 (m8 _) (i6 rfl o2 (hr.mono (by omega)) rfl T.p9 T.i5.kp T.q5 j9 (b6 (b9 0 (pv 0)) (b6 e7 (b6 e7 d8)))) e7) (d9 (i7 (i:=4) U2.nd rfl (Or.inl rfl) (j1 (r:=m7 K) j0 m9 (j1 (r:=m7 K) j0 m9 (b9 3 (pv 3)) e7) (i6 rfl o2 (hr.mono (by omega)) rfl T.p9 T.i5.kp T.q5 j9 (b6 (b9 0 (pv 0)) (b6 e7 (b6 e7 d8)))))) (d9 (i7 (i:=5) U2.nd rfl (Or.inl rfl) (i6 rfl b6R (hr.mono (by omega)) rfl T.b6F T.V1.kp T.b6Q j9 (b6 (i6 rfl o2 (hr.mono (by omega)) rfl T.p9 T.i5.kp T.q5 j9 (b6 (b9 0 (pv 0)) (b6 e7 (b6 e7 d8)))) d8))) (i3 (b6z 1 (pv 1) (c2X (a1p (u3 (c0D rfl) c6S rfl T.c7n c6I (b6 (u3 (r:=P1 K) v7 K8 rfl T.K9 E6 (b6 (b9 1 (pv 1)) d8)) (b6 (b9 4 (pv 4)) d8))))) (b9 5 (pv 5)))))) n8) (i3 (n6 (fr:=false) (a1p (L6 (b6 (b9 1 (pv 1)) (b6 (b9 3 (pv 3)) d8)))))))))))⟩
theorem b1x (T:Txt K mg ad):m6 P w K mg base CX0 10 ad.a2Y ad.a2n ["_law_lines_here"] (spF K (M8 ad.o6)):=by
 have c5a:m6 P w K mg base (CX1 P w) 9 _ _ _ (spX K (O8 ad.o6)):=c1R T
 exact T.M8.okF (k:=9) a0L (by decide) fun cdv A outer s H E hr=>⟨_,(d9 (i7 (i:=1) a0L.nd rfl (Or.inl rfl) u6) (d9 (c1G (j:=2) ⟨rfl,rfl⟩ (fun _ _ z=>z) c5a (hr.mono (by omega)) rfl T.b9Y T.a1u.kp T.c0L (b6 (b9 0 (pv 0)) d8) T.xK rfl T.a4V a0L.nd rfl rfl (fun ea=>(i3 (i7 (i:=1) a0L.nd rfl (Or.inl rfl) (b9 2 (pv 2)))))) (d9 (n9 (PWX.pt (G0 (j7 (fr:=true) R5 a0P (m8 _) (b9 1 (pv 1)) u6) (G0 (a9z (U9 (fr:=true) (a5Z (vc:=.ref ad.A1) (uc:=.ref ad.A1) (fun _ h=>h) T.a0b T.Y0 rfl T.v9 u5 (b9 1 (pv 1)) (a2G (v:=.ref ad.A1) rfl T.a7z rfl)))) (L3 (a9z (U9 (fr:=true) (a5Z (vc:=.ty "ValueError") (uc:=.type "ValueError") (fun _ h=>h) T.a0a T.X9 rfl T.v9 u5 (b9 1 (pv 1)) (R8 (v:=.ty "ValueError") rfl T.b4Q b3P rfl)))))))) (i3 (n6 (fr:=true) u6)) n8) (d9 (n9 (PWX.pt (G0 (U9 (fr:=true) (a5Z (vc:=.ref ad.J5) (uc:=.ref ad.J5) (fun _ h=>h) T.a0c T.Y1 rfl T.v9 u5 (b9 1 (pv 1)) (a2G (v:=.ref ad.J5) rfl T.b3u rfl))) (L3 (U9 (fr:=true) (a5Z (vc:=.ref ad.O6) (uc:=.ref ad.O6) (fun _ h=>h) T.a0W T.a0D rfl T.v9 u5 (b9 1 (pv 1)) (a2G (v:=.ref ad.O6) rfl T.b5K rfl)))))) (i3 (n6 (fr:=true) u6)) n8) (d9 (n9 (PWX.pt (G0 (U9 (fr:=true) (a5Z (vc:=.ref ad.V6) (uc:=.ref ad.V6) (fun _ h=>h) T.a2d T.a1q rfl T.v9 u5 (b9 1 (pv 1)) (a2G (v:=.ref ad.V6) rfl T.b8J rfl))) (L3 (U9 (fr:=true) (a5Z (vc:=.ref ad.O5) (uc:=.ref ad.O5) (fun _ h=>h) T.a0V T.a0C rfl T.v9 u5 (b9 1 (pv 1)) (a2G (v:=.ref ad.O5) rfl T.b5J rfl)))))) (i3 (n6 (fr:=true) u6)) n8) (i3 (n6 (fr:=true) (c3O (K':=K) rfl (b9 1 (pv 1))))))))))⟩
theorem c6d (T:Txt K mg ad):m6 P w K mg base CX0 11 ad.b8l ad.b5j ["_law_script"] (spF K (a4a ad.o6)):=by
 have c0V:m6 P w K mg base CX0 5 _ _ _ (spF K a0n):=b7H T
 have c0U:m6 P w K mg base CX0 2 _ _ _ (spF K a0m):=b7G T
 have b2I:m6 P w K mg base CX0 10 _ _ _ (spF K (M8 ad.o6)):=b1x T
 have a7u:m6 P w K mg base CX0 6 _ _ _ (spF K V5):=b9B T
 have b8D:m6 P w K mg base CX0 3 _ _ _ (spF K Y3):=b5T T
 have c6N:m6 P w K mg base CX0 9 _ _ _ (spF K a1u):=c4i T
 exact T.a4a.okF (k:=10) b1n (by decide) fun cdv A outer s H E hr=>⟨_,(d9 (i7 (i:=1) b1n.nd rfl (Or.inl rfl) (i6 rfl c0V (hr.mono (by omega)) rfl T.c0b T.a0n.kp T.c0O j9 (b6 (b9 0 (pv 0)) d8))) (d9 (i7 (i:=2) b1n.nd rfl (Or.inl rfl) (i6 rfl c0U (hr.mono (by omega)) rfl T.c0a T.a0m.kp T.c0N j9 (b6 (b9 1 (pv 1)) d8))) (d9 (i7 (i:=3) b1n.nd rfl (Or.inl rfl) (i6 rfl b8D (hr.mono (by omega)) rfl T.b7X T.Y3.kp T.b8o j9 (b6 (b9 0 (pv 0)) (b6 (b9 2 (pv 2)) d8)))) (d9 (n9 (a9z (U9 (fr:=true) (i6 rfl a7u (hr.mono (by omega)) rfl T.b0C T.V5.kp T.b0Z j9 (b6 (i6 rfl b2I (hr.mono (by omega)) rfl T.b2l T.M8.kp T.b2D j9 (b6 (r9 (r:=rIx K) o3 z0 (b9 3 (pv 3)) e7 (fun _ _=>rfl)) d8)) (b6 (r9 (r:=rIx K) o3 z0 (b9 3 (pv 3)) e7 (fun _ _=>rfl)) d8))))) (i3 (n6 (fr:=true) c2Z)) n8) (i3 (n6 (fr:=true) (i6 rfl a7u (hr.mono (by omega)) rfl T.b0C T.V5.kp T.b0Z j9 (b6 (i6 rfl c6N (hr.mono (by omega)) rfl T.b9Y T.a1u.kp T.c0L j9 (b6 (b9 2 (pv 2)) d8)) (b6 (b9 1 (pv 1)) d8)))))))))⟩
end
theorem all_mk {l:PySem.W.OpenLaw} {w:World} {K:PySem.W.Frag} {h:Heap} {mg:Str->Option Value} {fa:Addr} (X:K.In h) (G:h.Ns mainGlobals mg) (hfa:mg "law" = some (.ref fa))
  {f0:Addr} {od0 an0:Option Addr} {sl0:Array (Option Value)} {oc0 kV0 dc0 pm0 cd0 ct0:Value}
  (a0:PySem.W.nsIn K mainGlobals "common_divisor" = some (some (.ref f0))) (l0:K.lookup f0=some ⟨oc0,od0,.func (PySem.W.fnOf "common_divisor" "common_divisor" (j5 E8) (j3 E8) (e9 E8) .none kV0 dc0 pm0 an0 cd0 ct0),sl0⟩) (c0:PySem.W.codeIn K cd0 "common_divisor" = true) (k0:PySem.W.keepIn K (.ref f0)=true)
  {f1:Addr} {od1 an1:Option Addr} {sl1:Array (Option Value)} {oc1 kV1 dc1 pm1 cd1 ct1:Value}
  (a1:PySem.W.nsIn K mainGlobals "fraction" = some (some (.ref f1))) (l1:K.lookup f1=some ⟨oc1,od1,.func (PySem.W.fnOf "fraction" "fraction" (j5 T8) (j3 T8) (e9 T8) .none kV1 dc1 pm1 an1 cd1 ct1),sl1⟩) (c1:PySem.W.codeIn K cd1 "fraction" = true) (k1:PySem.W.keepIn K (.ref f1)=true)
  {f2:Addr} {od2 an2:Option Addr} {sl2:Array (Option Value)} {oc2 kV2 dc2 pm2 cd2 ct2:Value}
  (a2:PySem.W.nsIn K mainGlobals "figures_of" = some (some (.ref f2))) (l2:K.lookup f2=some ⟨oc2,od2,.func (PySem.W.fnOf "figures_of" "figures_of" (j5 N9) (j3 N9) (e9 N9) .none kV2 dc2 pm2 an2 cd2 ct2),sl2⟩) (c2:PySem.W.codeIn K cd2 "figures_of" = true) (k2:PySem.W.keepIn K (.ref f2)=true)
  {f3:Addr} {od3 an3:Option Addr} {sl3:Array (Option Value)} {oc3 kV3 dc3 pm3 cd3 ct3:Value}
  (a3:PySem.W.nsIn K mainGlobals "written" = some (some (.ref f3))) (l3:K.lookup f3=some ⟨oc3,od3,.func (PySem.W.fnOf "written" "written" (j5 X0) (j3 X0) (e9 X0) .none kV3 dc3 pm3 an3 cd3 ct3),sl3⟩) (c3:PySem.W.codeIn K cd3 "written" = true) (k3:PySem.W.keepIn K (.ref f3)=true)
  {f4:Addr} {od4 an4:Option Addr} {sl4:Array (Option Value)} {oc4 kV4 dc4 pm4 cd4 ct4:Value}
  (a4:PySem.W.nsIn K mainGlobals "read_figures" = some (some (.ref f4))) (l4:K.lookup f4=some ⟨oc4,od4,.func (PySem.W.fnOf "read_figures" "read_figures" (j5 J9) (j3 J9) (e9 J9) .none kV4 dc4 pm4 an4 cd4 ct4),sl4⟩) (c4:PySem.W.codeIn K cd4 "read_figures" = true) (k4:PySem.W.keepIn K (.ref f4)=true)
  {f5:Addr} {od5 an5:Option Addr} {sl5:Array (Option Value)} {oc5 kV5 dc5 pm5 cd5 ct5:Value}
  (a5:PySem.W.nsIn K mainGlobals "read_signed" = some (some (.ref f5))) (l5:K.lookup f5=some ⟨oc5,od5,.func (PySem.W.fnOf "read_signed" "read_signed" (j5 M0) (j3 M0) (e9 M0) .none kV5 dc5 pm5 an5 cd5 ct5),sl5⟩) (c5:PySem.W.codeIn K cd5 "read_signed" = true) (k5:PySem.W.keepIn K (.ref f5)=true)
  {f6:Addr} {od6 an6:Option Addr} {sl6:Array (Option Value)} {oc6 kV6 dc6 pm6 cd6 ct6:Value}
  (a6:PySem.W.nsIn K mainGlobals "read_fraction" = some (some (.ref f6))) (l6:K.lookup f6=some ⟨oc6,od6,.func (PySem.W.fnOf "read_fraction" "read_fraction" (j5 G6) (j3 G6) (e9 G6) .none kV6 dc6 pm6 an6 cd6 ct6),sl6⟩) (c6:PySem.W.codeIn K cd6 "read_fraction" = true) (k6:PySem.W.keepIn K (.ref f6)=true)
  {f7:Addr} {od7 an7:Option Addr} {sl7:Array (Option Value)} {oc7 kV7 dc7 pm7 cd7 ct7:Value}
  (a7:PySem.W.nsIn K mainGlobals "read_whole" = some (some (.ref f7))) (l7:K.lookup f7=some ⟨oc7,od7,.func (PySem.W.fnOf "read_whole" "read_whole" (j5 N3) (j3 N3) (e9 N3) .none kV7 dc7 pm7 an7 cd7 ct7),sl7⟩) (c7:PySem.W.codeIn K cd7 "read_whole" = true) (k7:PySem.W.keepIn K (.ref f7)=true)
  {f8:Addr} {od8 an8:Option Addr} {sl8:Array (Option Value)} {oc8 kV8 dc8 pm8 cd8 ct8:Value}
  (a8:PySem.W.nsIn K mainGlobals "read_amount" = some (some (.ref f8))) (l8:K.lookup f8=some ⟨oc8,od8,.func (PySem.W.fnOf "read_amount" "read_amount" (j5 M1) (j3 M1) (e9 M1) .none kV8 dc8 pm8 an8 cd8 ct8),sl8⟩) (c8:PySem.W.codeIn K cd8 "read_amount" = true) (k8:PySem.W.keepIn K (.ref f8)=true)
  {f9:Addr} {od9 an9:Option Addr} {sl9:Array (Option Value)} {oc9 kV9 dc9 pm9 cd9 ct9:Value}
  (a9:PySem.W.nsIn K mainGlobals "read_price" = some (some (.ref f9))) (l9:K.lookup f9=some ⟨oc9,od9,.func (PySem.W.fnOf "read_price" "read_price" (j5 N6) (j3 N6) (e9 N6) .none kV9 dc9 pm9 an9 cd9 ct9),sl9⟩) (c9:PySem.W.codeIn K cd9 "read_price" = true) (k9:PySem.W.keepIn K (.ref f9)=true)
  {f10:Addr} {od10 an10:Option Addr} {sl10:Array (Option Value)} {b7O kV10 dc10 pm10 cd10 ct10:Value}
  (a10:PySem.W.nsIn K mainGlobals "read_share" = some (some (.ref f10))) (l10:K.lookup f10=some ⟨b7O,od10,.func (PySem.W.fnOf "read_share" "read_share" (j5 N5) (j3 N5) (e9 N5) .none kV10 dc10 pm10 an10 cd10 ct10),sl10⟩) (c10:PySem.W.codeIn K cd10 "read_share" = true) (k10:PySem.W.keepIn K (.ref f10)=true)
  {f11:Addr} {od11 an11:Option Addr} {sl11:Array (Option Value)} {b7N kV11 dc11 pm11 cd11 ct11:Value}
  (a11:PySem.W.nsIn K mainGlobals "read_name" = some (some (.ref f11))) (l11:K.lookup f11=some ⟨b7N,od11,.func (PySem.W.fnOf "read_name" "read_name" (j5 Q3) (j3 Q3) (e9 Q3) .none kV11 dc11 pm11 an11 cd11 ct11),sl11⟩) (c11:PySem.W.codeIn K cd11 "read_name" = true) (k11:PySem.W.keepIn K (.ref f11)=true)
  {f12:Addr} {od12 an12:Option Addr} {sl12:Array (Option Value)} {b7M kV12 dc12 pm12 cd12 ct12:Value}
  (a12:PySem.W.nsIn K mainGlobals "read_parts" = some (some (.ref f12))) (l12:K.lookup f12=some ⟨b7M,od12,.func (PySem.W.fnOf "read_parts" "read_parts" (j5 N7) (j3 N7) (e9 N7) .none kV12 dc12 pm12 an12 cd12 ct12),sl12⟩) (c12:PySem.W.codeIn K cd12 "read_parts" = true) (k12:PySem.W.keepIn K (.ref f12)=true)
  {f13:Addr} {od13 an13:Option Addr} {sl13:Array (Option Value)} {b7L kV13 dc13 pm13 cd13 ct13:Value}
  (a13:PySem.W.nsIn K mainGlobals "read_store" = some (some (.ref f13))) (l13:K.lookup f13=some ⟨b7L,od13,.func (PySem.W.fnOf "read_store" "read_store" (j5 N4) (j3 N4) (e9 N4) .none kV13 dc13 pm13 an13 cd13 ct13),sl13⟩) (c13:PySem.W.codeIn K cd13 "read_store" = true) (k13:PySem.W.keepIn K (.ref f13)=true)
  {f14:Addr} {od14 an14:Option Addr} {sl14:Array (Option Value)} {b7K kV14 dc14 pm14 cd14 ct14:Value}
  (a14:PySem.W.nsIn K mainGlobals "read_hour" = some (some (.ref f14))) (l14:K.lookup f14=some ⟨b7K,od14,.func (PySem.W.fnOf "read_hour" "read_hour" (j5 Q4) (j3 Q4) (e9 Q4) .none kV14 dc14 pm14 an14 cd14 ct14),sl14⟩) (c14:PySem.W.codeIn K cd14 "read_hour" = true) (k14:PySem.W.keepIn K (.ref f14)=true)
  {f15:Addr} {od15 an15:Option Addr} {sl15:Array (Option Value)} {b7J kV15 dc15 pm15 cd15 ct15:Value}
  (a15:PySem.W.nsIn K mainGlobals "read_work" = some (some (.ref f15))) (l15:K.lookup f15=some ⟨b7J,od15,.func (PySem.W.fnOf "read_work" "read_work" (j5 Q0) (j3 Q0) (e9 Q0) .none kV15 dc15 pm15 an15 cd15 ct15),sl15⟩) (c15:PySem.W.codeIn K cd15 "read_work" = true) (k15:PySem.W.keepIn K (.ref f15)=true)
  {f16:Addr} {od16 an16:Option Addr} {sl16:Array (Option Value)} {oc16 kV16 dc16 pm16 cd16 ct16:Value}
  (a16:PySem.W.nsIn K mainGlobals "read_hours" = some (some (.ref f16))) (l16:K.lookup f16=some ⟨oc16,od16,.func (PySem.W.fnOf "read_hours" "read_hours" (j5 N8) (j3 N8) (e9 N8) .none kV16 dc16 pm16 an16 cd16 ct16),sl16⟩) (c16:PySem.W.codeIn K cd16 "read_hours" = true) (k16:PySem.W.keepIn K (.ref f16)=true)
  {f17:Addr} {od17 an17:Option Addr} {sl17:Array (Option Value)} {oc17 kV17 dc17 pm17 cd17 ct17:Value}
  (a17:PySem.W.nsIn K mainGlobals "read_works" = some (some (.ref f17))) (l17:K.lookup f17=some ⟨oc17,od17,.func (PySem.W.fnOf "read_works" "read_works" (j5 N1) (j3 N1) (e9 N1) .none kV17 dc17 pm17 an17 cd17 ct17),sl17⟩) (c17:PySem.W.codeIn K cd17 "read_works" = true) (k17:PySem.W.keepIn K (.ref f17)=true)
  {f18:Addr} {od18 an18:Option Addr} {sl18:Array (Option Value)} {oc18 kV18 dc18 pm18 cd18 ct18:Value}
  (a18:PySem.W.nsIn K mainGlobals "read" = some (some (.ref f18))) (l18:K.lookup f18=some ⟨oc18,od18,.func (PySem.W.fnOf "read" "read" (j5 a1U) (j3 a1U) (e9 a1U) .none kV18 dc18 pm18 an18 cd18 ct18),sl18⟩) (c18:PySem.W.codeIn K cd18 "read" = true) (k18:PySem.W.keepIn K (.ref f18)=true)
  {f19:Addr} {od19 an19:Option Addr} {sl19:Array (Option Value)} {oc19 kV19 dc19 pm19 cd19 ct19:Value}
  (a19:PySem.W.nsIn K mainGlobals "_law_draw" = some (some (.ref f19))) (l19:K.lookup f19=some ⟨oc19,od19,.func (PySem.W.fnOf "_law_draw" "_law_draw" (j5 a0q) (j3 a0q) (e9 a0q) .none kV19 dc19 pm19 an19 cd19 ct19),sl19⟩) (c19:PySem.W.codeIn K cd19 "_law_draw" = true) (k19:PySem.W.keepIn K (.ref f19)=true)
  {f20:Addr} {od20 an20:Option Addr} {sl20:Array (Option Value)} {oc20 kV20 dc20 pm20 cd20 ct20:Value}
  (a20:PySem.W.nsIn K mainGlobals "_law_same" = some (some (.ref f20))) (l20:K.lookup f20=some ⟨oc20,od20,.func (PySem.W.fnOf "_law_same" "_law_same" (j5 a0o) (j3 a0o) (e9 a0o) .none kV20 dc20 pm20 an20 cd20 ct20),sl20⟩) (c20:PySem.W.codeIn K cd20 "_law_same" = true) (k20:PySem.W.keepIn K (.ref f20)=true)
  {f21:Addr} {od21 an21:Option Addr} {sl21:Array (Option Value)} {oc21 kV21 dc21 pm21 cd21 ct21:Value}
  (a21:PySem.W.nsIn K mainGlobals "_law_common" = some (some (.ref f21))) (l21:K.lookup f21=some ⟨oc21,od21,.func (PySem.W.fnOf "_law_common" "_law_common" (j5 T7) (j3 T7) (e9 T7) .none kV21 dc21 pm21 an21 cd21 ct21),sl21⟩) (c21:PySem.W.codeIn K cd21 "_law_common" = true) (k21:PySem.W.keepIn K (.ref f21)=true)
  {f22:Addr} {od22 an22:Option Addr} {sl22:Array (Option Value)} {oc22 kV22 dc22 pm22 cd22 ct22:Value}
  (a22:PySem.W.nsIn K mainGlobals "_law_lowest" = some (some (.ref f22))) (l22:K.lookup f22=some ⟨oc22,od22,.func (PySem.W.fnOf "_law_lowest" "_law_lowest" (j5 T6) (j3 T6) (e9 T6) .none kV22 dc22 pm22 an22 cd22 ct22),sl22⟩) (c22:PySem.W.codeIn K cd22 "_law_lowest" = true) (k22:PySem.W.keepIn K (.ref f22)=true)
  {f23:Addr} {od23 an23:Option Addr} {sl23:Array (Option Value)} {oc23 kV23 dc23 pm23 cd23 ct23:Value}
  (a23:PySem.W.nsIn K mainGlobals "_law_number" = some (some (.ref f23))) (l23:K.lookup f23=some ⟨oc23,od23,.func (PySem.W.fnOf "_law_number" "_law_number" (j5 T5) (j3 T5) (e9 T5) .none kV23 dc23 pm23 an23 cd23 ct23),sl23⟩) (c23:PySem.W.codeIn K cd23 "_law_number" = true) (k23:PySem.W.keepIn K (.ref f23)=true)
  {f24:Addr} {od24 an24:Option Addr} {sl24:Array (Option Value)} {oc24 kV24 dc24 pm24 cd24 ct24:Value}
  (a24:PySem.W.nsIn K mainGlobals "_law_price" = some (some (.ref f24))) (l24:K.lookup f24=some ⟨oc24,od24,.func (PySem.W.fnOf "_law_price" "_law_price" (j5 X2) (j3 X2) (e9 X2) .none kV24 dc24 pm24 an24 cd24 ct24),sl24⟩) (c24:PySem.W.codeIn K cd24 "_law_price" = true) (k24:PySem.W.keepIn K (.ref f24)=true)
  {f25:Addr} {od25 an25:Option Addr} {sl25:Array (Option Value)} {oc25 kV25 dc25 pm25 cd25 ct25:Value}
  (a25:PySem.W.nsIn K mainGlobals "_law_share" = some (some (.ref f25))) (l25:K.lookup f25=some ⟨oc25,od25,.func (PySem.W.fnOf "_law_share" "_law_share" (j5 X1) (j3 X1) (e9 X1) .none kV25 dc25 pm25 an25 cd25 ct25),sl25⟩) (c25:PySem.W.codeIn K cd25 "_law_share" = true) (k25:PySem.W.keepIn K (.ref f25)=true)
  {f26:Addr} {od26 an26:Option Addr} {sl26:Array (Option Value)} {oc26 kV26 dc26 pm26 cd26 ct26:Value}
  (a26:PySem.W.nsIn K mainGlobals "_law_names" = some (some (.ref f26))) (l26:K.lookup f26=some ⟨oc26,od26,.func (PySem.W.fnOf "_law_names" "_law_names" (j5 X3) (j3 X3) (e9 X3) .none kV26 dc26 pm26 an26 cd26 ct26),sl26⟩) (c26:PySem.W.codeIn K cd26 "_law_names" = true) (k26:PySem.W.keepIn K (.ref f26)=true)
  {f27:Addr} {od27 an27:Option Addr} {sl27:Array (Option Value)} {oc27 kV27 dc27 pm27 cd27 ct27:Value}
  (a27:PySem.W.nsIn K mainGlobals "_law_line_of" = some (some (.ref f27))) (l27:K.lookup f27=some ⟨oc27,od27,.func (PySem.W.fnOf "_law_line_of" "_law_line_of" (j5 Q6) (j3 Q6) (e9 Q6) .none kV27 dc27 pm27 an27 cd27 ct27),sl27⟩) (c27:PySem.W.codeIn K cd27 "_law_line_of" = true) (k27:PySem.W.keepIn K (.ref f27)=true)
  {f28:Addr} {od28 an28:Option Addr} {sl28:Array (Option Value)} {oc28 kV28 dc28 pm28 cd28 ct28:Value}
  (a28:PySem.W.nsIn K mainGlobals "_law_house" = some (some (.ref f28))) (l28:K.lookup f28=some ⟨oc28,od28,.func (PySem.W.fnOf "_law_house" "_law_house" (j5 X5) (j3 X5) (e9 X5) .none kV28 dc28 pm28 an28 cd28 ct28),sl28⟩) (c28:PySem.W.codeIn K cd28 "_law_house" = true) (k28:PySem.W.keepIn K (.ref f28)=true)
  {f29:Addr} {od29 an29:Option Addr} {sl29:Array (Option Value)} {oc29 kV29 dc29 pm29 cd29 ct29:Value}
  (a29:PySem.W.nsIn K mainGlobals "_law_text_of" = some (some (.ref f29))) (l29:K.lookup f29=some ⟨oc29,od29,.func (PySem.W.fnOf "_law_text_of" "_law_text_of" (j5 Q5) (j3 Q5) (e9 Q5) .none kV29 dc29 pm29 an29 cd29 ct29),sl29⟩) (c29:PySem.W.codeIn K cd29 "_law_text_of" = true) (k29:PySem.W.keepIn K (.ref f29)=true)
  {f30:Addr} {od30 an30:Option Addr} {sl30:Array (Option Value)} {oc30 kV30 dc30 pm30 cd30 ct30:Value}
  (a30:PySem.W.nsIn K mainGlobals "_law_line" = some (some (.ref f30))) (l30:K.lookup f30=some ⟨oc30,od30,.func (PySem.W.fnOf "_law_line" "_law_line" (j5 a0p) (j3 a0p) (e9 a0p) .none kV30 dc30 pm30 an30 cd30 ct30),sl30⟩) (c30:PySem.W.codeIn K cd30 "_law_line" = true) (k30:PySem.W.keepIn K (.ref f30)=true)
  {f31:Addr} {od31 an31:Option Addr} {sl31:Array (Option Value)} {oc31 kV31 dc31 pm31 cd31 ct31:Value}
  (a31:PySem.W.nsIn K mainGlobals "_law_lines" = some (some (.ref f31))) (l31:K.lookup f31=some ⟨oc31,od31,.func (PySem.W.fnOf "_law_lines" "_law_lines" (j5 X4) (j3 X4) (e9 X4) .none kV31 dc31 pm31 an31 cd31 ct31),sl31⟩) (c31:PySem.W.codeIn K cd31 "_law_lines" = true) (k31:PySem.W.keepIn K (.ref f31)=true)
  {f32:Addr} {od32 an32:Option Addr} {sl32:Array (Option Value)} {oc32 kV32 dc32 pm32 cd32 ct32:Value}
  (a32:PySem.W.nsIn K mainGlobals "_law_odd" = some (some (.ref f32))) (l32:K.lookup f32=some ⟨oc32,od32,.func (PySem.W.fnOf "_law_odd" "_law_odd" (j5 a1c) (j3 a1c) (e9 a1c) .none kV32 dc32 pm32 an32 cd32 ct32),sl32⟩) (c32:PySem.W.codeIn K cd32 "_law_odd" = true) (k32:PySem.W.keepIn K (.ref f32)=true)
  {f33:Addr} {od33 an33:Option Addr} {sl33:Array (Option Value)} {oc33 kV33 dc33 pm33 cd33 ct33:Value}
  (a33:PySem.W.nsIn K mainGlobals "_law_blank" = some (some (.ref f33))) (l33:K.lookup f33=some ⟨oc33,od33,.func (PySem.W.fnOf "_law_blank" "_law_blank" (j5 X6) (j3 X6) (e9 X6) .none kV33 dc33 pm33 an33 cd33 ct33),sl33⟩) (c33:PySem.W.codeIn K cd33 "_law_blank" = true) (k33:PySem.W.keepIn K (.ref f33)=true)
  {f34:Addr} {od34 an34:Option Addr} {sl34:Array (Option Value)} {oc34 kV34 dc34 pm34 cd34 ct34:Value}
  (a34:PySem.W.nsIn K mainGlobals "_law_bent" = some (some (.ref f34))) (l34:K.lookup f34=some ⟨oc34,od34,.func (PySem.W.fnOf "_law_bent" "_law_bent" (j5 a0r) (j3 a0r) (e9 a0r) .none kV34 dc34 pm34 an34 cd34 ct34),sl34⟩) (c34:PySem.W.codeIn K cd34 "_law_bent" = true) (k34:PySem.W.keepIn K (.ref f34)=true)
  {f35:Addr} {od35 an35:Option Addr} {sl35:Array (Option Value)} {oc35 kV35 dc35 pm35 cd35 ct35:Value}
  (a35:PySem.W.nsIn K mainGlobals "_law_spoilt" = some (some (.ref f35))) (l35:K.lookup f35=some ⟨oc35,od35,.func (PySem.W.fnOf "_law_spoilt" "_law_spoilt" (j5 T4) (j3 T4) (e9 T4) .none kV35 dc35 pm35 an35 cd35 ct35),sl35⟩) (c35:PySem.W.codeIn K cd35 "_law_spoilt" = true) (k35:PySem.W.keepIn K (.ref f35)=true)
  {f36:Addr} {od36 an36:Option Addr} {sl36:Array (Option Value)} {oc36 kV36 dc36 pm36 cd36 ct36:Value}
  (a36:PySem.W.nsIn K mainGlobals "_law_refused_at" = some (some (.ref f36))) (l36:K.lookup f36=some ⟨oc36,od36,.func (PySem.W.fnOf "_law_refused_at" "_law_refused_at" (j5 K0) (j3 K0) (e9 K0) .none kV36 dc36 pm36 an36 cd36 ct36),sl36⟩) (c36:PySem.W.codeIn K cd36 "_law_refused_at" = true) (k36:PySem.W.keepIn K (.ref f36)=true)
  {f37:Addr} {od37 an37:Option Addr} {sl37:Array (Option Value)} {oc37 kV37 dc37 pm37 cd37 ct37:Value}
  (a37:PySem.W.nsIn K mainGlobals "law" = some (some (.ref f37))) (l37:K.lookup f37=some ⟨oc37,od37,.func (PySem.W.fnOf "law" "law" (j5 a1y) (j3 a1y) (e9 a1y) .none kV37 dc37 pm37 an37 cd37 ct37),sl37⟩) (c37:PySem.W.codeIn K cd37 "law" = true) (k37:PySem.W.keepIn K (.ref f37)=true)
  (z_ValueError:PySem.W.nsIn K mainGlobals "ValueError" = some none)
  (z_abs:PySem.W.nsIn K mainGlobals "abs" = some none)
  (z_all:PySem.W.nsIn K mainGlobals "all" = some none)
  (z_bool:PySem.W.nsIn K mainGlobals "bool" = some none)
  (z_int:PySem.W.nsIn K mainGlobals "int" = some none)
  (z_isinstance:PySem.W.nsIn K mainGlobals "isinstance" = some none)
  (z_len:PySem.W.nsIn K mainGlobals "len" = some none)
  (z_list:PySem.W.nsIn K mainGlobals "list" = some none)
  (z_min:PySem.W.nsIn K mainGlobals "min" = some none)
  (z_range:PySem.W.nsIn K mainGlobals "range" = some none)
  (z_str:PySem.W.nsIn K mainGlobals "str" = some none)
  (z_tuple:PySem.W.nsIn K mainGlobals "tuple" = some none)
  (z_zip:PySem.W.nsIn K mainGlobals "zip" = some none)
  {b1G:Tok} (a6T:PySem.W.nsIn K mainGlobals "FIGURES" = some (some (.str "0123456789" b1G)))
  {a1B:Addr} (a3D:PySem.W.nsIn K mainGlobals "HOUR_PARTS" = some (some (.ref a1B)))
  {b3L:Option Addr} {b3I:Nat} {b3F:Array (Option Value)}  (a3y:K.lookup a1B=some ⟨.type "tuple",b3L,.seq #[(.ref f8),(.ref f8)] b3I,b3F⟩)
  {b1F:Tok} (a6S:PySem.W.nsIn K mainGlobals "LETTERS" = some (some (.str "abcdefghijklmnopqrstuvwxyz" b1F)))
  {a1A:Addr} (a3C:PySem.W.nsIn K mainGlobals "LINE_PARTS" = some (some (.ref a1A)))
  {b3K:Option Addr} {b3H:Nat} {b3E:Array (Option Value)}  (a3x:K.lookup a1A=some ⟨.type "tuple",b3K,.seq #[(.ref f9),(.ref f8),(.ref f9),(.ref f8)] b3H,b3E⟩)
  {a6k:Tok} (a2Q:PySem.W.nsIn K mainGlobals "MOST_BOTTOM" = some (some (.int 1000 a6k)))
  {a5j:Tok} (a2f:PySem.W.nsIn K mainGlobals "MOST_FIGURES" = some (some (.int 60 a5j)))
  {a7Q:Tok} (a3B:PySem.W.nsIn K mainGlobals "MOST_HOURS" = some (some (.int 24 a7Q)))
  {a5i:Tok} (a2e:PySem.W.nsIn K mainGlobals "MOST_LETTERS" = some (some (.int 8 a5i)))
  {a6j:Tok} (a2P:PySem.W.nsIn K mainGlobals "MOST_NUMBER" = some (some (.int 1000000 a6j)))
  {a7P:Tok} (a3A:PySem.W.nsIn K mainGlobals "MOST_WORKS" = some (some (.int 6 a7P)))
  {a1i:Addr} (a2O:PySem.W.nsIn K mainGlobals "STORE_PARTS" = some (some (.ref a1i)))
  {b2s:Option Addr} {b2r:Nat} {b2q:Array (Option Value)}  (a2M:K.lookup a1i=some ⟨.type "tuple",b2s,.seq #[(.ref f8),(.ref f8),(.ref f8),(.ref f8),(.ref f10),(.ref f10),(.ref f8)] b2r,b2q⟩)
  {a1z:Addr} (a3z:PySem.W.nsIn K mainGlobals "WORK_PARTS" = some (some (.ref a1z)))
  {b3J:Option Addr} {b3G:Nat} {b3D:Array (Option Value)}  (a3w:K.lookup a1z=some ⟨.type "tuple",b3J,.seq #[(.ref f11),(.ref f8),(.ref f8),(.ref f8),(.ref f8)] b3G,b3D⟩)
  {o6:Addr} (xa_NoText:PySem.W.nsIn K mainGlobals "NoText" = some (some (.ref o6)))
  {A1:Addr} (xa_StoreError:PySem.W.nsIn K mainGlobals "StoreError" = some (some (.ref A1)))
  {O6:Addr} (xa_NoKeeper:PySem.W.nsIn K mainGlobals "NoKeeper" = some (some (.ref O6)))
  {J5:Addr} (xa_NoFraction:PySem.W.nsIn K mainGlobals "NoFraction" = some (some (.ref J5)))
  {O5:Addr} (xa_NoPrices:PySem.W.nsIn K mainGlobals "NoPrices" = some (some (.ref O5)))
  {V6:Addr} (xa_NoLine:PySem.W.nsIn K mainGlobals "NoLine" = some (some (.ref V6)))
  {nmE qnE:Str} {NE a2r:Addr} {bsE:List Value} {snE:List Str} {subE:List Value} {abE:Bool} {colE:Option Bool} {ddE:Option Addr} {e0 e1 e2 e3 e5:Option Value}
  (xl:K.lookup o6=some (excClassObj nmE qnE o6 NE bsE (.ref A1::V2) true snE subE abE colE ddE e0 e1 e2 e3 e5 "ValueError.__new__")) (x1:PySem.W.nsOkIn K NE=true) (x2:PySem.W.nsIn K NE "__init__" = some (some (.ref a2r))) (xt:PySem.W.tailIn K V2 (.ref A1::V2)=true)
  {odE anE:Option Addr} {slE:Array (Option Value)} {kVE dcE pmE cdE ctE:Value} (xli:K.lookup a2r=some ⟨.type "function",odE,.func (PySem.W.fnOf "__init__" "NoText.__init__" (j5 a1V) (j3 a1V) (e9 a1V) .none kVE dcE pmE anE cdE ctE),slE⟩) (xci:PySem.W.codeIn K cdE "NoText.__init__" = true) (xki:PySem.W.keepIn K (.ref a2r)=true)
  (y1:PySem.W.findIn K (.ref o6) "__setattr__" = some (some (.builtin "object.__setattr__"))) (y2:PySem.W.findIn K (.ref o6) "place" = some none) (y3:PySem.W.readsIn K A1 (.type "type")=true) (y4:PySem.W.specialIn K (.ref A1) "__getattribute__" = some (some (.builtin "type.__getattribute__"))) (y5:PySem.W.findCls K (.ref A1) (.type "type") "__init__" = some (.val (.builtin "ValueError.__init__"))) (w1:PySem.W.findIn K (.ref o6) "__getattribute__" = some (some (.builtin "BaseException.__getattribute__"))) (w2:PySem.W.findIn K (.ref o6) "__getattr__" = some none) (w3:PySem.W.hasDictIn K o6=true) (w4:PySem.W.mroIn K o6 (.type "BaseException")=some true) (w5:PySem.W.findIn K (.ref o6) "__class__" = some (some (.builtin "object.__class__"))) (w6:PySem.W.specialIn K (.builtin "object.__class__") "__get__" = some (some (.builtin "getset_descriptor.__get__"))) (w7:PySem.W.takesIn K (.builtin "object.__class__")=some true) (w8:PySem.W.mroIn K o6 (.type "object")=some true) (v0:PySem.W.kitOne K (.ref o6) (.type "tuple")=some false) (v1:PySem.W.kitOne K (.ref o6) (.type "list")=some false) (v2:PySem.W.kitOne K (.ref o6) (.type "bool")=some false) (v3:PySem.W.kitOne K (.ref o6) (.type "int")=some false) (v4:PySem.W.kitOne K (.ref o6) (.type "str")=some false) (xk:PySem.W.keepIn K (.ref o6)=true) (a0a:PySem.W.kitOne K (.ref o6) (.type "ValueError")=some true) (X9:PySem.W.kitOne K (.type "NoneType") (.type "ValueError")=some false) (a0b:PySem.W.kitOne K (.ref o6) (.ref A1)=some true) (Y0:PySem.W.kitOne K (.type "NoneType") (.ref A1)=some false) (a0W:PySem.W.kitOne K (.ref o6) (.ref O6)=some false) (a0D:PySem.W.kitOne K (.type "NoneType") (.ref O6)=some false) (a0c:PySem.W.kitOne K (.ref o6) (.ref J5)=some false) (Y1:PySem.W.kitOne K (.type "NoneType") (.ref J5)=some false) (a0V:PySem.W.kitOne K (.ref o6) (.ref O5)=some false) (a0C:PySem.W.kitOne K (.type "NoneType") (.ref O5)=some false) (a2d:PySem.W.kitOne K (.ref o6) (.ref V6)=some false) (a1q:PySem.W.kitOne K (.type "NoneType") (.ref V6)=some false) :
  ∃ fd:FuncData,(∀ (s:Shared) (v:Value),BindsTo s fd ⟨[v],[]⟩ [("_law_script",v)])/\∀ base:Heap,K.In base->base.Ns mainGlobals mg->m6 l.prog w K mg base CX0 11 fa fd ["_law_script"] ((fun vs H Q E=>∀ cE,spF K (a4a cE) vs H Q E)):=by
 have e:=hfa.symm.trans (PySem.W.mg_of X G a37)
 cases e
 have F0:=x9 (st:=E8) l0 c0 k0
 have F1:=x9 (st:=T8) l1 c1 k1
 have F2:=x9 (st:=N9) l2 c2 k2
 have F3:=x9 (st:=X0) l3 c3 k3
 have F4:=x9 (st:=J9) l4 c4 k4
 have F5:=x9 (st:=M0) l5 c5 k5
 have F6:=x9 (st:=G6) l6 c6 k6
 have F7:=x9 (st:=N3) l7 c7 k7
 have F8:=x9 (st:=M1) l8 c8 k8
 have F9:=x9 (st:=N6) l9 c9 k9
 have F10:=x9 (st:=N5) l10 c10 k10
 have F11:=x9 (st:=Q3) l11 c11 k11
 have F12:=x9 (st:=N7) l12 c12 k12
 have F13:=x9 (st:=N4) l13 c13 k13
 have F14:=x9 (st:=Q4) l14 c14 k14
 have F15:=x9 (st:=Q0) l15 c15 k15
 have F16:=x9 (st:=N8) l16 c16 k16
 have F17:=x9 (st:=N1) l17 c17 k17
 have F18:=x9 (st:=a1U) l18 c18 k18
 have F19:=x9 (st:=a0q) l19 c19 k19
 have F20:=x9 (st:=a0o) l20 c20 k20
 have F21:=x9 (st:=T7) l21 c21 k21
 have F22:=x9 (st:=T6) l22 c22 k22
 have F23:=x9 (st:=T5) l23 c23 k23
 have F24:=x9 (st:=X2) l24 c24 k24
 have F25:=x9 (st:=X1) l25 c25 k25
 have F26:=x9 (st:=X3) l26 c26 k26
 have F27:=x9 (st:=Q6) l27 c27 k27
 have F28:=x9 (st:=X5) l28 c28 k28
 have F29:=x9 (st:=Q5) l29 c29 k29
 have F30:=x9 (st:=a0p) l30 c30 k30
 have F31:=x9 (st:=X4) l31 c31 k31
 have F32:=x9 (st:=a1c) l32 c32 k32
 have F33:=x9 (st:=X6) l33 c33 k33
 have F34:=x9 (st:=a0r) l34 c34 k34
 have F35:=x9 (st:=T4) l35 c35 k35
 have F36:=x9 (st:=K0) l36 c36 k36
 have F37:=x9 (st:=a1y) l37 c37 k37
 let ad:Ads:=⟨f0,PySem.W.fnOf "common_divisor" "common_divisor" (j5 E8) (j3 E8) (e9 E8) .none kV0 dc0 pm0 an0 cd0 ct0,f1,PySem.W.fnOf "fraction" "fraction" (j5 T8) (j3 T8) (e9 T8) .none kV1 dc1 pm1 an1 cd1 ct1,f2,PySem.W.fnOf "figures_of" "figures_of" (j5 N9) (j3 N9) (e9 N9) .none kV2 dc2 pm2 an2 cd2 ct2,f3,PySem.W.fnOf "written" "written" (j5 X0) (j3 X0) (e9 X0) .none kV3 dc3 pm3 an3 cd3 ct3,f4,PySem.W.fnOf "read_figures" "read_figures" (j5 J9) (j3 J9) (e9 J9) .none kV4 dc4 pm4 an4 cd4 ct4,f5,PySem.W.fnOf "read_signed" "read_signed" (j5 M0) (j3 M0) (e9 M0) .none kV5 dc5 pm5 an5 cd5 ct5,f6,PySem.W.fnOf "read_fraction" "read_fraction" (j5 G6) (j3 G6) (e9 G6) .none kV6 dc6 pm6 an6 cd6 ct6,f7,PySem.W.fnOf "read_whole" "read_whole" (j5 N3) (j3 N3) (e9 N3) .none kV7 dc7 pm7 an7 cd7 ct7,f8,PySem.W.fnOf "read_amount" "read_amount" (j5 M1) (j3 M1) (e9 M1) .none kV8 dc8 pm8 an8 cd8 ct8,f9,PySem.W.fnOf "read_price" "read_price" (j5 N6) (j3 N6) (e9 N6) .none kV9 dc9 pm9 an9 cd9 ct9,f10,PySem.W.fnOf "read_share" "read_share" (j5 N5) (j3 N5) (e9 N5) .none kV10 dc10 pm10 an10 cd10 ct10,f11,PySem.W.fnOf "read_name" "read_name" (j5 Q3) (j3 Q3) (e9 Q3) .none kV11 dc11 pm11 an11 cd11 ct11,f12,PySem.W.fnOf "read_parts" "read_parts" (j5 N7) (j3 N7) (e9 N7) .none kV12 dc12 pm12 an12 cd12 ct12,f13,PySem.W.fnOf "read_store" "read_store" (j5 N4) (j3 N4) (e9 N4) .none kV13 dc13 pm13 an13 cd13 ct13,f14,PySem.W.fnOf "read_hour" "read_hour" (j5 Q4) (j3 Q4) (e9 Q4) .none kV14 dc14 pm14 an14 cd14 ct14,f15,PySem.W.fnOf "read_work" "read_work" (j5 Q0) (j3 Q0) (e9 Q0) .none kV15 dc15 pm15 an15 cd15 ct15,f16,PySem.W.fnOf "read_hours" "read_hours" (j5 N8) (j3 N8) (e9 N8) .none kV16 dc16 pm16 an16 cd16 ct16,f17,PySem.W.fnOf "read_works" "read_works" (j5 N1) (j3 N1) (e9 N1) .none kV17 dc17 pm17 an17 cd17 ct17,f18,PySem.W.fnOf "read" "read" (j5 a1U) (j3 a1U) (e9 a1U) .none kV18 dc18 pm18 an18 cd18 ct18,f19,PySem.W.fnOf "_law_draw" "_law_draw" (j5 a0q) (j3 a0q) (e9 a0q) .none kV19 dc19 pm19 an19 cd19 ct19,f20,PySem.W.fnOf "_law_same" "_law_same" (j5 a0o) (j3 a0o) (e9 a0o) .none kV20 dc20 pm20 an20 cd20 ct20,f21,PySem.W.fnOf "_law_common" "_law_common" (j5 T7) (j3 T7) (e9 T7) .none kV21 dc21 pm21 an21 cd21 ct21,f22,PySem.W.fnOf "_law_lowest" "_law_lowest" (j5 T6) (j3 T6) (e9 T6) .none kV22 dc22 pm22 an22 cd22 ct22,f23,PySem.W.fnOf "_law_number" "_law_number" (j5 T5) (j3 T5) (e9 T5) .none kV23 dc23 pm23 an23 cd23 ct23,f24,PySem.W.fnOf "_law_price" "_law_price" (j5 X2) (j3 X2) (e9 X2) .none kV24 dc24 pm24 an24 cd24 ct24,f25,PySem.W.fnOf "_law_share" "_law_share" (j5 X1) (j3 X1) (e9 X1) .none kV25 dc25 pm25 an25 cd25 ct25,f26,PySem.W.fnOf "_law_names" "_law_names" (j5 X3) (j3 X3) (e9 X3) .none kV26 dc26 pm26 an26 cd26 ct26,f27,PySem.W.fnOf "_law_line_of" "_law_line_of" (j5 Q6) (j3 Q6) (e9 Q6) .none kV27 dc27 pm27 an27 cd27 ct27,f28,PySem.W.fnOf "_law_house" "_law_house" (j5 X5) (j3 X5) (e9 X5) .none kV28 dc28 pm28 an28 cd28 ct28,f29,PySem.W.fnOf "_law_text_of" "_law_text_of" (j5 Q5) (j3 Q5) (e9 Q5) .none kV29 dc29 pm29 an29 cd29 ct29,f30,PySem.W.fnOf "_law_line" "_law_line" (j5 a0p) (j3 a0p) (e9 a0p) .none kV30 dc30 pm30 an30 cd30 ct30,f31,PySem.W.fnOf "_law_lines" "_law_lines" (j5 X4) (j3 X4) (e9 X4) .none kV31 dc31 pm31 an31 cd31 ct31,f32,PySem.W.fnOf "_law_odd" "_law_odd" (j5 a1c) (j3 a1c) (e9 a1c) .none kV32 dc32 pm32 an32 cd32 ct32,f33,PySem.W.fnOf "_law_blank" "_law_blank" (j5 X6) (j3 X6) (e9 X6) .none kV33 dc33 pm33 an33 cd33 ct33,f34,PySem.W.fnOf "_law_bent" "_law_bent" (j5 a0r) (j3 a0r) (e9 a0r) .none kV34 dc34 pm34 an34 cd34 ct34,f35,PySem.W.fnOf "_law_spoilt" "_law_spoilt" (j5 T4) (j3 T4) (e9 T4) .none kV35 dc35 pm35 an35 cd35 ct35,f36,PySem.W.fnOf "_law_refused_at" "_law_refused_at" (j5 K0) (j3 K0) (e9 K0) .none kV36 dc36 pm36 an36 cd36 ct36,fa,PySem.W.fnOf "law" "law" (j5 a1y) (j3 a1y) (e9 a1y) .none kV37 dc37 pm37 an37 cd37 ct37,.str "0123456789" b1G,.str "0123456789",.ref a1B,.ref a1B,.str "abcdefghijklmnopqrstuvwxyz" b1F,.str "abcdefghijklmnopqrstuvwxyz",.ref a1A,.ref a1A,.int (1000) a6k,.int (1000),.int (60) a5j,.int (60),.int (24) a7Q,.int (24),.int (8) a5i,.int (8),.int (1000000) a6j,.int (1000000),.int (6) a7P,.int (6),.ref a1i,.ref a1i,.ref a1z,.ref a1z,o6,A1,O6,J5,O5,V6,a2r,PySem.W.fnOf "__init__" "NoText.__init__" (j5 a1V) (j3 a1V) (e9 a1V) .none kVE dcE pmE anE cdE ctE⟩
 have FI:=x9 (st:=a1V) xli xci xki
 have T:Txt K mg ad:=⟨F0,PySem.W.mg_of X G a0,F0.binds (ps:=["one","other"]) fun _ _ _ _ _ _ us hl=>match us,hl with | [_,_],_=>rfl,F1,PySem.W.mg_of X G a1,F1.binds (ps:=["top","bottom"]) fun _ _ _ _ _ _ us hl=>match us,hl with | [_,_],_=>rfl,F2,PySem.W.mg_of X G a2,F2.binds (ps:=["number"]) fun _ _ _ _ _ _ us hl=>match us,hl with | [_],_=>rfl,F3,PySem.W.mg_of X G a3,F3.binds (ps:=["one"]) fun _ _ _ _ _ _ us hl=>match us,hl with | [_],_=>rfl,F4,PySem.W.mg_of X G a4,F4.binds (ps:=["text"]) fun _ _ _ _ _ _ us hl=>match us,hl with | [_],_=>rfl,F5,PySem.W.mg_of X G a5,F5.binds (ps:=["text"]) fun _ _ _ _ _ _ us hl=>match us,hl with | [_],_=>rfl,F6,PySem.W.mg_of X G a6,F6.binds (ps:=["text"]) fun _ _ _ _ _ _ us hl=>match us,hl with | [_],_=>rfl,F7,PySem.W.mg_of X G a7,F7.binds (ps:=["word","least"]) fun _ _ _ _ _ _ us hl=>match us,hl with | [_,_],_=>rfl,F8,PySem.W.mg_of X G a8,F8.binds (ps:=["word"]) fun _ _ _ _ _ _ us hl=>match us,hl with | [_],_=>rfl,F9,PySem.W.mg_of X G a9,F9.binds (ps:=["word"]) fun _ _ _ _ _ _ us hl=>match us,hl with | [_],_=>rfl,F10,PySem.W.mg_of X G a10,F10.binds (ps:=["word"]) fun _ _ _ _ _ _ us hl=>match us,hl with | [_],_=>rfl,F11,PySem.W.mg_of X G a11,F11.binds (ps:=["word"]) fun _ _ _ _ _ _ us hl=>match us,hl with | [_],_=>rfl,F12,PySem.W.mg_of X G a12,F12.binds (ps:=["words","readers"]) fun _ _ _ _ _ _ us hl=>match us,hl with | [_,_],_=>rfl,F13,PySem.W.mg_of X G a13,F13.binds (ps:=["words"]) fun _ _ _ _ _ _ us hl=>match us,hl with | [_],_=>rfl,F14,PySem.W.mg_of X G a14,F14.binds (ps:=["words"]) fun _ _ _ _ _ _ us hl=>match us,hl with | [_],_=>rfl,F15,PySem.W.mg_of X G a15,F15.binds (ps:=["words","hours"]) fun _ _ _ _ _ _ us hl=>match us,hl with | [_,_],_=>rfl,F16,PySem.W.mg_of X G a16,F16.binds (ps:=["rows"]) fun _ _ _ _ _ _ us hl=>match us,hl with | [_],_=>rfl,F17,PySem.W.mg_of X G a17,F17.binds (ps:=["rows","hours"]) fun _ _ _ _ _ _ us hl=>match us,hl with | [_,_],_=>rfl,F18,PySem.W.mg_of X G a18,F18.binds (ps:=["lines"]) fun _ _ _ _ _ _ us hl=>match us,hl with | [_],_=>rfl,F19,PySem.W.mg_of X G a19,F19.binds (ps:=["_law_script","_law_k","_law_many"]) fun _ _ _ _ _ _ us hl=>match us,hl with | [_,_,_],_=>rfl,F20,PySem.W.mg_of X G a20,F20.binds (ps:=["_law_found","_law_due"]) fun _ _ _ _ _ _ us hl=>match us,hl with | [_,_],_=>rfl,F21,PySem.W.mg_of X G a21,F21.binds (ps:=["_law_one","_law_other"]) fun _ _ _ _ _ _ us hl=>match us,hl with | [_,_],_=>rfl,F22,PySem.W.mg_of X G a22,F22.binds (ps:=["_law_top","_law_bottom"]) fun _ _ _ _ _ _ us hl=>match us,hl with | [_,_],_=>rfl,F23,PySem.W.mg_of X G a23,F23.binds (ps:=["_law_script","_law_k","_law_most"]) fun _ _ _ _ _ _ us hl=>match us,hl with | [_,_,_],_=>rfl,F24,PySem.W.mg_of X G a24,F24.binds (ps:=["_law_script","_law_k"]) fun _ _ _ _ _ _ us hl=>match us,hl with | [_,_],_=>rfl,F25,PySem.W.mg_of X G a25,F25.binds (ps:=["_law_script","_law_k"]) fun _ _ _ _ _ _ us hl=>match us,hl with | [_,_],_=>rfl,F26,PySem.W.mg_of X G a26,F26.binds (ps:=["_law_script","_law_k","_law_many"]) fun _ _ _ _ _ _ us hl=>match us,hl with | [_,_,_],_=>rfl,F27,PySem.W.mg_of X G a27,F27.binds (ps:=["_law_script","_law_k"]) fun _ _ _ _ _ _ us hl=>match us,hl with | [_,_],_=>rfl,F28,PySem.W.mg_of X G a28,F28.binds (ps:=["_law_script"]) fun _ _ _ _ _ _ us hl=>match us,hl with | [_],_=>rfl,F29,PySem.W.mg_of X G a29,F29.binds (ps:=["_law_one"]) fun _ _ _ _ _ _ us hl=>match us,hl with | [_],_=>rfl,F30,PySem.W.mg_of X G a30,F30.binds (ps:=["_law_words"]) fun _ _ _ _ _ _ us hl=>match us,hl with | [_],_=>rfl,F31,PySem.W.mg_of X G a31,F31.binds (ps:=["_law_house_here"]) fun _ _ _ _ _ _ us hl=>match us,hl with | [_],_=>rfl,F32,PySem.W.mg_of X G a32,F32.binds (ps:=["_law_cell"]) fun _ _ _ _ _ _ us hl=>match us,hl with | [_],_=>rfl,F33,PySem.W.mg_of X G a33,F33.binds (ps:=["_law_script","_law_line_here"]) fun _ _ _ _ _ _ us hl=>match us,hl with | [_,_],_=>rfl,F34,PySem.W.mg_of X G a34,F34.binds (ps:=["_law_script","_law_line_here"]) fun _ _ _ _ _ _ us hl=>match us,hl with | [_,_],_=>rfl,F35,PySem.W.mg_of X G a35,F35.binds (ps:=["_law_script","_law_lines_here"]) fun _ _ _ _ _ _ us hl=>match us,hl with | [_,_],_=>rfl,F36,PySem.W.mg_of X G a36,F36.binds (ps:=["_law_lines_here"]) fun _ _ _ _ _ _ us hl=>match us,hl with | [_],_=>rfl,F37,PySem.W.mg_of X G a37,F37.binds (ps:=["_law_script"]) fun _ _ _ _ _ _ us hl=>match us,hl with | [_],_=>rfl,a8,a11,a9,a10,PySem.W.mg_none_of X G z_ValueError,PySem.W.mg_none_of X G z_abs,PySem.W.mg_none_of X G z_all,PySem.W.mg_none_of X G z_bool,PySem.W.mg_none_of X G z_int,PySem.W.mg_none_of X G z_isinstance,PySem.W.mg_none_of X G z_len,PySem.W.mg_none_of X G z_list,PySem.W.mg_none_of X G z_min,PySem.W.mg_none_of X G z_range,PySem.W.mg_none_of X G z_str,PySem.W.mg_none_of X G z_tuple,PySem.W.mg_none_of X G z_zip,PySem.W.mg_of X G xa_NoText,PySem.W.mg_of X G xa_StoreError,PySem.W.mg_of X G xa_NoKeeper,PySem.W.mg_of X G xa_NoFraction,PySem.W.mg_of X G xa_NoPrices,PySem.W.mg_of X G xa_NoLine,⟨⟨nmE,qnE,NE,bsE,snE,subE,abE,colE,ddE,e0,e1,e2,e3,e5,xl,x1,x2⟩,xt,⟨_,xli,rfl⟩,y1,y2,y3,y4,y5⟩,⟨w1,w2,w3,w4,w5,w6,w7,w8,v0,v1,v2,v3,v4⟩,xk,FI,FI.binds (ps:=["self","place"]) fun _ _ _ _ _ _ us hl=>match us,hl with | [_,_],_=>rfl,a0a,X9,a0b,Y0,a0W,a0D,a0c,Y1,a0V,a0C,a2d,a1q,Y2 (PySem.W.mg_of X G a6T) ⟨_,rfl⟩ fun _=>.str _,a5m (vs:=[.ref f8,.ref f8]) (PySem.W.mg_of X G a3D) a3y (by simp) (.cons rfl (.cons rfl .nil)) fun H=>(.cons (.fn a8) (.cons (.fn a8) .nil)),Y2 (PySem.W.mg_of X G a6S) ⟨_,rfl⟩ fun _=>.str _,a5m (vs:=[.ref f9,.ref f8,.ref f9,.ref f8]) (PySem.W.mg_of X G a3C) a3x (by simp) (.cons rfl (.cons rfl (.cons rfl (.cons rfl .nil)))) fun H=>(.cons (.fn a9) (.cons (.fn a8) (.cons (.fn a9) (.cons (.fn a8) .nil)))),Y2 (PySem.W.mg_of X G a2Q) ⟨_,rfl⟩ fun _=>.int _,Y2 (PySem.W.mg_of X G a2f) ⟨_,rfl⟩ fun _=>.int _,Y2 (PySem.W.mg_of X G a3B) ⟨_,rfl⟩ fun _=>.int _,Y2 (PySem.W.mg_of X G a2e) ⟨_,rfl⟩ fun _=>.int _,Y2 (PySem.W.mg_of X G a2P) ⟨_,rfl⟩ fun _=>.int _,Y2 (PySem.W.mg_of X G a3A) ⟨_,rfl⟩ fun _=>.int _,a5m (vs:=[.ref f8,.ref f8,.ref f8,.ref f8,.ref f10,.ref f10,.ref f8]) (PySem.W.mg_of X G a2O) a2M (by simp) (.cons rfl (.cons rfl (.cons rfl (.cons rfl (.cons rfl (.cons rfl (.cons rfl .nil))))))) fun H=>(.cons (.fn a8) (.cons (.fn a8) (.cons (.fn a8) (.cons (.fn a8) (.cons (.fn a10) (.cons (.fn a10) (.cons (.fn a8) .nil))))))),a5m (vs:=[.ref f11,.ref f8,.ref f8,.ref f8,.ref f8]) (PySem.W.mg_of X G a3z) a3w (by simp) (.cons rfl (.cons rfl (.cons rfl (.cons rfl (.cons rfl .nil))))) fun H=>(.cons (.fn a11) (.cons (.fn a8) (.cons (.fn a8) (.cons (.fn a8) (.cons (.fn a8) .nil)))))⟩
 exact ⟨PySem.W.fnOf "law" "law" (j5 a1y) (j3 a1y) (e9 a1y) .none kV37 dc37 pm37 an37 cd37 ct37,fun s v=>.of_eq rfl,fun base _ _=>(c6d T).imp fun vs H Q E h=>h _⟩
theorem walk {l:PySem.W.OpenLaw} {q:Program} {loose:List Str} {XP:(Str->Option Value)->Heap->Prop} {YP:World->Heap->Prop} {d:DefRec} {K:Params->PySem.W.Frag} (hL:∀ (cE:Addr) (ns:List Int),ns.length<=63->a4a cE [.list (ns.map .int)]=some (.dat (.bool true))) (hn:l.most=some 63) (hdf:d.params.defaults=[])
  (hY:∀ (w:World) (h:Heap),YP w h->(K w.params).In h)
  (F:∀ (w:World) (mg:Str->Option Value) (fa:Addr) (h:Heap),(K w.params).In h->h.Ns mainGlobals mg->mg d.name=some (.ref fa) ->
   ∃ fd:FuncData,(∀ (s:Shared) (u:Value),BindsTo s fd ⟨[u],[]⟩ [("_law_script",u)])/\∀ base:Heap,(K w.params).In base->base.Ns mainGlobals mg->m6 l.prog w (K w.params) mg base CX0 11 fa fd ["_law_script"] ((fun vs H Q E=>∀ cE,spF (K w.params) (a4a cE) vs H Q E))) :
  PySem.W.WalkO q loose XP YP l.row.toRowW d [] (fun f vs=>PySem.call f vs) :=
 L2.b6o (n:=63) (k:=11) (x:="_law_script") (CX:=fun _=>CX0) (sp:=fun w=>(fun vs H Q E=>∀ cE,spF (K w.params) (a4a cE) vs H Q E)) hn (by decide) hdf ⟨rfl,by decide,by decide⟩ hY F (fun _ _ a ns hl _ hS=>fun cE=>⟨[],[.list (ns.map .int)],_,fun a h=>absurd h (by simp),.cons (.lst (c3z hS) (b5o ns)) .nil,hL cE ns hl,fun v H' _ r=>c4N r⟩) fun _ _ _ _ _ z=>z
end Law
noncomputable def PySem.W.Fast.tw14103860938169103568 : Unit := ()
noncomputable def PySem.W.Fast.tw13893137240698501795 : Unit := ()
noncomputable def PySem.W.Fast.tw10220783246301891422 : Unit := ()
noncomputable def PySem.W.Fast.tw12617448038070037076 : Unit := ()
noncomputable def PySem.W.Fast.tw8663295007562362025 : Unit := ()
noncomputable def PySem.W.Fast.tw9964073965136849316 : Unit := ()
noncomputable def PySem.W.Fast.tw5900995139045204238 : Unit := ()
noncomputable def PySem.W.Fast.tw9925142068949900685 : Unit := ()
noncomputable def PySem.W.Fast.tw10384777402991540953 : Unit := ()
noncomputable def PySem.W.Fast.tw1725128936345180193 : Unit := ()
open PySem PySem.W PyProof.Rows
set_option maxRecDepth 100000 in
set_option maxHeartbeats 0 in
theorem PySem.Challenge.cw_sunstore_k06_lines_that_never_stand_holds : PySem.Challenge.rw_sunstore_k06_lines_that_never_stand.Holds := by
 w_on;o_law;k_head;(case hw=>w_witness2)
 k_fill
 refine Law.walk (l:=PySem.Challenge.rw_sunstore_k06_lines_that_never_stand) Law.c2i rfl rfl (fun w h Y=>PySem.W.kIn_of Y) ?F
 case F =>
  intro w mg fa h KX G hmg
  refine' Law.all_mk KX G hmg ?a0 ?l0 ?c0 ?k0 ?a1 ?l1 ?c1 ?k1 ?a2 ?l2 ?c2 ?k2 ?a3 ?l3 ?c3 ?k3 ?a4 ?l4 ?c4 ?k4 ?a5 ?l5 ?c5 ?k5 ?a6 ?l6 ?c6 ?k6 ?a7 ?l7 ?c7 ?k7 ?a8 ?l8 ?c8 ?k8 ?a9 ?l9 ?c9 ?k9 ?a10 ?l10 ?c10 ?k10 ?a11 ?l11 ?c11 ?k11 ?a12 ?l12 ?c12 ?k12 ?a13 ?l13 ?c13 ?k13 ?a14 ?l14 ?c14 ?k14 ?a15 ?l15 ?c15 ?k15 ?a16 ?l16 ?c16 ?k16 ?a17 ?l17 ?c17 ?k17 ?a18 ?l18 ?c18 ?k18 ?a19 ?l19 ?c19 ?k19 ?a20 ?l20 ?c20 ?k20 ?a21 ?l21 ?c21 ?k21 ?a22 ?l22 ?c22 ?k22 ?a23 ?l23 ?c23 ?k23 ?a24 ?l24 ?c24 ?k24 ?a25 ?l25 ?c25 ?k25 ?a26 ?l26 ?c26 ?k26 ?a27 ?l27 ?c27 ?k27 ?a28 ?l28 ?c28 ?k28 ?a29 ?l29 ?c29 ?k29 ?a30 ?l30 ?c30 ?k30 ?a31 ?l31 ?c31 ?k31 ?a32 ?l32 ?c32 ?k32 ?a33 ?l33 ?c33 ?k33 ?a34 ?l34 ?c34 ?k34 ?a35 ?l35 ?c35 ?k35 ?a36 ?l36 ?c36 ?k36 ?a37 ?l37 ?c37 ?k37 ?z_ValueError ?z_abs ?z_all ?z_bool ?z_int ?z_isinstance ?z_len ?z_list ?z_min ?z_range ?z_str ?z_tuple ?z_zip ?a6T ?a3D ?a3y ?a6S ?a3C ?a3x ?a2Q ?a2f ?a3B ?a2e ?a2P ?a3A ?a2O ?a2M ?a3z ?a3w ?xa_NoText ?xa_StoreError ?xa_NoKeeper ?xa_NoFraction ?xa_NoPrices ?xa_NoLine ?xl ?x1 ?x2 ?xt ?xli ?xci ?xki ?y1 ?y2 ?y3 ?y4 ?y5 ?w1 ?w2 ?w3 ?w4 ?w5 ?w6 ?w7 ?w8 ?v0 ?v1 ?v2 ?v3 ?v4 ?xk ?a0a ?X9 ?a0b ?Y0 ?a0W ?a0D ?a0c ?Y1 ?a0V ?a0C ?a2d ?a1q
  (case a0=>k_is)
  (case l0=>k_is)
  (case c0=>k_is)
  (case k0=>k_is)
  (case a1=>k_is)
  (case l1=>k_is)
  (case c1=>k_is)
  (case k1=>k_is)
  (case a2=>k_is)
  (case l2=>k_is)
  (case c2=>k_is)
  (case k2=>k_is)
  (case a3=>k_is)
  (case l3=>k_is)
  (case c3=>k_is)
  (case k3=>k_is)
  (case a4=>k_is)
  (case l4=>k_is)
  (case c4=>k_is)
  (case k4=>k_is)
  (case a5=>k_is)
  (case l5=>k_is)
  (case c5=>k_is)
  (case k5=>k_is)
  (case a6=>k_is)
  (case l6=>k_is)
  (case c6=>k_is)
  (case k6=>k_is)
  (case a7=>k_is)
  (case l7=>k_is)
  (case c7=>k_is)
  (case k7=>k_is)
  (case a8=>k_is)
  (case l8=>k_is)
  (case c8=>k_is)
  (case k8=>k_is)
  (case a9=>k_is)
  (case l9=>k_is)
  (case c9=>k_is)
  (case k9=>k_is)
  (case a10=>k_is)
  (case l10=>k_is)
  (case c10=>k_is)
  (case k10=>k_is)
  (case a11=>k_is)
  (case l11=>k_is)
  (case c11=>k_is)
  (case k11=>k_is)
  (case a12=>k_is)
  (case l12=>k_is)
  (case c12=>k_is)
  (case k12=>k_is)
  (case a13=>k_is)
  (case l13=>k_is)
  (case c13=>k_is)
  (case k13=>k_is)
  (case a14=>k_is)
  (case l14=>k_is)
  (case c14=>k_is)
  (case k14=>k_is)
  (case a15=>k_is)
  (case l15=>k_is)
  (case c15=>k_is)
  (case k15=>k_is)
  (case a16=>k_is)
  (case l16=>k_is)
  (case c16=>k_is)
  (case k16=>k_is)
  (case a17=>k_is)
  (case l17=>k_is)
  (case c17=>k_is)
  (case k17=>k_is)
  (case a18=>k_is)
  (case l18=>k_is)
  (case c18=>k_is)
  (case k18=>k_is)
  (case a19=>k_is)
  (case l19=>k_is)
  (case c19=>k_is)
  (case k19=>k_is)
  (case a20=>k_is)
  (case l20=>k_is)
  (case c20=>k_is)
  (case k20=>k_is)
  (case a21=>k_is)
  (case l21=>k_is)
  (case c21=>k_is)
  (case k21=>k_is)
  (case a22=>k_is)
  (case l22=>k_is)
  (case c22=>k_is)
  (case k22=>k_is)
  (case a23=>k_is)
  (case l23=>k_is)
  (case c23=>k_is)
  (case k23=>k_is)
  (case a24=>k_is)
  (case l24=>k_is)
  (case c24=>k_is)
  (case k24=>k_is)
  (case a25=>k_is)
  (case l25=>k_is)
  (case c25=>k_is)
  (case k25=>k_is)
  (case a26=>k_is)
  (case l26=>k_is)
  (case c26=>k_is)
  (case k26=>k_is)
  (case a27=>k_is)
  (case l27=>k_is)
  (case c27=>k_is)
  (case k27=>k_is)
  (case a28=>k_is)
  (case l28=>k_is)
  (case c28=>k_is)
  (case k28=>k_is)
  (case a29=>k_is)
  (case l29=>k_is)
  (case c29=>k_is)
  (case k29=>k_is)
  (case a30=>k_is)
  (case l30=>k_is)
  (case c30=>k_is)
  (case k30=>k_is)
  (case a31=>k_is)
  (case l31=>k_is)
  (case c31=>k_is)
  (case k31=>k_is)
  (case a32=>k_is)
  (case l32=>k_is)
  (case c32=>k_is)
  (case k32=>k_is)
  (case a33=>k_is)
  (case l33=>k_is)
  (case c33=>k_is)
  (case k33=>k_is)
  (case a34=>k_is)
  (case l34=>k_is)
  (case c34=>k_is)
  (case k34=>k_is)
  (case a35=>k_is)
  (case l35=>k_is)
  (case c35=>k_is)
  (case k35=>k_is)
  (case a36=>k_is)
  (case l36=>k_is)
  (case c36=>k_is)
  (case k36=>k_is)
  (case a37=>k_is)
  (case l37=>k_is)
  (case c37=>k_is)
  (case k37=>k_is)
  (case z_ValueError=>k_is)
  (case z_abs=>k_is)
  (case z_all=>k_is)
  (case z_bool=>k_is)
  (case z_int=>k_is)
  (case z_isinstance=>k_is)
  (case z_len=>k_is)
  (case z_list=>k_is)
  (case z_min=>k_is)
  (case z_range=>k_is)
  (case z_str=>k_is)
  (case z_tuple=>k_is)
  (case z_zip=>k_is)
  (case a6T=>k_is)
  (case a3D=>k_is)
  (case a3y=>k_is)
  (case a6S=>k_is)
  (case a3C=>k_is)
  (case a3x=>k_is)
  (case a2Q=>k_is)
  (case a2f=>k_is)
  (case a3B=>k_is)
  (case a2e=>k_is)
  (case a2P=>k_is)
  (case a3A=>k_is)
  (case a2O=>k_is)
  (case a2M=>k_is)
  (case a3z=>k_is)
  (case a3w=>k_is)
  (case xa_NoText=>k_is)
  (case xa_StoreError=>k_is)
  (case xa_NoKeeper=>k_is)
  (case xa_NoFraction=>k_is)
  (case xa_NoPrices=>k_is)
  (case xa_NoLine=>k_is)
  (case xl=>k_is)
  (case x1=>kernel_rfl)
  (case x2=>k_is)
  (case xt=>kernel_rfl)
  (case xli=>k_is)
  (case xci=>k_is)
  (case xki=>k_is)
  (case y1=>k_is)
  (case y2=>k_is)
  (case y3=>k_is)
  (case y4=>k_is)
  (case y5=>k_is)
  (case w1=>k_is)
  (case w2=>k_is)
  (case w3=>k_is)
  (case w4=>k_is)
  (case w5=>k_is)
  (case w6=>k_is)
  (case w7=>k_is)
  (case w8=>k_is)
  (case v0=>kit_is)
  (case v1=>kit_is)
  (case v2=>kit_is)
  (case v3=>kit_is)
  (case v4=>kit_is)
  (case xk=>k_is)
  (case a0a=>kit_is)
  (case X9=>kit_is)
  (case a0b=>kit_is)
  (case Y0=>kit_is)
  (case a0W=>kit_is)
  (case a0D=>kit_is)
  (case a0c=>kit_is)
  (case Y1=>kit_is)
  (case a0V=>kit_is)
  (case a0C=>kit_is)
  (case a2d=>kit_is)
  (case a1q=>kit_is)
