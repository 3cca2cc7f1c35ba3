import PyProof.Rows.All
import Wide.All
import OpenK.AllK
import Wide.FinOn
import Lean
import PyProof.EqAt
import PyProof.EqKinds
import PyProof.TupleCall
import PySem.Challenge.RW_sunstore_k34_endless_ones
set_option Elab.async false
set_option linter.all false
set_option maxRecDepth 100000
noncomputable section
open PySem renaming PyData->c6,Value->e8,Shared->i5,starEach->j6,wpAny_pure->o5,sizeLine->B9,Program->A6,World->t7,Around->A5,mainGlobals->S9,backTo->C9,attributeBase->aZ,FuncData->M7,foldedSetIterable->fg,compareOp->S8,wpAny_field->aY,wpAny_callSpecial?_slot->pB,binaryOp->ak,keywordEach->dH,mem_of_lookup->lZ,bootBuiltins->cX,wpAny_call_entry->jH,swapsWith->aJ,wpAny_mono->ck,wpAny_newObj_type->lW,wpAny_seqItems->jA,wpAny_setField_rec->oa,wpAny_passesOwn->lO,wpAny_holding->jz,backToKw->bq,wpAny_truthy_bool->nZ,sizeLine_eq->gN,Keyword->bp,standAt->cc,IsPair->aH,getMethod->gM,assignEach->jw,behindInMarks->nV,sliceBounds->lI,Scope->ag,wpAny_Call_Name_kw->wo,NameKind->jv,notedBy->gI,wpAny_execs_nil->wc,letOwnedTupleGo->vZ,IsPart->eI,wpAny_rule->nM,IsZip->bZ,wpAny_updateSeq_pair->CF,callerA->ju,wpAny_attempt->vM,wpAny_onRaise->vL,wpAny_pyIter_list->Cs,BindsTo->lE,getItem->lD,pyNext->jq,rawInt->jo,codeAny_mono->vI,concat_meets->vH,noFill_tuple_add->Cp,compEnvC->nL,PassesOwn->qN,call_meets->vB,compPost->qM,natAbs_fdiv_le->LN,wpAny_standAt->BY,swapsWithSole->BX,swappedStores->BW,seq_tuple_add->BU,Within->BO,wpAny_typeOf->BL,seqIndex_neg->BK,call->BC
open Option renaming bind_some->j4,map_some->jC,map_eq_some_iff->CJ,getD_some->Ck,getD_none->Lm,bind_none->Lg,map_none->KZ
open PySem.W renaming Frag->i9,findIn->aq,emptyDict->kB,keepIn->iR,nsIn->cV,instObj->jG,fnOf->gO,kia_one->lM,kitOne->lL,hasDictIn->qZ,plainGet->qW,KasT->nR,any_some->wj,looks_findIn->CG,plainGet_of->CB,lookIn->vR,InstAt->vQ,codeIn->vP,callWith_K->CA,mg_of->vN,methodObj->Cw,plainOver->Cv,specialIn->Cu,isFn->vK,kas_sort->Cm,takerIn->Cj,makesIn->Ci,OpenLaw->Ce,findObj->Cd,cellsFrom_some->LW,methodCall_KW->LR,kas_descPart->LM,mroIn->BV,kas_tail3->Lp,kas_count->Lo,handedIn->Ln,takesIn->Le,kas_rev->Lb
open List renaming mem_cons_of_mem->C4,mem_cons_self->A2,map_cons->o6,replicate->v9,getElem?_eq_getElem->J3,getD_eq_getElem?_getD->P8,mem_append_right->L6,getElem?_cons_succ->P7,range->A4,size_toArray->P6,length_cons->O0,getElem?_map->Q6,length_map->N9,set_cons_zero->W5,cons_append->X9,map_nil->N8,nil_append->aF,getElem?_set_ne->fh,mem_append_left->iV,append_nil->dJ,length_append->iU,drop_eq_getElem_cons->sk,zip_cons_cons->mM,map_append->gQ,getElem?_range->lY,getElem?_append_left->rp,lookup->cU,mem_append->jD,map_map->eU,lookup_cons->lS,getElem_mem->lQ,getElem?_set_self->rm,length_nil->lN,getElem?_eq_none->rk,getElem?_append_right->wL,length_range->nX,mem_of_getElem?->rj,length_take->nW,getElem?_cons_zero->wF,set_cons_succ->rh,getElem_range->rf,getElem?_set->qX,length_replicate->wC,getElem_map->qU,all_cons->nU,filterMap_cons->wB,replicate_succ->wA,map_congr_left->wu,mem_filterMap->wm,getElem_append_left->CS,getElem?_replicate->CQ,flatten_cons->wk,drop_eq_nil_of_le->CL,take_of_length_le->CK,drop_of_length_le->CI,any_cons->qT,ext_getElem->wd,length_singleton->CH,forIn_cons->vY,getElem?_append->CD,foldl_cons->vU,mem_replicate->Cy,mem_or_eq_of_mem_set->Md,getElem_append_right->Mc,length_drop->Co,drop_length->Cn,of_mem_zip->Cg,length_set->Cf,range_succ->Cb,range_succ_eq_map->LS,forIn_nil->BZ,mem_cons->BR,zip_nil_right->Lz,getElem_idxOf->Lx,take_sublist->Lr,zip_nil_left->Lq,zipIdx_cons->Lk,nodup_range->Lf,zipIdx_nil->Lc,nodup_cons->La
open PySem.Heap renaming get?_push_of_some->E7,lt_size->A7,get?_push_size->U8,size_push->jB,SameBut->qR,get?_update_other->LU,get?_update_self->LQ,get?_none_of_le->LO
open Nat renaming le_refl->o3,lt_of_lt_of_le->O1,le_trans->P5,ne_of_lt->U7,lt_irrefl->aD,mul_le_mul_right->pk,zero_le->cT,le_of_lt->jy,le_add_right->qV,mul_le_mul_left->wz,ne_of_gt->nT,mul_comm->nQ,lt_succ_self->wg,coprime_comm->we,pow_succ->qQ,mul_le_mul->vO,lt_of_le_of_lt->Cz,le_of_eq->vJ,zero_add->vG,le_succ->vF,Coprime->vD,pow_pos->vC,add_le_add_right->LL,pow_lt_pow_right->LJ,mul_assoc->BQ,one_lt_two_pow->Ls,pow_add->BI,add_mul->BH,mul_add->BG,le_of_not_lt->Ll,mul_mod_left->Lj,mod_eq_of_lt->Li,div_eq_of_lt->Lh
open Int renaming toNat_natCast->J8,gcd->n9,mul_comm->D3,mul_le_mul_of_nonneg_left->bP,mul_assoc->G3,zero_add->J2,mul_pos->G0,fdiv_eq_ediv_of_nonneg->dM,mul_zero->J6,mul_le_mul_of_nonneg_right->iX,le_of_lt->T3,zero_mul->U6,natAbs_mul->aE,dvd_refl->X8,mul_nonneg->bN,fmod_nonneg_of_pos->kC,gcd_pos_of_ne_zero_right->pE,mul_nonpos_of_nonneg_of_nonpos->vz,le_of_dvd->ff,mul_left_comm->kz,lt_or_le->eZ,one_mul->dG,mul_one->cq,eq_of_mul_eq_mul_right->rq,fmod_lt_of_pos->lX,mul_neg_of_neg_of_pos->rn,gcd_dvd_right->lU,dvd_trans->gP,gcd_dvd_left->lR,mul_add->eO,mul_nonpos_of_nonpos_of_nonneg->CY,eq_of_mul_eq_mul_left->wI,le_of_mul_le_mul_left->wH,le_refl->jx,add_zero->lJ,neg_mul->lH,ediv_mul_cancel->wx,gcd_ediv_gcd_ediv_gcd->CV,mul_ediv_cancel_left->CT,dvd_mul_of_dvd_left->CN,sub_zero->qP,le_trans->qO,mul_dvd_mul->vV,natCast_add->vT,ediv_pos_of_pos_of_dvd->Mf,natAbs_add_le->Cr,mul_neg_of_pos_of_neg->Me,mul_fdiv_cancel_left->LZ,natCast_mul->Ca,add_mul->vE,natAbs_of_nonneg->LI,mul_ediv_cancel->LG,lt_or_eq_of_le->Lw,cast_ofNat_Int->Lv,gcd_zero_right->Lu,neg_gcd->BF
open Bool renaming false_ne_true->Q7,false_eq_true->aG,and_eq_true->iT,eq_iff_iff->jF,false_and->vS,not_eq_true'->Ct,or_eq_false_iff->LK,or_false->BS,or_eq_true->Ld
open PySem.SeqAt renaming shaped->J7,canLay_of_shaped->wD,EqAt->BE
open Option.some renaming inj->ar,injEq->Cq
open PySem.Builtin.SmallTypes renaming nextOf->iW,ownedTupleIsFree->zk,ownedTupleHandOut->Mo
open PySem.PyData renaming canLay0->bO,eqv->X7,int->ao,canLayAll0->kA,tuple->eQ,depth->nS,list->nP,depthAll->vW,eqvAll->BP
open Rat renaming intCast_mul->cC,mul_pos->aB,mul_lt_mul_of_pos_right->Ml
open PySem.NameKind renaming free->dI,cell->lK
open PySem.Value renaming ref->aA,none->eJ,bool->lG,builtin->qS,type->nN,int->BB,str->BA
open Classical renaming byContradiction->sj,propDecidable->LY
open PyProof.Rows renaming IntsAre->Q8,slot_tuple_getitem->wN,callWith_type1->wM,kindOf->aI,seqObj->bo,envOfC->cR,AllBare->gK,IsTup->eu,subscriptTail_builtinR->LV,envOfC->LD
open PySem.Str renaming ofString->cW
open False renaming elim->br
open True renaming intro->cj
open ForInStep renaming yield->jE
open PySem.Obj renaming mapSeq->cS,data_mapFields->Ly
open PySem.F renaming slot_tuple_iterator_next->wK,args_tuple_add_2->CU,entry_tuple_add->CP,plainAttrs_list->CO,slot_tuple_add->CM,slot_zip_next->vX,args_tuple_iterator_next_1->Mn,entry_tuple_iterator_next->Mm,slot_list_append->Mb,type_list_append->Ma,slot_list_index->LX,slot_enumerate_next->LP
open PySem.Builtin.Slice renaming slicePlaces->wJ,sliceAdjust->CW,sliceApplied->Mi
open PySem.Builtin.Tuple renaming tupleExact->wG,tupleItemsOf->Mh,tupleIsExact->Mg
open Sum renaming inr->gL,inl->lF
open Ne renaming symm->gJ
open Array renaming length_toList->CC
open PySem.Calls renaming Name_function_global->Mj
open PySem.Heap.SameBut renaming update->LH
open PySem.SeqAt.EqAt renaming int_str->LC,str_int->LB,int_int->LA
open PySem.Around renaming under->BN
open PySem.Code renaming isFrame->BM
open LawfulBEq renaming eq_of_beq->vA
open PySem.Shared renaming heap->BJ
open PySem.PassesOwn renaming never->KY
open PyProof.Rows.IsTup renaming new->Bz
abbrev c7:=@if_pos
abbrev e9:=@if_neg
abbrev A9:=@if_true
abbrev M6:=@if_false
abbrev pA:=@decide_eq_false_iff_not
abbrev iS:=@decide_eq_false
abbrev V7:=@congrArg
abbrev lV:=@not_true_eq_false
abbrev nY:=@decide_eq_true_eq
abbrev qY:=@of_decide_eq_true
open List (mem_range mem_map mem_singleton)
namespace L2
open PySem PySem.Spec PyProof.Rows
abbrev Key:=Sum Int Str
def Qu:Key->e8->Bool
 | .inl k,v=>Value.isInt k v
 | .inr x,v=>Value.isStrOf x v
def Yk(w:t7):Key->Int
 | .inl k=>hashInt k
 | .inr x=>hashStr w x
theorem U5:∀{k:Key} {v:e8},Qu k v=true->(∃i t,k=lF i/\v=BB i t)\/(∃x t,k=gL x/\v=BA x t)
 | .inl i,v,h=>by obtain⟨t,e⟩:=Value.isInt_shape (k:=i) (v:=v) h;exact .inl ⟨i,t,rfl,e⟩
 | .inr x,v,h=>by obtain⟨t,e⟩:=Value.isStrOf_shape (x:=x) (v:=v) h;exact .inr ⟨x,t,rfl,e⟩
theorem VS(a b:Int):decide ((lF a:Key)=lF b)=(a==b):=by
 by_cases e:a=b
 . subst e;simp
 . have h:¬(lF a:Key)=lF b:=λq=>e (Sum.inl.inj q)
   rw[iS h];exact(beq_eq_false_iff_ne.mpr e).symm
theorem VP(a b:Str):decide ((gL a:Key)=gL b)=decide (a=b):=by
 by_cases e:a=b
 . subst e;simp
 . have h:¬(gL a:Key)=gL b:=λq=>e (Sum.inr.inj q)
   rw[iS h,iS e]
theorem VR(a:Int)(b:Str):decide ((lF a:Key)=gL b)=false:=iS (λq=>nomatch q)
theorem VQ(a:Str)(b:Int):decide ((gL a:Key)=lF b)=false:=iS (λq=>nomatch q)
def EF(prog:A6)(w:t7):PySem.KeyKind prog w Key where
 is:=Qu
 hash:=Yk w
 inj:=λv a b ha hb=>by
  rcases U5 ha with ⟨i,t,rfl,rfl⟩|⟨x,t,rfl,rfl⟩
  . rcases U5 hb with ⟨j,u,rfl,e⟩|⟨y,u,rfl,e⟩
    . injection e with e1 _;rw[e1]
    . exact nomatch e
  . rcases U5 hb with ⟨j,u,rfl,e⟩|⟨y,u,rfl,e⟩
    . exact nomatch e
    . injection e with e1 _;rw[e1]
 byValue:=λk v h=>by rcases U5 h with ⟨i,t,rfl,rfl⟩|⟨x,t,rfl,rfl⟩<;>rfl
 pyHash:=λhv h=>by
  rcases U5 hv with ⟨i,t,rfl,rfl⟩|⟨x,t,rfl,rfl⟩
  . exact wpAny_pyHash_int h
  . exact wpAny_pyHash_str h
 eqBool:=λhu hv h=>by
  rcases U5 hu with ⟨i,t,rfl,rfl⟩|⟨x,t,rfl,rfl⟩
  . rcases U5 hv with ⟨j,u,rfl,rfl⟩|⟨y,u,rfl,rfl⟩
    . rw[VS]at h;exact wpAny_eqBool_int h
    . rw[VR]at h;exact LC i t y u _ _ _ _ h
  . rcases U5 hv with ⟨j,u,rfl,rfl⟩|⟨y,u,rfl,rfl⟩
    . rw[VQ]at h;exact LB x t j u _ _ _ _ h
    . rw[VP]at h;exact wpAny_eqBool_str h
 «strs»:=λk x t v h=>by
  rcases U5 h with ⟨i,u,rfl,e⟩|⟨y,u,rfl,e⟩
  . exact nomatch e
  . injection e with e1 _
    subst e1;cases v<;>rfl
section
variable{H:Hp}{a:Addr}{o u:HO}{h:Heap}
inductive V where
 |non|bl (b:Bool)|int (i:Int)|str (x:Str)|byt (b:Array UInt8)|flt (b:UInt64)|ref (a:Addr)|ty (n:String)
 deriving DecidableEq
def RelV:V->e8->Prop
 | .non,u=>u=eJ
 | .bl b,u=>u=lG b
 | .int i,u=>∃t,u=BB i t
 | .str x,u=>∃t,u=BA x t
 | .byt b,u=>∃t,u=Value.bytes b t
 | .flt b,u=>∃t,u=Value.float b t
 | .ref a,u=>u=aA a
 | .ty n,u=>u=nN n
abbrev Vals:List V->List e8->Prop:=Paired RelV
theorem Vals.length{xs:List V}{us:List e8}(r:Vals xs us):xs.length=us.length:=Paired.length r
theorem Vals.get:∀{xs:List V} {us:List e8} {i:Nat} {x:V},Vals xs us->xs[i]? = some x->∃u,us[i]? = some u/\RelV x u
 |_,_,_,_,.nil,e=>by simp at e
 |_,_,0,_,.cons r _,e=>by simp at e;subst e;exact⟨_,rfl,r⟩
 |_,_,i+1,x,.cons _ t,e=>by
  obtain⟨u,h1,h2⟩:=Vals.get (i:=i) (x:=x) t (by simpa using e)
  exact⟨u,by simpa using h1,h2⟩
theorem Vals.set{x:V}{u:e8}(r:RelV x u):∀{xs:List V} {us:List e8} (i:Nat),Vals xs us->Vals (xs.set i x) (us.set i u)
 |_,_,_,.nil=>.nil
 |_,_,0,.cons _ t=>.cons r t
 |_,_,i+1,.cons q t=>.cons q (Vals.set r i t)
theorem Vals.append:∀{xs ys:List V} {us ws:List e8},Vals xs us->Vals ys ws->Vals (xs++ys) (us++ws)
 |_,_,_,_,.nil,s=>s
 |_,_,_,_,.cons r t,s=>.cons r (Vals.append t s)
theorem Vals.take:∀{xs:List V} {us:List e8} (n:Nat),Vals xs us->Vals (xs.take n) (us.take n)
 |_,_,0,_=>.nil
 |_,_,_+1,.nil=>.nil
 |_,_,n+1,.cons r t=>.cons r (Vals.take n t)
theorem Vals.drop:∀{xs:List V} {us:List e8} (n:Nat),Vals xs us->Vals (xs.drop n) (us.drop n)
 |_,_,0,r=>r
 |_,_,_+1,.nil=>.nil
 |_,_,n+1,.cons _ t=>Vals.drop n t
def mV:Option V->Option e8->Prop
 |some v,some u=>RelV v u
 |none,none=>True
 |_,_=>False
def KV{κ:Type}:List (κ×V)->List (κ×e8)->Prop:=Paired λ(p:κ×V) (q:κ×e8)=>p.1=q.1/\RelV p.2 q.2
def kV:Key->V
 | .inl i=>.int i
 | .inr x=>.str x
inductive HO where
 |lst (xs:List V)
 |tup (xs:List V)
 |dK (kvs:List (Key×V))|dT (kvs:List (List Key×V))
 |set (S:Int->Bool) (n:Nat)
 |ins (C dx:Addr) (fs:List (Str×V))
 |own (x:Addr)
 |xd (fs:List (Str×V))
 |met (f x:Addr)
 |rng (lo hi:Int)
 |bD (o:Obj) (u:HO)
 |tbl (ps:Array e8)
 |ext (φ:Heap->Prop)
abbrev Hp:=Addr->Option HO
def upd(H:Hp)(a:Addr)(o:HO):Hp:=λb=>if b=a then some o else H b
theorem M3:upd H a o a=some o:=by delta upd;rw[c7 rfl]
theorem C3{b:Addr}(h:b≠a):upd H a o b=H b:=by delta upd;rw[e9 h]
theorem X3{b:Addr}(h:H a=some o)(h':H b=none):a≠b:=by intro e;subst e;rw[h]at h';cases h'
section
variable(P:A6)(w:t7)
def X6(H:Hp)(h:Heap)(a:Addr):HO->Prop
 | .lst xs=>xs.length<=B9/\∃(its:List e8) (n:Nat),Vals xs its/\h.get? a=some {cls:=.type "list",data:=.seq its.toArray n}
 | .tup xs=>xs.length<=B9/\∃its:List e8,Vals xs its/\eu h a its.toArray
 | .dK kvs=>kvs.length<=B9/\(a==sysModules)=false/\∃vs,KV kvs vs/\h.DictOf (EF P w) a vs
 | .dT kvs=>kvs.length<=B9/\(a==sysModules)=false/\∃xs:List (List Key×Addr×e8),
   Paired (λ(p:List Key×V) (q:List Key×Addr×e8)=>p.1=q.1/\H q.2.1=some (.tup (p.1.map kV))/\RelV p.2 q.2.2) kvs xs /\
   ∃o es ep,h.get? a=some o/\o.ExactDict/\o.data=.dict es ep/\es.toList=xs.map (entryOfKey (tupleKind (EF P w)))/\(xs.map (·.1)).Nodup
 | .set S n=>h.SetOf (intKind P w) a S n
 | .ins C dx fs=>H dx=some (.own a)/\fs.length<=1000/\dx≠a/\h.get? a=some (jG C dx) /\
   ∃mA,h.Ns1 dx mA/\(∀f,mV (fs.lookup f) (mA f))/\BO mA (fs.map (·.1))
 | .own _=>∃o,h.get? a=some o
 | .xd fs=>∃mA,h.Ns1 a mA/\∀f,mV (fs.lookup f) (mA f)
 | .rng lo hi=>∃t u v,h.get? a=some {cls:=.type "range",data:=.fields #[.int lo t,.int hi u,.int 1 v]}
 | .bD o u=>h.get? a=some o/\X6 H h a u
 | .tbl ps=>h.get? a=some {cls:=.none,data:=.fields ps}
 | .met f x=>h.get? a=some (Cw (.ref f) (.ref x))
 | .ext φ=>φ h/\(∃o,h.get? a=some o)/\∀h1 h2:Heap,φ h1->(∀o,h1.get? a=some o->h2.get? a=some o)->φ h2
def cu(H:Hp)(h:Heap):Prop:=∀a o,H a=some o->X6 P w H h a o
end
section
variable{P:A6}{w:t7}{H H':Hp}{h h':Heap}{a:Addr}{o:HO}
theorem X6.lt(x:X6 P w H h a o):a<h.objs.size:=by
 cases o with
 |lst xs=>obtain⟨_,_,_,_,e⟩:=x;exact A7 e
 |tup xs=>obtain⟨_,_,_,p⟩:=x;exact p.lt
 |dK kvs=>obtain⟨_,_,_,_,o,_,_,e,_⟩:=x;exact A7 e
 |dT kvs=>obtain⟨_,_,_,_,o,_,_,e,_⟩:=x;exact A7 e
 |set S n=>obtain⟨o,_,_,_,e,_⟩:=x;exact A7 e
 |ins C dx fs=>obtain⟨_,_,_,e,_⟩:=x;exact A7 e
 |own y=>obtain⟨_,e⟩:=x;exact A7 e
 |xd fs=>obtain⟨_,⟨_,_,_,e,_⟩,_⟩:=x;exact A7 e
 |rng lo hi=>obtain⟨_,_,_,e⟩:=x;exact A7 e
 |bD ob u=>obtain⟨e,_⟩:=x;exact A7 e
 |tbl ps=>exact A7 (show h.get? a=some _ from x)
 |met f y=>exact A7 (show h.get? a=some _ from x)
 |ext φ=>obtain⟨_,⟨_,e⟩,_⟩:=x;exact A7 e
theorem Paired.VG{α β:Type}{F G:α->β->Prop}:∀{l₁:List α} {l₂:List β},Paired F l₁ l₂->(∀a b,F a b->G a b)->Paired G l₁ l₂
 |_,_,.nil,_=>.nil
 |_,_,.cons r t,f=>.cons (f _ _ r) (Paired.VG t f)
theorem X6.pY(x:X6 P w H h a o)(k:∀b u,(b=a\/H b=some (.own a))->h.get? b=some u->h'.get? b=some u)
  (ho:∀b,H b=some (.own a)->H' b=some (.own a)) (ht:∀b xs,H b=some (.tup xs)->H' b=some (.tup xs)):X6 P w H' h' a o:=by
 induction o with
 |lst xs=>obtain⟨z,its,n,r,e⟩:=x;exact⟨z,its,n,r,k _ _ (.inl rfl) e⟩
 |tup xs=>obtain⟨z,its,r,ob,e,c⟩:=x;exact⟨z,its,r,ob,k _ _ (.inl rfl) e,c⟩
 |dK kvs=>obtain⟨z,y,vs,r,ob,es,ep,e,c⟩:=x;exact⟨z,y,vs,r,ob,es,ep,k _ _ (.inl rfl) e,c⟩
 |dT kvs =>
  obtain⟨z,y,xs,r,ob,es,ep,e,c⟩:=x;exact⟨z,y,xs,Paired.VG r λp q z=>⟨z.1,ht _ _ z.2.1,z.2.2⟩,ob,es,ep,k _ _ (.inl rfl) e,c⟩
 |set S n=>obtain⟨ob,es,ep,t,e,c⟩:=x;exact⟨ob,es,ep,t,k _ _ (.inl rfl) e,c⟩
 |ins C dx fs =>
  obtain⟨d,z,ne,e,mA,⟨od,es,ep,e2,c⟩,r⟩:=x;exact⟨ho _ d,z,ne,k _ _ (.inl rfl) e,mA,⟨od,es,ep,k _ _ (.inr d) e2,c⟩,r⟩
 |own y=>obtain⟨ob,e⟩:=x;exact⟨ob,k _ _ (.inl rfl) e⟩
 |xd fs=>obtain⟨mA,⟨od,es,ep,e,c⟩,r⟩:=x;exact⟨mA,⟨od,es,ep,k _ _ (.inl rfl) e,c⟩,r⟩
 |rng lo hi=>obtain⟨t,u,v,e⟩:=x;exact⟨t,u,v,k _ _ (.inl rfl) e⟩
 |bD ob u ih=>obtain⟨e,q⟩:=x;exact⟨k _ _ (.inl rfl) e,ih q⟩
 |tbl ps =>
  have e:h.get? a=some {cls:=.none,data:=.fields ps}:=x;show h'.get? a=some {cls:=.none,data:=.fields ps}
  exact k a _ (.inl rfl) e
 |met f y =>
  have e:h.get? a=some (Cw (.ref f) (.ref y)):=x;show h'.get? a=some (Cw (.ref f) (.ref y))
  exact k a _ (.inl rfl) e
 |ext φ=>obtain⟨p,⟨o,e⟩,st⟩:=x;exact⟨st _ _ p λo q=>k _ _ (.inl rfl) q,⟨o,k _ _ (.inl rfl) e⟩,st⟩
theorem cu.lt(x:cu P w H h)(e:H a=some o):a<h.objs.size:=(x a o e).lt
theorem cu.fresh(x:cu P w H h)(e:h.objs.size<=a):H a=none:=by
 cases q:H a with
 |none=>rfl
 |some u=>exact absurd (O1 (x.lt q) e) (aD _)
theorem cu.kept(x:cu P w H h)(k:∀b u,h.get? b=some u->h'.get? b=some u):cu P w H h':=λa o e =>
 (x a o e).pY (λb u _ q=>k b u q) (λ_ q=>q) λ_ _ q=>q
theorem cu.laid(x:cu P w H h)(k:∀b u,h.get? b=some u->h'.get? b=some u)(hp:h.objs.size<=a)(new:X6 P w (upd H a o) h' a o):cu P w (upd H a o) h':=λb u e=>by
 have hn:=x.fresh hp;by_cases hb:b=a
 . subst hb;rw[M3]at e;cases e;exact new
 . rw[C3 hb]at e;exact(x b u e).pY (λc v _ q=>k c v q) (λc q=>by rw[C3 (X3 q hn)];exact q) λc xs q=>by rw[C3 (X3 q hn)];exact q
end
def Rd(H:Hp)(a:Addr)(u:HO):Prop:=H a=some u\/∃o,H a=some (.bD o u)
theorem Rd.ok{P:A6}{w:t7}(r:Rd H a u)(x:cu P w H h):X6 P w H h a u:=by
 rcases r with r|⟨o,r⟩
 . exact x a u r
 . obtain⟨_,q⟩:=x a _ r;exact q
def Rb:Option HO->Prop
 |some (.lst _)=>True
 |some (.dK _)=>True
 |some (.dT _)=>True
 |some (.set _ _)=>True
 |some (.ins _ _ _)=>True
 |some (.ext _)=>True
 |_=>False
section
variable{P:A6}{w:t7}{H:Hp}{h h':Heap}{x e:Addr}{o':HO}
theorem cu.write(ok:cu P w H h)(mu:Rb (H x))(he:e=x\/H e=some (.own x))(k:∀b u,b≠e->h.get? b=some u->h'.get? b=some u)(heo:∃u,h'.get? e=some u)
  (new:X6 P w (upd H x o') h' x o'):cu P w (upd H x o') h':=λb u q=>by
 have nown:∀c y,H c=some (.own y)->c≠x:=λc y r z=>by subst z;rw[r]at mu;exact mu
 have ntup:∀c xs,H c=some (.tup xs)->c≠x:=λc xs r z=>by subst z;rw[r]at mu;exact mu
 by_cases hb:b=x
 . subst hb;rw[M3]at q;cases q;exact new
 . rw[C3 hb]at q;by_cases hbe:b=e
   . have q':H b=some (.own x):=by
       rcases he with z|z
       . exact absurd (hbe.trans z) hb
       . rw[hbe];exact z
     rw[q]at q';cases q';obtain⟨v,hv⟩:=heo;exact⟨v,by rw[hbe];exact hv⟩
   . refine(ok b u q).pY (λc v hc r=>k c v ?_ r) (λc r=>by rw[C3 (nown c b r)];exact r) λc xs r=>by rw[C3 (ntup c xs r)];exact r
     rcases hc with rfl|hc
     . exact hbe
     . rintro rfl;rcases he with z|z
       . exact nown c b hc z
       . rw[hc]at z;cases z;exact hb rfl
end
structure Un(fs ex:List Addr)(H H':Hp)(h h':Heap):Prop where
 keep:∀b o,h.get? b=some o->H b=none->b∉fs->b∉ex->h'.get? b=some o
 slot:∀b o,h.get? b=some o->H b=none->b∈fs->b∉ex->∃sl,h'.get? b=some {o with slots:=sl}
 free:∀b o,h.get? b=some o->H b=none->b∉ex->H' b=none
 there:∀b o,h.get? b=some o->b∉ex->∃o',h'.get? b=some o'
 pR:∀b xs,H b=some (.tup xs)->H' b=some (.tup xs)
 oS:∀b o u,H b=some (.bD o u)->H' b=some (.bD o u)
 pU:∀b ps,H b=some (.tbl ps)->∃more,H' b=some (.tbl (ps++more))
section
variable{fs fs' ex ex':List Addr}{H H1 H2:Hp}{h h1 h2 h':Heap}{a x e:Addr}{o:HO}
theorem Un.any(u:Un fs ex H H1 h h1){b:Addr}{ob:Obj}(q:h.get? b=some ob)(n:H b=none)(hx:b∉ex):∃sl,h1.get? b=some {ob with slots:=sl}:=by
 by_cases hb:b∈fs
 . exact u.slot b ob q n hb hx
 . exact⟨ob.slots,u.keep b ob q n hb hx⟩
theorem Un.kept(k:∀b u,h.get? b=some u->h'.get? b=some u):Un fs ex H H h h' :=
 ⟨λb ob q _ _ _=>k b ob q,λb ob q _ _ _=>⟨ob.slots,k b ob q⟩,λ_ _ _ n _=>n,λb ob q _=>⟨ob,k b ob q⟩,λ_ _ q=>q,λ_ _ _ q=>q,λ_ ps q=>⟨#[],by rw[q];simp⟩⟩
theorem Un.refl:Un fs ex H H h h:=Un.kept λ_ _ q=>q
theorem Un.laid(k:∀b u,h.get? b=some u->h'.get? b=some u)(hp:h.objs.size<=a)(hn:H a=none):Un fs ex H (upd H a o) h h' where
 keep:=λb u q _ _ _=>k b u q
 slot:=λb u q _ _ _=>⟨u.slots,k b u q⟩
 free:=λb u q n _=>by rw[C3 (U7 (O1 (A7 q) hp))];exact n
 there:=λb u q _=>⟨u,k b u q⟩
 pR:=λb xs q=>by rw[C3 (X3 q hn)];exact q
 oS:=λb u xs q=>by rw[C3 (X3 q hn)];exact q
 pU:=λb ps q=>⟨#[],by rw[C3 (X3 q hn),q];simp⟩
theorem Un.write(mu:Rb (H x))(he:e=x\/H e=some (.own x))(k:∀b u,b≠e->h.get? b=some u->h'.get? b=some u)(heo:∃u,h'.get? e=some u):Un fs ex H (upd H x o) h h':=by
 have hx:∀b,H b=none->b≠x:=λb n z=>by subst z;rw[n]at mu;exact mu
 have hb:∀b,H b=none->b≠e:=λb n z=>by
  subst z;rcases he with r|r
  . exact hx b n r
  . rw[n]at r;cases r
 have hm:∀b u,H b=some u->¬Rb (some u)->b≠x:=λb u q nm z=>by subst z;rw[q]at mu;exact nm mu
 refine⟨λb u q n _ _=>k b u (hb b n) q,λb u q n _ _=>⟨u.slots,k b u (hb b n) q⟩,λb u q n _=>by rw[C3 (hx b n)];exact n,λb u q _=>?_,
  λb xs q=>by rw[C3 (hm b _ q λz=>z)];exact q,λb u xs q=>by rw[C3 (hm b _ q λz=>z)];exact q,λb ps q=>⟨#[],by rw[C3 (hm b _ q λz=>z),q];simp⟩⟩
 by_cases hbe:b=e
 . subst hbe;exact heo
 . exact⟨u,k b u hbe q⟩
end
def PU(h:Heap)(H:Hp):List Addr:=(A4 h.objs.size).filter λa=>(H a).isSome
def oQ(h:Heap)(H:Hp):Heap:=PySem.W.hideAll h (PU h H)
theorem JY(h:Heap)(H:Hp):(oQ h H).objs.size=h.objs.size:=PySem.W.hideAll_size _ _
theorem OI{b:Addr}{o:Obj}(e:h.get? b=some o)(n:H b=none):(oQ h H).get? b=some o :=
 PySem.W.hideAll_get _ e λhm=>by have q:(H b).isSome=true:=(List.mem_filter.mp hm).2;rw[n]at q;simp at q
theorem SH{b:Addr}{o:Obj}(e:(oQ h H).get? b=some o):h.get? b=some o/\H b=none:=by
 have e':h.get? b=some o:=PySem.W.of_hideAll (PU h H) e;refine⟨e',?_⟩;cases q:H b with
 |none=>rfl
 |some x =>
  have hm:b∈PU h H:=List.mem_filter.mpr ⟨mem_range.mpr (A7 e'),by simp[q]⟩
  have z:(oQ h H).get? b=none:=PySem.W.hideAll_none (PU h H) hm;rw[z]at e;cases e
def Tq(g h:Heap)(L:Addr):List (Addr×Obj):=(A4 h.objs.size).filterMap λa=>if a=L\/(g.get? a).isSome=true then none else(h.get? a).map λo=>(a,o)
def rest(g h:Heap)(L d:Addr):List (Addr×Obj):=(Tq g h L).filter λp=>decide (p.1≠d)
end
section
variable{a it:Addr}{g':Array GenState}{t' j:Nat}{d':Drawn}{ch:List Addr}{A:A5}{E:e8->i5->Prop}{v:V}{u:e8}{Q:Unit->i5->Prop}
structure Mod(K:i9)(mg:Str->Option e8)(base:Heap):Prop where
 EO:K.In base
 glob:base.Ns S9 mg
 blt:∃mb,base.Ns builtinsNs mb/\∀x:Str,x ≠ "__name__"->mb x=cX x
 nolimit:base.NoLimit
structure Cx where
 prog:A6
 w:t7
 K:i9
 mg:Str->Option e8
 base:Heap
 A:A5
 N:List Str
 P9:i5
 h8:Hp
 env:Env
 outer:List Env
 stack:List Env
 ex:List Addr
 fn:Str->Bool
 calm:Bool
 pn:List (Addr×Obj)
 xe:e8->i5->Prop
def L9(l:List Env):List Addr:=l.filterMap (·.frame)
abbrev Cx.fs(X:Cx):List Addr:=L9 X.outer
def QW(sc:ag)(x:Str):Prop:=sc.names.lookup x=some .local\/sc.names.lookup x=some .cell\/sc.names.lookup x=some .free
def Loc(sc:ag)(x:Str):Prop:=sc.names.lookup x=some .local\/sc.names.lookup x=some .cell
def Look(env:Env)(h:Heap)(m:Str->Option e8)(x:Str)(u:e8):Prop :=
 (env.kindOf x=some .local/\m x=some u)\/((env.kindOf x=some .cell\/env.kindOf x=some .free)/\∃c,env.cells.lookup x=some c/\h.IsCell c (some u))
structure Cx.Ok(X:Cx):Prop where
 mod:Mod X.K X.mg X.base
 kind:X.env.scope.kind=.function
 glob:X.env.globals=S9
 blt:X.env.builtins=builtinsNs
 above:X.P9.heap.objs.size<=X.env.locals
 inj:∀x y c,X.env.cells.lookup x=some c->X.env.cells.lookup y=some c->x=y
 has:∀x,(X.env.kindOf x=some .cell\/X.env.kindOf x=some .free)->∃c,X.env.cells.lookup x=some c
 FH:∀x c,X.fn x=true->X.env.cells.lookup x=some c->X.P9.heap.objs.size<=c
 hd:X.calm=true->X.A.handled=none
 frames:X.A.frames=some X.stack
 Im:X.stack=X.outer\/(X.stack=X.env::X.outer/\X.env.frame=some X.env.locals)
 Wl:∀b∈X.ex,b≠X.env.locals/\∀x c,X.env.cells.lookup x=some c->c≠b
 bs:∀b o,X.base.get? b=some o->X.P9.heap.get? b=some o/\X.h8 b=none
 pL:X.base.objs.size<=X.P9.heap.objs.size
 tK:∀b o,X.base.get? b=some o->b∉X.ex
 xA:∀b∈X.ex,b∉X.fs
 iB:X.P9.heap.FunFrames X.base X.outer
 yA:∀b∈X.fs,X.h8 b=none
structure Inv(X:Cx)(pins:List (Addr×Obj))(σ:List (Option V))(H:Hp)(s:i5):Prop where
 ok:X.Ok
 os:s.os=X.P9.os
 bare:gK s.gens
 base:Un X.fs X.ex X.h8 H X.P9.heap s.heap
 loc:∃m,s.heap.Ns X.env.locals m/\∀(i:Nat) (x:Str) (v:V),X.N[i]? = some x->σ[i]? = some (some v)->QW X.env.scope x->∃u,RelV v u/\Look X.env s.heap m x u
 cell:∀x c,X.env.cells.lookup x=some c->∃v,s.heap.IsCell c v
 free:H X.env.locals=none
 gA:∀x c,X.env.cells.lookup x=some c->H c=none
 pin:∀p∈X.pn++pins,s.heap.get? p.1=some p.2/\H p.1=none/\p.1≠X.env.locals/\p.1∉X.fs/\∀v,p.2.data≠.cell v
 B6:cu X.prog X.w H s.heap
 len:σ.length=X.N.length
section
variable{X:Cx}{pins:List (Addr×Obj)}{σ:List (Option V)}{H H':Hp}{s:i5}{h':Heap}
theorem Cx.Ok.Yf(ok:X.Ok){b:Addr}{o:Obj}(e:X.base.get? b=some o):b∉X.fs:=λhb=>by have:=(ok.iB.mem hb).1;rw[e]at this;cases this
theorem Inv.bs(I:Inv X pins σ H s):∀b o,X.base.get? b=some o->s.heap.get? b=some o/\H b=none:=λb o e =>
 ⟨I.base.keep b o (I.ok.bs b o e).1 (I.ok.bs b o e).2 (I.ok.Yf e) (I.ok.tK b o e),I.base.free b o (I.ok.bs b o e).1 (I.ok.bs b o e).2 (I.ok.tK b o e)⟩
theorem Inv.bk(I:Inv X pins σ H s):∀b o,X.base.get? b=some o->s.heap.get? b=some o:=λb o e=>(I.bs b o e).1
theorem Inv.mod(I:Inv X pins σ H s):Mod X.K X.mg X.base:=I.ok.mod
theorem Inv.dZ(I:Inv X pins σ H s):X.K.In s.heap:=I.ok.mod.EO.keeps I.bk
theorem Inv.fr(I:Inv X pins σ H s):∃m,Fr X.base X.env.locals s.heap m :=
 let ⟨m,hn,_⟩:=I.loc
 ⟨m,hn,I.bk,P5 I.ok.pL I.ok.above⟩
theorem Inv.lt(I:Inv X pins σ H s):X.env.locals<s.heap.objs.size:=let ⟨_,hn,_⟩:=I.loc;hn.lt
theorem Inv.sz(I:Inv X pins σ H s):X.P9.heap.objs.size<=s.heap.objs.size:=P5 I.ok.above (jy I.lt)
theorem Inv.Of(I:Inv X pins σ H s)(h:s.heap.objs.size<=a):a∉X.fs:=λhb=>by obtain⟨_,o,ho,_⟩:=I.ok.iB.mem hb;exact absurd (O1 (A7 ho) (P5 I.sz h)) (aD _)
theorem Inv.Bh(I:Inv X pins σ H s):∀x c,X.env.cells.lookup x=some c->c≠X.env.locals:=λx c e z=>by obtain⟨v,o,ho,hd⟩:=I.cell x c e;obtain⟨m,⟨o',es,ep,ho',hd',_⟩,_⟩:=I.loc;rw[z,ho']at ho;cases ho;rw[hd']at hd;cases hd
theorem Inv.iB(I:Inv X pins σ H s):s.heap.FunFrames X.base X.outer:=by
 have all:∀(l:List Env),(∀b∈L9 l,b∈X.fs)->X.P9.heap.FunFrames X.base l->s.heap.FunFrames X.base l:=by
  intro l;induction l with
  |nil=>intro _ _;trivial
  |cons env r ih =>
   intro hs hl;obtain⟨hk,⟨L,o,hf,hn,ho,hd⟩,hr⟩:=hl;have hL:L∈X.fs:=hs L (by delta L9;rw[wB,hf];exact A2)
   obtain⟨sl,e⟩:=I.base.slot L o ho (I.ok.yA L hL) hL λz=>I.ok.xA L z hL
   exact⟨hk,⟨L,_,hf,hn,e,hd⟩,ih (λb hb=>hs b (by delta L9;rw[wB,hf];exact C4 _ hb)) hr⟩
 exact all X.outer (λ_ hb=>hb) I.ok.iB
theorem Inv.stack(I:Inv X pins σ H s):s.heap.FunFrames X.base X.stack:=by
 rcases I.ok.Im with e|⟨e,hf⟩
 . rw[e];exact I.iB
 . rw[e];obtain⟨m,hn,_⟩:=I.loc;refine .cons (by rw[I.ok.kind];decide) hf hn ?_ I.iB
   exact LO (P5 I.ok.pL I.ok.above)
theorem Inv.pX(I:Inv X pins σ H s):∀b∈L9 X.stack,b∈X.env.locals::X.fs:=λb hb=>by
 rcases I.ok.Im with e|⟨e,hf⟩
 . rw[e]at hb;exact C4 _ hb
 . rw[e]at hb;delta L9 at hb;rw[wB,hf]at hb;exact hb
theorem Inv.DY(I:Inv X pins σ H s):∀b∈L9 X.stack,H b=none:=λb hb=>by
 rcases List.mem_cons.mp (I.pX b hb)with e|hb
 . rw[e];exact I.free
 . obtain⟨_,o,ho,_⟩:=I.ok.iB.mem hb;exact I.base.free b o ho (I.ok.yA b hb) λz=>I.ok.xA b z hb
theorem Inv.step{g':Array GenState}{t':Nat}{d':Drawn}(I:Inv X pins σ H s)
  (hch:∀b∈ch,(b∈X.ex\/X.P9.heap.objs.size<=b)/\b≠X.env.locals/\(∀x c,X.env.cells.lookup x=some c->c≠b)/\∀p∈X.pn++pins,p.1≠b)
  (keep:∀b o,b≠X.env.locals->b∉X.fs->b∉ch->s.heap.get? b=some o->H b=none->h'.get? b=some o)
  (slot:∀b o,b≠X.env.locals->b∈X.fs->b∉ch->s.heap.get? b=some o->H b=none->∃sl,h'.get? b=some {o with slots:=sl}) (free:∀b o,b∉ch->s.heap.get? b=some o->H b=none->H' b=none)
  (there:∀b o,b∉ch->s.heap.get? b=some o->∃o',h'.get? b=some o')
  (pR:∀b xs,H b=some (.tup xs)->H' b=some (.tup xs)) (oS:∀b o u,H b=some (.bD o u)->H' b=some (.bD o u)) (pU:∀b ps,H b=some (.tbl ps)->∃more,H' b=some (.tbl (ps++more)))
  (ns:∀m,s.heap.Ns X.env.locals m->h'.Ns X.env.locals m) (B6:cu X.prog X.w H' h') (hg:gK g') :
  Inv X pins σ H' {s with heap:=h',gens:=g',drawn:=d',toks:=t'}:=by
 have neL:∀b o,X.P9.heap.get? b=some o->b≠X.env.locals:=λb o e=>U7 (O1 (A7 e) I.ok.above)
 have neC:∀b o,X.P9.heap.get? b=some o->b∉X.ex->b∉ch:=λb o e hx hb=>by
  rcases(hch b hb).1 with z|z
  . exact hx z
  . exact absurd (O1 (A7 e) z) (aD _)
 have cellK:∀x c,X.env.cells.lookup x=some c->∀v,s.heap.IsCell c v->h'.IsCell c v:=λx c e v ⟨o,ho,hd⟩=>by
  have nch:c∉ch:=λz=>(hch c z).2.2.1 x c e rfl
  by_cases hc:c∈X.fs
  . obtain⟨sl,q⟩:=slot c o (I.Bh x c e) hc nch ho (I.gA x c e);exact⟨_,q,hd⟩
  . exact⟨o,keep c o (I.Bh x c e) hc nch ho (I.gA x c e),hd⟩
 refine⟨I.ok,I.os,hg,⟨λb o e n hb hx=>?_,λb o e n hb hx=>?_,λb o e n hx=>?_,λb o e hx=>?_,λb xs e=>pR b xs (I.base.pR b xs e),λb o xs e=>oS b o xs (I.base.oS b o xs e),λb ps e=>?_⟩,?_,λx c e=>?_,?_,λx c e=>?_,λp hp=>?_,B6,I.len⟩
 . exact keep b o (neL b o e) hb (neC b o e hx) (I.base.keep b o e n hb hx) (I.base.free b o e n hx)
 . obtain⟨sl,e1⟩:=I.base.slot b o e n hb hx;obtain⟨sl',e2⟩:=slot b _ (neL b o e) hb (neC b o e hx) e1 (I.base.free b o e n hx);exact⟨sl',e2⟩
 . obtain⟨o',e1⟩:=I.base.there b o e hx;exact free b o' (neC b o e hx) e1 (I.base.free b o e n hx)
 . obtain⟨o',e1⟩:=I.base.there b o e hx;exact there b o' (neC b o e hx) e1
 . obtain⟨m1,e1⟩:=I.base.pU b ps e;obtain⟨m2,e2⟩:=pU b _ e1;exact⟨m1++m2,by rw[e2,Array.append_assoc]⟩
 . obtain⟨m,hn,hl⟩:=I.loc;refine⟨m,ns m hn,λi x v e1 e2 e3=>?_⟩
   obtain⟨u,r,l⟩:=hl i x v e1 e2 e3;refine⟨u,r,?_⟩;rcases l with l|⟨k,c,e,z⟩
   . exact .inl l
   . exact .inr ⟨k,c,e,cellK x c e _ z⟩
 . obtain⟨v,z⟩:=I.cell x c e;exact⟨v,cellK x c e v z⟩
 . obtain⟨m,⟨o,_,_,ho,_⟩,_⟩:=I.loc;exact free _ o (λz=>(hch _ z).2.1 rfl) ho I.free
 . obtain⟨v,o,ho,hd⟩:=I.cell x c e;exact free c o (λz=>(hch c z).2.2.1 x c e rfl) ho (I.gA x c e)
 . obtain⟨e,n,ne,nf,d⟩:=I.pin p hp;have nch:p.1∉ch:=λz=>(hch p.1 z).2.2.2 p hp rfl
   exact⟨keep p.1 p.2 ne nf nch e n,free p.1 p.2 nch e n,ne,nf,d⟩
theorem Inv.un{t':Nat}(I:Inv X pins σ H s)(u:Un X.fs [] H H' s.heap h')(B6:cu X.prog X.w H' h'):Inv X pins σ H' {s with heap:=h',toks:=t'}:=by
 obtain⟨m,⟨o,es,ep,ho,r⟩,_⟩:=id I.loc;obtain⟨sl,hL⟩:=u.any ho I.free (by simp)
 exact I.step (g':=s.gens) (d':=s.drawn) (ch:=[]) (λ_ z=>nomatch z) (λb o _ hb _ e n=>u.keep b o e n hb (by simp)) (λb o _ hb _ e n=>u.slot b o e n hb (by simp)) (λb o _ e n=>u.free b o e n (by simp)) (λb o _ e=>u.there b o e (by simp)) u.pR u.oS u.pU (λm' hm=>by obtain⟨o',es',ep',ho',r'⟩:=hm;rw[ho]at ho';cases ho';exact⟨_,es',ep',hL,r'⟩) B6 I.bare
theorem Inv.call{t':Nat}{d':Drawn}(I:Inv X pins σ H s)(u:Un (L9 X.stack) ch H H' s.heap h')(B6:cu X.prog X.w H' h')(hg:gK g')
  (hch:∀b∈ch,(b∈X.ex\/X.P9.heap.objs.size<=b)/\b≠X.env.locals/\(∀x c,X.env.cells.lookup x=some c->c≠b)/\∀p∈X.pn++pins,p.1≠b) :
  Inv X pins σ H' {s with heap:=h',gens:=g',drawn:=d',toks:=t'}:=by
 obtain⟨m,⟨o,es,ep,ho,r⟩,_⟩:=id I.loc;obtain⟨sl,hL⟩:=u.any ho I.free λz=>(hch _ z).2.1 rfl
 exact I.step (ch:=ch) hch (λb o hL hb hc e n=>u.keep b o e n (λz=>(List.mem_cons.mp (I.pX b z)).elim hL hb) hc) (λb o _ _ hc e n=>u.any e n hc) (λb o hc e n=>u.free b o e n hc) (λb o hc e=>u.there b o e hc) u.pR u.oS u.pU (λm' hm=>by obtain⟨o',es',ep',ho',r'⟩:=hm;rw[ho]at ho';cases ho';exact⟨_,es',ep',hL,r'⟩) B6 hg
theorem Inv.turned{t':Nat}(I:Inv X pins σ H s)(k:∀b o,b≠it->s.heap.get? b=some o->h'.get? b=some o)(hn:H it=none)(hL:it≠X.env.locals)
  (h1:it∈X.ex\/X.P9.heap.objs.size<=it) (h2:∀x c,X.env.cells.lookup x=some c->c≠it) (h3:∀p∈X.pn++pins,p.1≠it):Inv X pins σ H {s with heap:=h',toks:=t'}:=by
 have nit:∀b u,H b=some u->b≠it:=λb u e z=>by rw[z,hn]at e;cases e
 refine I.step (g':=s.gens) (d':=s.drawn) (ch:=[it]) (λb hb=>?_) (λb o _ _ hc e _=>k b o (λz=>hc (by simp[z])) e) (λb o _ _ hc e _=>⟨o.slots,k b o (λz=>hc (by simp[z])) e⟩) (λ_ _ _ _ n=>n)
  (λb o hc e=>⟨o,k b o (λz=>hc (by simp[z])) e⟩) (λ_ _ e=>e) (λ_ _ _ e=>e) (λb ps e=>⟨#[],by rw[e];simp⟩) (λm hm=>?_) (λb u e=>?_) I.bare
 . have e:b=it:=by simpa using hb
   subst e;exact⟨h1,hL,h2,h3⟩
 . obtain⟨o,es,ep,ho,r⟩:=hm;exact⟨o,es,ep,k _ o (gJ hL) ho,r⟩
 . refine(I.B6 b u e).pY (λc v hc q=>k c v ?_ q) (λ_ q=>q) λ_ _ q=>q
   rcases hc with z|z
   . rw[z];exact nit b u e
   . exact nit c _ z
theorem Inv.tok(I:Inv X pins σ H s)(t:Nat):Inv X pins σ H {s with toks:=t}:=I.un (h':=s.heap) (t':=t) Un.refl I.B6
theorem Inv.kept{t':Nat}(I:Inv X pins σ H s)(k:∀b u,s.heap.get? b=some u->h'.get? b=some u):Inv X pins σ H {s with heap:=h',toks:=t'}:=I.un (Un.kept k) (I.B6.kept k)
theorem Inv.laid{a:Addr}{o:HO}{t':Nat}(I:Inv X pins σ H s)(k:∀b u,s.heap.get? b=some u->h'.get? b=some u)(hp:s.heap.objs.size<=a)(new:X6 X.prog X.w (upd H a o) h' a o):
  Inv X pins σ (upd H a o) {s with heap:=h',toks:=t'}:=I.un (Un.laid k hp (I.B6.fresh hp)) (I.B6.laid k hp new)
theorem Inv.write{x e:Addr}{o:HO}{t':Nat}(I:Inv X pins σ H s)(mu:Rb (H x))(he:e=x\/H e=some (.own x))(k:∀b u,b≠e->s.heap.get? b=some u->h'.get? b=some u)(heo:∃u,h'.get? e=some u)
  (new:X6 X.prog X.w (upd H x o) h' x o):Inv X pins σ (upd H x o) {s with heap:=h',toks:=t'}:=I.un (Un.write mu he k heo) (I.B6.write mu he k heo new)
theorem Inv.weak{σ':List (Option V)}(I:Inv X pins σ H s)(hl:σ'.length=σ.length)(w:∀(i:Nat) v,σ'[i]? = some (some v)->σ[i]? = some (some v)):Inv X pins σ' H s :=
 ⟨I.ok,I.os,I.bare,I.base,let ⟨m,hn,hl'⟩:=I.loc;⟨m,hn,λi x v e1 e2 e3=>hl' i x v e1 (w i v e2) e3⟩,I.cell,I.free,I.gA,I.pin,I.B6,hl.trans I.len⟩
theorem Inv.iu{pins':List (Addr×Obj)}(I:Inv X pins σ H s)(h:∀p∈pins',s.heap.get? p.1=some p.2/\H p.1=none/\p.1≠X.env.locals/\p.1∉X.fs/\∀v,p.2.data≠.cell v):Inv X pins' σ H s :=
 ⟨I.ok,I.os,I.bare,I.base,I.loc,I.cell,I.free,I.gA,λp hp=>(List.mem_append.mp hp).elim (λz=>I.pin p (iV _ z)) (h p),I.B6,I.len⟩
theorem Ae{N:List Str}(hN:N.Nodup){i:Nat}{x:Str}(a:N[i]? = some x)(b:N[j]? = some x):i=j:=by obtain⟨h1,e1⟩:=List.getElem?_eq_some_iff.mp a;obtain⟨h2,e2⟩:=List.getElem?_eq_some_iff.mp b;exact(List.getElem_inj hN).mp (e1.trans e2.symm)
theorem Ik{M:Model}{i:Nat}{x:Str}(I:Inv X pins σ H s)(hN:X.N.Nodup)(hi:X.N[i]? = some x)(hx:Loc X.env.scope x)(r:RelV v u)
  (h:∀s',Inv X pins (σ.set i (some v)) H s'->(∃a,qR a s.heap s'.heap/\(a=X.env.locals\/X.env.cells.lookup x=some a))->Q () s') (hf:X.fn x=true\/X.env.scope.names.lookup x=some .local:=by first|exact .inl rfl|exact .inr rfl|assumption):wpAny M A (storeName X.env x u) Q E s:=by
 obtain⟨m,hn,hl⟩:=id I.loc;have hcls:(X.env.scope.kind==.class||(X.env.scope.kind==.module&&X.env.locals != X.env.globals))=false:=by rw[I.ok.kind];rfl
 have hiσ:i<σ.length:=by rw[I.len];exact(List.getElem?_eq_some_iff.mp hi).1
 have Bh:=I.Bh;have tracked:∀{a:Addr} {h':Heap},(∃o,s.heap.get? a=some o/\H a=none)->qR a s.heap h'->cu X.prog X.w H h':=λ{a h'} ha hs b ob e=>by
  obtain⟨_,_,hfree⟩:=ha;refine(I.B6 b ob e).pY (λc w' hc q=>(hs.2 c ?_).trans q) (λ_ q=>q) λ_ _ q=>q
  rintro rfl;rcases hc with rfl|hc
  . rw[hfree]at e;cases e
  . rw[hfree]at hc;cases hc
 rcases hx with hk|hk
 . refine wpAny_storeName_local hk hn (λh' hn' hs=>?_) hcls
   obtain⟨oL,_,_,hoL,_⟩:=id hn;refine h _ ⟨I.ok,I.os,I.bare,⟨λb o e n hb hx=>?_,λb o e n hb hx=>?_,I.base.free,λb o e hx=>?_,I.base.pR,I.base.oS,I.base.pU⟩,⟨_,hn',λj y v' e1 e2 e3=>?_⟩,λy c e=>?_,I.free,I.gA,λp hp=>?_,tracked ⟨oL,hoL,I.free⟩ hs,by simpa using I.len⟩ ⟨_,hs,.inl rfl⟩
   . exact(hs.2 b (U7 (O1 (A7 e) I.ok.above))).trans (I.base.keep b o e n hb hx)
   . obtain⟨sl,e1⟩:=I.base.slot b o e n hb hx;exact⟨sl,(hs.2 b (U7 (O1 (A7 e) I.ok.above))).trans e1⟩
   . obtain⟨o',e1⟩:=I.base.there b o e hx;exact⟨o',(hs.2 b (U7 (O1 (A7 e) I.ok.above))).trans e1⟩
   . by_cases hj:j=i
     . subst hj;rw[hi]at e1;cases e1;rw[rm hiσ]at e2;cases e2;exact⟨u,r,.inl ⟨hk,by simp⟩⟩
     . rw[fh (gJ hj)]at e2;obtain⟨u',r',q⟩:=hl j y v' e1 e2 e3;refine⟨u',r',?_⟩;rcases q with ⟨k,e⟩|⟨k,c,e,z⟩
       . refine .inl ⟨k,?_⟩;have:y≠x:=λe=>hj (Ae hN e1 (e▸hi))
         simp[this,e]
       . exact .inr ⟨k,c,e,z.sameBut hs (Bh y c e)⟩
   . obtain⟨w',z⟩:=I.cell y c e;exact⟨w',z.sameBut hs (Bh y c e)⟩
   . obtain⟨e,n,ne,nf,d⟩:=I.pin p hp;exact⟨(hs.2 p.1 ne).trans e,n,ne,nf,d⟩
 . have hfn:X.fn x=true:=by
     rcases hf with z|z
     . exact z
     . rw[z]at hk;cases hk
   obtain⟨c,hc⟩:=I.ok.has x (.inl hk);obtain⟨w',z⟩:=I.cell x c hc;refine wpAny_storeName_cell I.ok.kind hk hc z (λh' hc' hs=>?_)
   obtain⟨oc,hoc,hocd⟩:=id z;refine h {s with heap:=h'} ⟨I.ok,I.os,I.bare,⟨λb o e n hb hx=>?_,λb o e n hb hx=>?_,I.base.free,λb o e hx=>?_,I.base.pR,I.base.oS,I.base.pU⟩,⟨m,hn.sameBut hs (gJ (Bh x c hc)),λj y v' e1 e2 e3=>?_⟩,λy c' e=>?_,I.free,I.gA,λp hp=>?_,tracked ⟨oc,hoc,I.gA x c hc⟩ hs,by simpa using I.len⟩ ⟨c,hs,.inr hc⟩
   . exact(hs.2 b (U7 (O1 (A7 e) (I.ok.FH x c hfn hc)))).trans (I.base.keep b o e n hb hx)
   . obtain⟨sl,e1⟩:=I.base.slot b o e n hb hx;exact⟨sl,(hs.2 b (U7 (O1 (A7 e) (I.ok.FH x c hfn hc)))).trans e1⟩
   . obtain⟨o',e1⟩:=I.base.there b o e hx;exact⟨o',(hs.2 b (U7 (O1 (A7 e) (I.ok.FH x c hfn hc)))).trans e1⟩
   . by_cases hj:j=i
     . subst hj;rw[hi]at e1;cases e1;rw[rm hiσ]at e2;cases e2;exact⟨u,r,.inr ⟨.inl hk,c,hc,hc'⟩⟩
     . rw[fh (gJ hj)]at e2;obtain⟨u',r',q⟩:=hl j y v' e1 e2 e3;refine⟨u',r',?_⟩;rcases q with q|⟨k,c',e,z'⟩
       . exact .inl q
       . refine .inr ⟨k,c',e,z'.sameBut hs ?_⟩;rintro rfl;exact hj (Ae hN e1 (I.ok.inj _ _ _ e hc▸hi))
   . by_cases hcc:c'=c
     . subst hcc;exact⟨_,hc'⟩
     . obtain⟨w2,z2⟩:=I.cell y c' e;exact⟨w2,z2.sameBut hs hcc⟩
   . obtain⟨e,n,ne,nf,d⟩:=I.pin p hp;refine⟨(hs.2 p.1 ?_).trans e,n,ne,nf,d⟩;intro q;rw[q,hoc]at e;have q':oc=p.2:=ar e;exact d w' (by rw[<-q'];exact hocd)
theorem zG{M:Model}{i:Nat}{x:Str}(I:Inv X pins σ H s)(hN:X.N.Nodup)(hi:X.N[i]? = some x)(hx:Loc X.env.scope x)(r:RelV v u)
  (h:∀s',Inv X pins (σ.set i (some v)) H s'->Q () s') (hf:X.fn x=true\/X.env.scope.names.lookup x=some .local:=by first|exact .inl rfl|exact .inr rfl|assumption):wpAny M A (storeName X.env x u) Q E s :=
 Ik I hN hi hx r (λs' I' _=>h s' I') hf
theorem Inv.Xu{s':i5}(I:Inv X pins σ H s)(ho:s'.os=s.os)(u:Un (L9 X.stack) ch H H' s.heap s'.heap)(B6:cu X.prog X.w H' s'.heap)(hg:gK s'.gens)
  (hch:∀b∈ch,(b∈X.ex\/X.P9.heap.objs.size<=b)/\b≠X.env.locals/\(∀x c,X.env.cells.lookup x=some c->c≠b)/\∀p∈X.pn++pins,p.1≠b):Inv X pins σ H' s':=by obtain⟨h',g',d',t',o'⟩:=s';have e:o'=s.os:=ho;subst e;exact I.call (g':=g') (t':=t') (d':=d') u B6 hg hch
end
abbrev XK:=e8->Option Addr->Hp->Prop
abbrev St:=List (Option V)
abbrev VK:=V->Hp->Prop
abbrev TE:=St->Hp->VK->Prop
abbrev TT:=St->Hp->(Bool->Hp->Prop)->Prop
abbrev TA:=St->Hp->(List V->Hp->Prop)->Prop
structure Ends where
 nx:St->Hp->Prop
 rt:VK
 bk:St->Hp->Prop:=λ_ _=>False
 ct:St->Hp->Prop:=λ_ _=>False
abbrev TS:=Ends->St->Hp->Prop
def EP(X:Cx)(pins:List (Addr×Obj))(σ:St)(Q:VK)(u:e8)(s':i5):Prop:=∃v H',Inv X pins σ H' s'/\RelV v u/\Q v H'
def TP(X:Cx)(pins:List (Addr×Obj))(σ:St)(Q:Bool->Hp->Prop)(b:Bool)(s':i5):Prop:=∃H',Inv X pins σ H' s'/\Q b H'
def AP(X:Cx)(pins:List (Addr×Obj))(σ:St)(Q:List V->Hp->Prop)(us:List e8)(s':i5):Prop:=∃vs H',Inv X pins σ H' s'/\Vals vs us/\Q vs H'
def SP(X:Cx)(pins:List (Addr×Obj))(D:Ends)(f:Flow)(s':i5):Prop :=
 match f with
 | .next=>∃σ' H',Inv X pins σ' H' s'/\D.nx σ' H'
 | .brk=>∃σ' H',Inv X pins σ' H' s'/\D.bk σ' H'
 | .cont=>∃σ' H',Inv X pins σ' H' s'/\D.ct σ' H'
 | .ret u=>∃v σ' H',Inv X pins σ' H' s'/\RelV v u/\D.rt v H'
def PE(X:Cx)(e:Expr)(t:TE):Prop :=
 ∀(pins:List (Addr×Obj)) (s:i5) (σ:St) (H:Hp) (Q:VK),Inv X pins σ H s->t σ H Q->wpAny (model X.prog X.w) X.A (eval e X.env) (EP X pins σ Q) X.xe s
def PT(X:Cx)(e:Expr)(t:TT):Prop :=
 ∀(pins:List (Addr×Obj)) (s:i5) (σ:St) (H:Hp) (Q:Bool->Hp->Prop),Inv X pins σ H s->t σ H Q->wpAny (model X.prog X.w) X.A (isTrue e X.env (eval e X.env)) (TP X pins σ Q) X.xe s
def PW(X:Cx)(e:Expr)(t:TT):Prop :=
 ∀(whole:Sem e8) (pins:List (Addr×Obj)) (s:i5) (σ:St) (H:Hp) (Q:Bool->Hp->Prop),Inv X pins σ H s->t σ H Q->wpAny (model X.prog X.w) X.A (isTrue e X.env whole) (TP X pins σ Q) X.xe s
theorem PW.pt{X:Cx}{e:Expr}{t:TT}(h:PW X e t):PT X e t:=h _
def PA(X:Cx)(es:List Expr)(t:TA):Prop :=
 ∀(pos:Pos) (pins:List (Addr×Obj)) (s:i5) (σ:St) (H:Hp) (Q:List V->Hp->Prop),Inv X pins σ H s->t σ H Q->wpAny (model X.prog X.w) X.A (spliced (C9 pos (j6 es X.env))) (AP X pins σ Q) X.xe s
def PS(X:Cx)(st:Stmt)(t:TS):Prop :=
 ∀(pins:List (Addr×Obj)) (s:i5) (σ:St) (H:Hp) (D:Ends),Inv X pins σ H s->t D σ H->wpAny (model X.prog X.w) X.A (exec st X.env) (SP X pins D) X.xe s
def mL(X:Cx)(st:List Stmt)(t:TS):Prop :=
 ∀(pins:List (Addr×Obj)) (s:i5) (σ:St) (H:Hp) (D:Ends),Inv X pins σ H s->t D σ H->wpAny (model X.prog X.w) X.A (execs st X.env) (SP X pins D) X.xe s
theorem C5{α:Type}{t:Sem α}{Q Q':α->i5->Prop}{M:Model}{s:i5}(h:wpAny M A t Q E s)(hQ:∀a s,Q a s->Q' a s):wpAny M A t Q' E s:=ck h hQ λ_ _ x=>x
end
section
variable{E Q:e8->i5->Prop}{pins:List (Addr×Obj)}{σ:St}{H:Hp}{u:e8}{v:V}{t:TE}
section
variable{X:Cx}
def O2(i:Nat):TE:=λσ H Q=>∃v,σ[i]? = some (some v)/\Q v H
def tC(v:V):TE:=λ_ H Q=>Q v H
theorem Vg{i:Nat}{x:Str}{pos:Pos}(hN:X.N[i]? = some x)(hv:QW X.env.scope x)(hd:(x==("__debug__" : Str))=false:=by decide)(hcd:(x==("__classdict__" : Str))=false:=by decide):PE X (.Name x pos) (O2 i):=by
 intro pins s σ H Q I h;obtain⟨v,e,h⟩:=h;obtain⟨m,hn,hl⟩:=I.loc;obtain⟨u,r,l⟩:=hl i x v hN e hv;have fin:EP X pins σ Q u s:=⟨v,H,I,r,h⟩;rcases l with ⟨hk,hm⟩|⟨hk,c,hc,hcell⟩
 . exact wpAny_Name (wpAny_loadName_local I.ok.kind hk hn hm fin) hd
 . rcases hk with hk|hk
   . exact wpAny_Name (wpAny_loadName_cell I.ok.kind hk hc hcell fin) hd
   . exact wpAny_Name (wpAny_loadName_free I.ok.kind hk hc hcell fin hcd) hd
theorem Vn{i j pos}:PE X (.Constant (.int i) j pos) (tC (.int i)):=λ_ _ _ H _ I h=>wpAny_Constant_int ⟨.int i,H,I.tok _,⟨_,rfl⟩,h⟩
theorem Xh{b j pos}:PE X (.Constant (.bool b) j pos) (tC (.bl b)):=λ_ _ _ H _ I h=>Constant_bool ⟨.bl b,H,I,rfl,h⟩
theorem Vl{j pos}:PE X (.Constant .none j pos) (tC .non):=λ_ _ _ H _ I h=>Constant_none ⟨.non,H,I,rfl,h⟩
theorem Vi{x j pos}:PE X (.Constant (.str x) j pos) (tC (.str x)):=λ_ _ _ H _ I h=>Calls.Constant_str ⟨.str x,H,I.tok _,⟨_,rfl⟩,h⟩
def Gl(X:Cx)(x:Str):Prop:=X.env.kindOf x=some .globalImplicit
theorem xp{s:i5}{x:Str}{pos:Pos}(I:Inv X pins σ H s)(hg:Gl X x)(hm:X.mg x=some u)(h:Q u s)
  (hd:(x==("__debug__" : Str))=false:=by decide):wpAny (model X.prog X.w) X.A (eval (.Name x pos) X.env) Q E s :=
 Mj I.ok.kind hg (Calls.loadGlobal_global (by rw[I.ok.glob];exact I.mod.glob.keeps I.bk) hm h) hd
theorem ny{s:i5}{x:Str}{pos:Pos}(I:Inv X pins σ H s)(hg:Gl X x)(hm:X.mg x=none)(hv:cX x=some u)(h:Q u s)
  (hn:x ≠ "__name__":=by decide) (hd:(x==("__debug__" : Str))=false:=by decide):wpAny (model X.prog X.w) X.A (eval (.Name x pos) X.env) Q E s:=by obtain⟨mb,h1,h2⟩:=I.mod.blt;exact Mj I.ok.kind hg (Calls.loadGlobal_builtin (by rw[I.ok.glob];exact I.mod.glob.keeps I.bk) hm (by rw[I.ok.blt];exact h1.keeps I.bk) ((h2 x hn).trans hv) h) hd
theorem Sq{x:Str}{pos:Pos}(hg:Gl X x)(hm:X.mg x=some u)(r:RelV v u)(hd:(x==("__debug__" : Str))=false:=by decide):PE X (.Name x pos) (tC v) :=
 λ_ _ _ H _ I h=>xp I hg hm ⟨v,H,I,r,h⟩ hd
theorem rM{x:Str}{pos:Pos}(hg:Gl X x)(hm:X.mg x=none)(hv:cX x=some u)(r:RelV v u)(hn:x ≠ "__name__":=by decide)(hd:(x==("__debug__" : Str))=false:=by decide):PE X (.Name x pos) (tC v) :=
 λ_ _ _ H _ I h=>ny I hg hm hv ⟨v,H,I,r,h⟩ hn hd
variable{a b:Expr}{ta tb:TE}{pos:Pos}
def PC(X:Cx)(op:CmpOp)(a b:Expr)(t:TE):Prop :=
 ∀(pins:List (Addr×Obj)) (s:i5) (σ:St) (H:Hp) (Q:VK),Inv X pins σ H s->t σ H Q ->
  wpAny (model X.prog X.w) X.A (eval a X.env) (λv s₁=>wpAny (model X.prog X.w) X.A (eval b X.env) (λu s₂=>wpAny (model X.prog X.w) X.A (S8 op v u) (EP X pins σ Q) X.xe s₂) X.xe s₁) X.xe s
def tB(t:TE):TT:=λσ H Q=>t σ H λx H1=>∃c,x=.bl c/\Q c H1
theorem UX{e:Expr}(h:PE X e t)(he:∀whole,isTrue e X.env whole=(do let v <- whole;cc e.pos;holding [v] (truthy v)):=by intro _;rfl):PT X e (tB t):=by
 intro pins s σ H Q I hw;refine isTrue_plain (C5 (h pins s σ H _ I hw) λv s1 ⟨x,H1,I1,r1,q1⟩=>?_) (he _)
 obtain⟨d,rfl,q⟩:=q1;cases r1;exact nZ ⟨H1,I1,q⟩
variable{tA tB':TT}{rest:List Expr}
def MI(t u:TT):TT:=λσ H Q=>t σ H λc H1=>if c=true then u σ H1 Q else Q false H1
def Uh(t u:TT):TT:=λσ H Q=>t σ H λc H1=>if c=true then Q true H1 else u σ H1 Q
def MG(t:TT):TT:=λσ H Q=>t σ H λc H1=>Q (!c) H1
theorem pw_and1(ha:PT X a tA):PW X (.BoolOp .And [a] pos) tA:=by
 intro wh pins s σ H Q I h;refine isTrue_and (C5 (ha pins s σ H Q I h) λc s1 e=>?_)
 cases c with
 |true=>exact isTrue_and_nil e
 |false=>exact e
theorem pw_or1(ha:PT X a tA):PW X (.BoolOp .Or [a] pos) tA:=by
 intro wh pins s σ H Q I h;refine isTrue_or (C5 (ha pins s σ H Q I h) λc s1 e=>?_)
 cases c with
 |false=>exact isTrue_or_nil e
 |true=>exact e
theorem pw_and(ha:PT X a tA)(hb:PW X (.BoolOp .And (b::rest) pos) tB'):PW X (.BoolOp .And (a::b::rest) pos) (MI tA tB'):=by
 intro wh pins s σ H Q I h;refine isTrue_and (C5 (ha pins s σ H _ I h) λc s1 ⟨H1,I1,q1⟩=>?_)
 cases c with
 |true=>exact hb wh pins s1 σ H1 Q I1 q1
 |false=>exact⟨H1,I1,q1⟩
theorem pw_or(ha:PT X a tA)(hb:PW X (.BoolOp .Or (b::rest) pos) tB'):PW X (.BoolOp .Or (a::b::rest) pos) (Uh tA tB'):=by
 intro wh pins s σ H Q I h;refine isTrue_or (C5 (ha pins s σ H _ I h) λc s1 ⟨H1,I1,q1⟩=>?_)
 cases c with
 |true=>exact⟨H1,I1,q1⟩
 |false=>exact hb wh pins s1 σ H1 Q I1 q1
theorem UY(ha:PT X a tA):PT X (.UnaryOp .Not a pos) (MG tA):=by intro pins s σ H Q I h;exact isTrue_not (ha pins s σ H (λc H1=>Q (!c) H1) I h)
def Qh(ta tb:TE):TE:=λσ H Q=>ta σ H λx H1=>∃c,x=.bl c/\if c=true then tb σ H1 Q else Q (.bl false) H1
def Ug(ta tb:TE):TE:=λσ H Q=>ta σ H λx H1=>∃c,x=.bl c/\if c=true then Q (.bl true) H1 else tb σ H1 Q
def Qc(ta:TE):TE:=λσ H Q=>ta σ H λx H1=>∃c,x=.bl c/\Q (.bl (!c)) H1
theorem Vj{op}(h:PE X a t):PE X (.BoolOp op [a] pos) t:=λpins s σ H Q I hw=>BoolOp_one (h pins s σ H Q I hw)
theorem Vo(ha:PE X a ta)(hb:PE X (.BoolOp .And (b::rest) pos) tb):PE X (.BoolOp .And (a::b::rest) pos) (Qh ta tb):=by
 intro pins s σ H Q I h;refine BoolOp_and (C5 (ha pins s σ H _ I h) λv s1 ⟨x,H1,I1,r1,q1⟩=>?_)
 obtain⟨c,rfl,q1⟩:=q1;cases r1;refine nZ ?_;cases c with
 |true=>exact hb pins s1 σ H1 Q I1 q1
 |false=>exact⟨.bl false,H1,I1,rfl,q1⟩
theorem Xf(ha:PE X a ta)(hb:PE X (.BoolOp .Or (b::rest) pos) tb):PE X (.BoolOp .Or (a::b::rest) pos) (Ug ta tb):=by
 intro pins s σ H Q I h;refine BoolOp_or (C5 (ha pins s σ H _ I h) λv s1 ⟨x,H1,I1,r1,q1⟩=>?_)
 obtain⟨c,rfl,q1⟩:=q1;cases r1;refine nZ ?_;cases c with
 |false=>exact hb pins s1 σ H1 Q I1 q1
 |true=>exact⟨.bl true,H1,I1,rfl,q1⟩
theorem Vk(ha:PE X a ta):PE X (.UnaryOp .Not a pos) (Qc ta):=by
 intro pins s σ H Q I h;refine UnaryOp_ (C5 (ha pins s σ H _ I h) λv s1 ⟨x,H1,I1,r1,q1⟩=>?_)
 obtain⟨c,rfl,q1⟩:=q1;cases r1;exact not_of (nZ ⟨.bl (!c),H1,I1,rfl,q1⟩)
def XB(t:TT)(ta tb:TE):TE:=λσ H Q=>t σ H λc H1=>if c=true then ta σ H1 Q else tb σ H1 Q
theorem NR{c:Expr}(hc:PT X c tA)(ha:PE X a ta)(hb:PE X b tb):PE X (.IfExp c a b pos) (XB tA ta tb):=by
 intro pins s σ H Q I h;refine wpAny_IfExp (C5 (hc pins s σ H _ I h) λd s1 ⟨H1,I1,q1⟩=>?_)
 cases d with
 |true=>exact ha pins s1 σ H1 Q I1 q1
 |false=>exact hb pins s1 σ H1 Q I1 q1
end
end
section
variable{u:e8}{K:i9}{X:Cx}{E:e8->i5->Prop}{pins:List (Addr×Obj)}{σ:St}{H H':Hp}{a body:List Stmt}{tc:TT}{e tg:Expr}{es:List Expr}{to ti te:TE}{P:A6}{w:t7}
def G6(K:i9)(H:Hp)(a:Addr)(xs:List V):Prop :=
 Rd H a (.lst xs) \/
  ∃(o:Obj) (its:Array e8) (n:Nat),K.lookup a=some o/\o.cls=.type "list"/\o.dict=none/\o.data=.seq its n/\its.size<=B9/\Vals xs its.toList
def N4(K:i9)(H:Hp)(a:Addr)(xs:List V):Prop :=
 Rd H a (.tup xs) \/
  ∃(o:Obj) (its:Array e8) (n:Nat),K.lookup a=some o/\o.cls=.type "tuple"/\o.data=.seq its n/\its.size<=B9/\Vals xs its.toList
def Ym:e8->Option V
 | .none=>some .non
 | .bool b=>some (.bl b)
 | .int i _=>some (.int i)
 | .str x _=>some (.str x)
 | .bytes b _=>some (.byt b)
 | .float b _=>some (.flt b)
 | .ref a=>some (.ref a)
 | .type n=>some (.ty n)
 |_=>none
theorem RelV.abs{x:V}(r:RelV x u):Ym u=some x:=by
 cases x with
 |non=>cases r;rfl
 |bl _=>cases r;rfl
 |int _=>obtain⟨t,rfl⟩:=r;rfl
 |str _=>obtain⟨t,rfl⟩:=r;rfl
 |byt _=>obtain⟨t,rfl⟩:=r;rfl
 |flt _=>obtain⟨t,rfl⟩:=r;rfl
 |ref _=>cases r;rfl
 |ty _=>cases r;rfl
theorem RelV.inj{x y:V}{u:e8}(r:RelV x u)(q:RelV y u):x=y:=ar (r.abs.symm.trans q.abs)
theorem Vals.inj:∀{xs ys:List V} {us:List e8},Vals xs us->Vals ys us->xs=ys
 |_,_,_,.nil,.nil=>rfl
 |_,_,_,.cons r t,.cons r' t'=>by rw[r.inj r',Vals.inj t t']
section
variable{X:Cx}{pins:List (Addr×Obj)}{σ:St}{H:Hp}{s:i5}{a:Addr}{xs ys:List V}
theorem G6.of(h:H a=some (.lst xs)):G6 K H a xs:=.inl (.inl h)
theorem N4.of(h:H a=some (.tup xs)):N4 K H a xs:=.inl (.inl h)
theorem Inv.list(I:Inv X pins σ H s)(h:G6 X.K H a xs):∃its:List e8,Vals xs its/\PlainL s.heap a its.toArray/\xs.length<=B9:=by
 rcases h with h|⟨o,its,n,hk,hc,hd,hs,hz,r⟩
 . obtain⟨z,its,n,r,e⟩:=h.ok I.B6;exact⟨its,r,⟨_,n,e,rfl,rfl,rfl⟩,z⟩
 . refine⟨its.toList,r,⟨o,n,I.dZ a o hk,hc,hd,by simpa using hs⟩,?_⟩
   have e:=r.length;simp only[CC]at e;lia
theorem Inv.tuple(I:Inv X pins σ H s)(h:N4 X.K H a xs):∃its:List e8,Vals xs its/\eu s.heap a its.toArray/\xs.length<=B9:=by
 rcases h with h|⟨o,its,n,hk,hc,hs,hz,r⟩
 . obtain⟨z,its,r,p⟩:=h.ok I.B6;exact⟨its,r,p,z⟩
 . refine⟨its.toList,r,⟨o,I.dZ a o hk,hc,n,by simpa using hs⟩,?_⟩
   have e:=r.length;simp only[CC]at e;lia
theorem Inv.Ao(I:Inv X pins σ H s)(h:G6 X.K H a xs)(h':G6 X.K H a ys):xs=ys:=by
 obtain⟨its,r,⟨o,n,e,_,_,d⟩,_⟩:=I.list h;obtain⟨its',r',⟨o',n',e',_,_,d'⟩,_⟩:=I.list h';rw[e]at e';cases e';rw[d]at d';injection d' with d1 _
 have:its=its':=by simpa using V7 Array.toList d1
 subst this;exact r.inj r'
theorem Inv.xT(I:Inv X pins σ H s)(h:N4 X.K H a xs)(h':N4 X.K H a ys):xs=ys:=by
 obtain⟨its,r,⟨o,e,_,n,d⟩,_⟩:=I.tuple h;obtain⟨its',r',⟨o',e',_,n',d'⟩,_⟩:=I.tuple h';rw[e]at e';cases e';rw[d]at d';injection d' with d1 _
 have:its=its':=by simpa using V7 Array.toList d1
 subst this;exact r.inj r'
end
abbrev Cx.mP(X:Cx)(E:e8->i5->Prop):Cx:={X with xe:=E}
abbrev Cx.uH(X:Cx):Cx:=X.mP λ_ _=>False
theorem Cx.Ok.mP{X:Cx}(ok:X.Ok)(E:e8->i5->Prop):(X.mP E).Ok :=
 ⟨ok.mod,ok.kind,ok.glob,ok.blt,ok.above,ok.inj,ok.has,ok.FH,ok.hd,ok.frames,ok.Im,ok.Wl,ok.bs,ok.pL,ok.tK,ok.xA,ok.iB,ok.yA⟩
theorem Cx.Ok.je(ok:(X.mP E).Ok):X.Ok :=
 ⟨ok.mod,ok.kind,ok.glob,ok.blt,ok.above,ok.inj,ok.has,ok.FH,ok.hd,ok.frames,ok.Im,ok.Wl,ok.bs,ok.pL,ok.tK,ok.xA,ok.iB,ok.yA⟩
section
variable{X:Cx}{pins:List (Addr×Obj)}{σ:St}{H:Hp}{s:i5}{E:e8->i5->Prop}
theorem Inv.mP(I:Inv X pins σ H s)(E:e8->i5->Prop):Inv (X.mP E) pins σ H s:=⟨I.ok.mP E,I.os,I.bare,I.base,I.loc,I.cell,I.free,I.gA,I.pin,I.B6,I.len⟩
theorem Inv.je(I:Inv (X.mP E) pins σ H s):Inv X pins σ H s:=⟨I.ok.je,I.os,I.bare,I.base,I.loc,I.cell,I.free,I.gA,I.pin,I.B6,I.len⟩
theorem SP.je{D:Ends}{f:Flow}{s':i5}(h:SP (X.mP E) pins D f s'):SP X pins D f s':=by
 cases f with
 |next=>obtain⟨σ',H',I,q⟩:=h;exact⟨σ',H',I.je,q⟩
 |brk=>obtain⟨σ',H',I,q⟩:=h;exact⟨σ',H',I.je,q⟩
 |cont=>obtain⟨σ',H',I,q⟩:=h;exact⟨σ',H',I.je,q⟩
 |ret u=>obtain⟨v,σ',H',I,r,q⟩:=h;exact⟨v,σ',H',I.je,r,q⟩
theorem mL.uH{st:List Stmt}{t:TS}(h:mL X.uH st t):mL X st t:=λpins s σ H D I hw =>
 ck (h pins s σ H D (I.mP _) hw) (λ_ _ q=>q.je) λ_ _ z=>br z
end
section
variable{X:Cx}{st:Stmt}{rest:List Stmt}{t u:TS}{e:Expr}{te:TE}{pos:Pos}
def Qd:TS:=λD σ H=>D.nx σ H
def Ue(t u:TS):TS:=λD σ H=>t {D with nx:=u D} σ H
theorem Sf:mL X [] Qd:=λ_ _ σ H _ I h=>wc ⟨σ,H,I,h⟩
theorem NB(h1:PS X st t)(h2:mL X rest u):mL X (st::rest) (Ue t u):=by
 intro pins s σ H D I h;refine wpAny_execs_cons (C5 (h1 pins s σ H {D with nx:=u D} I h) λf s1 q=>?_)
 cases f with
 |next =>
  obtain⟨σ',H',I',q⟩:=q;exact h2 pins s1 σ' H' D I' q
 |ret v=>exact q
 |brk=>exact q
 |cont=>exact q
theorem Se(h1:PS X st t):mL X [st] t:=by
 intro pins s σ H D I h;refine wpAny_execs_cons (C5 (h1 pins s σ H D I h) λf s1 q=>?_)
 cases f with
 |next=>exact wc q
 |ret v=>exact q
 |brk=>exact q
 |cont=>exact q
theorem Inv.quiet{s:i5}(I:Inv X pins σ H s):interactive X.env=false:=by simp[interactive,I.ok.kind]
def zf(te:TE):TS:=λD σ H=>te σ H λ_ H1=>D.nx σ H1
theorem xa(he:PE X e te)(hs:aJ e none pos.line X.env=pure false:=by rfl):PS X (.Expr e pos) (zf te):=by intro pins s σ H D I h;exact wpAny_Expr_any (C5 (he pins s σ H _ I h) λv s1 ⟨x,H1,I1,r1,q1⟩=>⟨σ,H1,I1,q1⟩) I.quiet hs
def MF(te:TE):TS:=λD σ H=>te σ H D.rt
theorem IS(he:PE X e te):PS X (.Return (some e) pos) (MF te):=by intro pins s σ H D I h;exact wpAny_Return_some (C5 (he pins s σ H _ I h) λv s1 ⟨x,H1,I1,r1,q1⟩=>⟨x,σ,H1,I1,r1,q1⟩)
def Qa:TS:=λD _ H=>D.rt .non H
theorem Sg:PS X (.Return none pos) Qa:=λ_ _ σ H _ I h=>wpAny_Return_none ⟨.non,σ,H,I,rfl,h⟩
def Uj(c:TT)(t u:TS):TS:=λD σ H=>c σ H λb H1=>if b=true then t D σ H1 else u D σ H1
theorem Xd{c:Expr}{b:List Stmt}(hc:PT X c tc)(ha:mL X a t)(hb:mL X b u):PS X (.If c a b pos) (Uj tc t u):=by
 intro pins s σ H D I h;refine wpAny_If (C5 (hc pins s σ H _ I h) λd s1 ⟨H1,I1,q1⟩=>?_)
 cases d with
 |true=>exact ha pins s1 σ H1 D I1 q1
 |false=>exact hb pins s1 σ H1 D I1 q1
def Ii:TS:=λ_ _ _=>False
theorem ND:PS X st Ii:=λ_ _ _ _ _ _ h=>h.elim
end
abbrev TG:=V->St->Hp->(St->Hp->Prop)->Prop
abbrev pM:=List V->St->Hp->(St->Hp->Prop)->Prop
def PG(X:Cx)(target:Expr)(t:TG):Prop :=
 ∀(pins:List (Addr×Obj)) (s:i5) (σ:St) (H:Hp) (v:V) (u:e8) (Q:St->Hp->Prop),Inv X pins σ H s->RelV v u->t v σ H Q ->
  wpAny (model X.prog X.w) X.A (assign target X.env u) (λ_ s'=>∃σ' H',Inv X pins σ' H' s'/\Q σ' H') X.xe s
def KW(X:Cx)(ts:List Expr)(t:pM):Prop :=
 ∀(pins:List (Addr×Obj)) (s:i5) (σ:St) (H:Hp) (vs:List V) (us:List e8) (Q:St->Hp->Prop),Inv X pins σ H s->Vals vs us->t vs σ H Q ->
  wpAny (model X.prog X.w) X.A (assignInOrder ((jw ts X.env).map (·.2)) us) (λ_ s'=>∃σ' H',Inv X pins σ' H' s'/\Q σ' H') X.xe s
abbrev Pz:=V->V->V->Hp->(Hp->Prop)->Prop
def Wz(X:Cx)(t:Pz):Prop :=
 ∀(pins:List (Addr×Obj)) (s:i5) (σ:St) (H:Hp) (o i v:V) (ov iv u:e8) (Q:Hp->Prop),Inv X pins σ H s->RelV o ov->RelV i iv->RelV v u->t o i v H Q ->
  wpAny (model X.prog X.w) X.A (setItem ov iv u) (λ_ s'=>∃H',Inv X pins σ H' s'/\Q H') X.xe s
section
variable{X:Cx}{pos:Pos}
def ay(i:Nat):TG:=λv σ H Q=>Q (σ.set i (some v)) H
theorem Ep{i:Nat}{x:Str}(hN:X.N.Nodup)(hi:X.N[i]? = some x)(hx:Loc X.env.scope x)(hf:X.fn x=true\/X.env.scope.names.lookup x=some .local:=by first|exact .inl rfl|exact .inr rfl|assumption):PG X (.Name x pos) (ay i):=by intro pins s σ H v u Q I r h;exact wpAny_assign_Name (zG I hN hi hx r (λs' I'=>⟨_,H,I',h⟩) hf)
def Hq:pM:=λvs σ H Q=>vs=[]/\Q σ H
def rX(t:TG)(u:pM):pM:=λvs σ H Q=>∃v r,vs=v::r/\t v σ H λσ' H'=>u r σ' H' Q
theorem Sn:KW X [] Hq:=by intro pins s σ H vs us Q I r h;obtain⟨e,h⟩:=h;subst e;cases r;exact assignInOrder_nil ⟨σ,H,I,h⟩
theorem NO{t:TG}{u:pM}(h1:PG X e t)(h2:KW X es u)
  (hs:(jw (e::es) X.env).map (·.2)=assign e X.env::(jw es X.env).map (·.2):=by rfl):KW X (e::es) (rX t u):=by
 intro pins s σ H vs us Q I r h;obtain⟨v,vr,e1,h⟩:=h;subst e1;cases r with
 |cons r rr =>
  rw[hs];refine assignInOrder_cons (C5 (h1 pins s σ H _ _ _ I r h) λ_ s1 ⟨σ1,H1,I1,q1⟩=>?_)
  exact h2 pins s1 σ1 H1 _ _ Q I1 rr q1
def AJ(K:i9)(n:Nat)(t:pM):TG:=λv σ H Q=>∃a xs,v=.ref a/\N4 K H a xs/\xs.length=n/\t xs σ H Q
theorem Vf{k:Nat}{t:pM}{n:Nat}(hc:X.calm=true)(h:KW X es t)
  (hn:(jw es X.env).length=n:=by rfl) (hst:(jw es X.env).findIdx? (·.1)=none:=by rfl):PG X (.Tuple es k pos) (AJ X.K n t):=by
 intro pins s σ H v u Q I r hw;obtain⟨a,xs,e1,hq,hl,hw⟩:=hw;subst e1;cases r;obtain⟨its,rv,ht,hz⟩:=I.tuple hq;refine assign_Tuple_tuple (I.ok.hd hc) ht (by simp[hn,<-hl,rv.length]) hst λh' hx=>?_
 have I1:Inv X pins σ H {s with heap:=h'}:=I.kept (t':=s.toks) λb o e=>hx b o (U7 (A7 e)) e
 exact h pins _ σ H xs _ Q I1 (by simpa using rv) hw
def OL(to ti:TE)(t:Pz):TG:=λv σ H Q=>to σ H λo H1=>ti σ H1 λi H2=>t o i v H2 λH3=>Q σ H3
theorem IZ{o i:Expr}{t:Pz}(ho:PE X o to)(hi:PE X i ti)(hs:Wz X t)
  (ha:∀v,assign (.Subscript o i pos) X.env v=(do
   let ov <- holding [v] (eval o X.env)
   let iv <- holding [v,ov] (eval i X.env)
   cc pos
   holding [v,ov,iv] (setItem ov iv v)
   release [v,ov,iv] []):=by intro _;rfl):PG X (.Subscript o i pos) (OL to ti t):=by
 intro pins s σ H v u Q I r h;rw[ha];refine wpAny_bind (jz (C5 (ho pins s σ H _ I h) λov s1 ⟨x,H1,I1,r1,q1⟩=>?_))
 refine wpAny_bind (jz (C5 (hi pins s1 σ H1 _ I1 q1) λiv s2 ⟨y,H2,I2,r2,q2⟩=>?_))
 refine wpAny_bind (BY (wpAny_bind (jz (C5 (hs pins s2 σ H2 x y v ov iv u _ I2 r1 r2 r q2) λ_ s3 ⟨H3,I3,q3⟩=>?_))))
 exact wpAny_release ⟨σ,H3,I3,q3⟩
def kT(te:TE)(g:TG):TS:=λD σ H=>te σ H λx H1=>g x σ H1 D.nx
theorem IT{g:TG}(he:PE X e te)(hg:PG X tg g)(hs:BX [tg] e pos.line X.env=pure false:=by rfl)(hw:BW [tg] e X.env=pure none:=by rfl)
  (h1:(jw [tg] X.env).map (·.2)=[assign tg X.env]:=by rfl):PS X (.Assign [tg] e pos) (kT te g):=by
 intro pins s σ H D I h;refine wpAny_Assign_stores (C5 (he pins s σ H _ I h) λv s1 ⟨x,H1,I1,r1,q1⟩=>?_) hs hw
 rw[h1];exact C5 (hg pins s1 σ H1 x v _ I1 r1 q1) λ_ s2 q=>q
theorem IQ{i:Nat}{x:Str}{pos':Pos}(hN:X.N.Nodup)(hi:X.N[i]? = some x)(hx:Loc X.env.scope x)(he:PE X e te)(hs:aJ e (some (.Name x pos')) pos.line X.env=pure false:=by rfl)(hf:X.fn x=true\/X.env.scope.names.lookup x=some .local:=by first|exact .inl rfl|exact .inr rfl|assumption):
  PS X (.Assign [.Name x pos'] e pos) (kT te (ay i)):=by
 intro pins s σ H D I h;refine wpAny_Assign_Name (C5 (he pins s σ H _ I h) λv s1 ⟨y,H1,I1,r1,q1⟩=>?_) hs
 exact zG I1 hN hi hx r1 (λs2 I2=>⟨_,H1,I2,q1⟩) hf
end
section
variable{X:Cx}{pos:Pos}
def Ih(c:TT)(tb:TS):TS:=λD σ H=>∃W:Nat->St->Hp->Prop,(∃m,W m σ H)/\∀m σ H,W m σ H ->
 c σ H λb H1=>if b=true then ∃N:St->Hp->Prop,(∀σ' H',N σ' H'->∃m',m'<m/\W m' σ' H')/\tb {D with nx:=N,ct:=N,bk:=D.nx} σ H1 else D.nx σ H1
theorem NC{c:Expr}{tb:TS}(hp:qN (model X.prog X.w) X.A X.env X.xe)(hc:PT X c tc)(hb:mL X body tb):PS X (.While c body [] pos) (Ih tc tb):=by
 intro pins s σ H D I h;obtain⟨W,⟨m0,w0⟩,turn⟩:=h;refine wpAny_While (codeAny_whileLoop (λn s'=>∃σ' H',Inv X pins σ' H' s'/\W n σ' H') ?_ m0 ⟨σ,H,I,w0⟩)
 rintro n s1 ⟨σ1,H1,I1,w1⟩;refine lO hp (C5 (hc pins s1 σ1 H1 _ I1 (turn n σ1 H1 w1)) λb s2 ⟨H2,I2,q2⟩=>?_)
 cases b with
 |true =>
  obtain⟨N,hN,q2⟩:=q2;rw[c7 rfl];refine lO hp (C5 (hb pins s2 σ1 H2 _ I2 q2) λf s3 q3=>?_)
  cases f with
  |next =>
   obtain⟨σ3,H3,I3,n3⟩:=q3;obtain⟨m',hm,w3⟩:=hN σ3 H3 n3;exact⟨m',hm,σ3,H3,I3,w3⟩
  |cont =>
   obtain⟨σ3,H3,I3,n3⟩:=q3;obtain⟨m',hm,w3⟩:=hN σ3 H3 n3;exact⟨m',hm,σ3,H3,I3,w3⟩
  |brk=>exact q3
  |ret v=>exact q3
 |false =>
  rw[e9 Q7];exact wc ⟨σ1,H2,I2,q2⟩
end
structure It where
 go:Nat->Hp->Prop
 PM:Nat->Hp->V->Hp->Prop
 stop:Nat->Hp->Prop
def jT(X:Cx)(pins:List (Addr×Obj))(H:Hp)(b:Addr):Prop :=
 H b=none/\b≠X.env.locals/\b∉X.fs/\(b∈X.ex\/X.P9.heap.objs.size<=b)/\(∀x c,X.env.cells.lookup x=some c->c≠b)/\∀p∈X.pn++pins,p.1≠b
theorem Inv.xx{s:i5}{b:Addr}(I:Inv X pins σ H s)(hb:s.heap.objs.size<=b)(hn:H' b=none):jT X pins H' b:=by
 refine⟨hn,nT (O1 I.lt hb),I.Of hb,.inr (P5 I.sz hb),λx c e z=>?_,λp hp z=>?_⟩
 . obtain⟨v,q⟩:=I.cell x c e;exact absurd (O1 q.lt (by rw[z];exact hb)) (aD _)
 . exact absurd (O1 (A7 (I.pin p hp).1) (by rw[z];exact hb)) (aD _)
structure Turn(P:A6)(w:t7)(K:i9)(tg:Expr)(J:It)(fp:List Addr)(it:Addr)(tn:Nat->Heap->Prop):Prop where
 mem:it∈fp
 obj:∀i h,tn i h->∀b∈fp,∃o,h.get? b=some o/\∀v,o.data≠.cell v
 keep:∀i h h',tn i h->(∀b∈fp,∀o,h.get? b=some o->h'.get? b=some o)->tn i h'
 item:∀(X:Cx),X.prog=P->X.w=w->X.K=K->X.calm=true->∀(i:Nat) (pins:List (Addr×Obj)) (s:i5) (σ:St) (H:Hp) (E:e8->i5->Prop),Inv X pins σ H s->(∀b∈fp,jT X pins H b)->tn i s.heap->J.go i H ->
  wpAny (model P w) X.A (jq (.ref it)) (λr s1=>∃u,r=some u /\
   wpAny (model P w) X.A (vZ tg (.ref it) u) (λ_ s2=>∃x H',Inv X pins σ H' s2/\RelV x u/\J.PM i H x H'/\tn (i+1) s2.heap/\∀b∈fp,H' b=none) E s1) E s
 done:∀(X:Cx),X.prog=P->X.w=w->X.K=K->X.calm=true->∀(i:Nat) (pins:List (Addr×Obj)) (s:i5) (σ:St) (H:Hp) (E:e8->i5->Prop),Inv X pins σ H s->(∀b∈fp,jT X pins H b)->tn i s.heap->J.stop i H ->
  wpAny (model P w) X.A (jq (.ref it)) (λr s1=>r=none/\Inv X pins σ H s1) E s
 self:∀(A:A5) (i:Nat) (s:i5) (Q:e8->i5->Prop) (E:e8->i5->Prop),tn i s.heap->Q (.ref it) s->wpAny (model P w) A (pyIter (.ref it)) Q E s
abbrev TI:=St->Hp->(It->Hp->Prop)->Prop
def XQ(X:Cx)(pins:List (Addr×Obj))(σ:St)(tg:Expr)(R:It->Hp->Prop)(itv:e8)(s2:i5):Prop :=
 ∃(it:Addr) (fp:List Addr) (tn:Nat->Heap->Prop) (J:It) (H':Hp),itv=.ref it/\Inv X pins σ H' s2/\Turn X.prog X.w X.K tg J fp it tn/\tn 0 s2.heap/\(∀b∈fp,jT X pins H' b)/\R J H'
def PI(X:Cx)(tg iter:Expr)(wi:TI):Prop :=
 ∀(pins:List (Addr×Obj)) (s:i5) (σ:St) (H:Hp) (R:It->Hp->Prop),Inv X pins σ H s->wi σ H R ->
  wpAny (model X.prog X.w) X.A (eval iter X.env) (λv s1=>wpAny (model X.prog X.w) X.A (pyIter v) (XQ X pins σ tg R) X.xe s1) X.xe s
theorem Hl{M:Model}{A:A5}{s:i5}{it:Addr}{o:Obj}{n:String}{vs:Array e8}{Q:Unit->i5->Prop}(ho:s.heap.get? it=some o)(hc:o.cls=.type n)(hd:o.data=.fields vs)
  (hn:["enumerate","zip","dict_itemiterator","dict_reverseitemiterator","odict_iterator","itertools.zip_longest","itertools.pairwise"].contains n=false) (hQ:Q () s):wpAny M A (vZ tg (.ref it) u) Q E s:=by
 delta vZ;cases tg<;>first
  |exact o5 hQ
  |(cases u<;>first
    |exact o5 hQ
    | (refine wpAny_bind (wpAny_load ho ?_)
       rw[hc,hd];show wpAny M A (if (["enumerate","zip","dict_itemiterator","dict_reverseitemiterator","odict_iterator","itertools.zip_longest","itertools.pairwise"].contains n&&vs[0]?==some (jo _))=true then _ else _) Q E s
       rw[e9 (by intro h;rw[hn,vS]at h;cases h)]
       exact o5 hQ))
def XU(K:i9)(a:Addr):It :=
 ⟨λi H=>∃xs x,G6 K H a xs/\xs[i]? = some x,λi H x H'=>H'=H/\∀xs,G6 K H a xs->xs[i]? = some x,λi H=>∃xs,G6 K H a xs/\xs.length<=i⟩
def XT(K:i9)(a:Addr):It :=
 ⟨λi H=>∃xs x,N4 K H a xs/\xs[i]? = some x,λi H x H'=>H'=H/\∀xs,N4 K H a xs->xs[i]? = some x,λi H=>∃xs,N4 K H a xs/\xs.length<=i⟩
def Rc(lo:Int)(n:Nat):It:=⟨λi _=>i<n,λi H x H'=>H'=H/\x=.int (lo+i),λi _=>n<=i⟩
theorem HZ(a it:Addr):Turn P w K tg (XU K a) [it] it (λi h=>h.IsListIter it a i) where
 mem:=by simp
 obj:=λi h st b hb=>by
  have e:b=it:=by simpa using hb
  subst e;obtain⟨o,e,c,d⟩:=st;exact⟨o,e,λv z=>by rw[d]at z;cases z⟩
 keep:=λi h h' st k=>st.at λo e=>k it (by simp) o e
 item:=by
  intro X hP hw hK hc i pins s σ H E I hf st hg;subst hP hw hK;obtain⟨xs,x,hq,hx⟩:=hg;obtain⟨its,rv,p,hz⟩:=I.list hq;obtain⟨u,hu,ru⟩:=rv.get hx;obtain⟨f0,f1,f2,f3,f4,f5⟩:=hf it (by simp)
  refine wpAny_pyNext_list_item st p.isList (x:=u) (by simpa using hu) λh' st' sb=>?_
  have I1:Inv X pins σ H {s with heap:=h'}:=I.turned (t':=s.toks) (λb o hb e=>(sb.2 b hb).trans e) f0 f1 f3 f4 f5
  obtain⟨o,e,c,d⟩:=id st';exact⟨u,rfl,Hl (s:={s with heap:=h'}) e c d (by decide) ⟨x,H,I1,ru,⟨rfl,λys hy=>by rw[I.Ao hy hq];exact hx⟩,st',λb hb=>(hf b hb).1⟩⟩
 done:=by
  intro X hP hw hK hc i pins s σ H E I hf st hg;subst hP hw hK;obtain⟨xs,hq,hx⟩:=hg;obtain⟨its,rv,p,hz⟩:=I.list hq;obtain⟨f0,f1,f2,f3,f4,f5⟩:=hf it (by simp)
  have hl:=rv.length;exact wpAny_pyNext_list_end (I.ok.hd hc) st p.isList (by simp;lia) λh' eb=>⟨rfl,I.turned (t':=s.toks) (λb o hb e=>eb b o hb e) f0 f1 f3 f4 f5⟩
 self:=λ_ _ _ _ _ st h=>wpAny_pyIter_listiter st h
theorem FR(a it:Addr):Turn P w K tg (XT K a) [it] it (λi h=>h.IsTupleIter it a i) where
 mem:=by simp
 obj:=λi h st b hb=>by
  have e:b=it:=by simpa using hb
  subst e;obtain⟨o,e,c,d⟩:=st;exact⟨o,e,λv z=>by rw[d]at z;cases z⟩
 keep:=λi h h' st k=>st.at λo e=>k it (by simp) o e
 item:=by
  intro X hP hw hK hc i pins s σ H E I hf st hg;subst hP hw hK;obtain⟨xs,x,hq,hx⟩:=hg;obtain⟨its,rv,p,hz⟩:=I.tuple hq;obtain⟨u,hu,ru⟩:=rv.get hx;obtain⟨f0,f1,f2,f3,f4,f5⟩:=hf it (by simp)
  refine wpAny_pyNext_tuple_item st (show s.heap.IsTuple a its.toArray from p) (x:=u) (by simpa using hu) λh' st' sb=>?_
  have I1:Inv X pins σ H {s with heap:=h'}:=I.turned (t':=s.toks) (λb o hb e=>(sb.2 b hb).trans e) f0 f1 f3 f4 f5
  obtain⟨o,e,c,d⟩:=id st';exact⟨u,rfl,Hl (s:={s with heap:=h'}) e c d (by decide) ⟨x,H,I1,ru,⟨rfl,λys hy=>by rw[I.xT hy hq];exact hx⟩,st',λb hb=>(hf b hb).1⟩⟩
 done:=by
  intro X hP hw hK hc i pins s σ H E I hf st hg;subst hP hw hK;obtain⟨xs,hq,hx⟩:=hg;obtain⟨its,rv,p,hz⟩:=I.tuple hq;obtain⟨f0,f1,f2,f3,f4,f5⟩:=hf it (by simp)
  have hl:=rv.length;exact wpAny_pyNext_tuple_end (I.ok.hd hc) st (show s.heap.IsTuple a its.toArray from p) (by simp;lia) λh' eb=>⟨rfl,I.turned (t':=s.toks) (λb o hb e=>eb b o hb e) f0 f1 f3 f4 f5⟩
 self:=λ_ _ _ _ _ st h=>wpAny_pyIter_tupleiter st h
theorem FT(it:Addr)(lo:Int)(n:Nat):Turn P w K tg (Rc lo n) [it] it (λi h=>IsRangeIter h it (lo+(i:Nat)*1) ((n:Int)-(i:Nat)) 1) where
 mem:=by simp
 obj:=λi h st b hb=>by
  have e:b=it:=by simpa using hb
  subst e;exact⟨_,st,λv z=>by have z':Data.fields _=Data.cell v:=z;cases z'⟩
 keep:=λi h h' st k=>k it (by simp) _ st
 item:=by
  intro X hP hw hK hc i pins s σ H E I hf st hg;subst hP hw hK;obtain⟨f0,f1,f2,f3,f4,f5⟩:=hf it (by simp)
  have W:=Walks.range (prog:=X.prog) (w:=X.w) (I.ok.hd hc) it lo 1 n;refine W.item i s _ _ hg st λv h' tk hv st' kk=>?_
  obtain⟨t,rfl⟩:=hv;have I1:Inv X pins σ H {s with heap:=h',toks:=tk}:=I.turned (λb o hb e=>kk b o (by simpa using hb) e) f0 f1 f3 f4 f5
  refine⟨_,rfl,Hl (s:={s with heap:=h',toks:=tk}) (n:="range_iterator") st' rfl rfl (by decide) ⟨.int (lo+i),H,I1,⟨t,?_⟩,⟨rfl,rfl⟩,st',λb hb=>(hf b hb).1⟩⟩
  rw[cq]
 done:=by
  intro X hP hw hK hc i pins s σ H E I hf st hg;subst hP hw hK;obtain⟨f0,f1,f2,f3,f4,f5⟩:=hf it (by simp)
  exact wpAny_pyNext_range_end (I.ok.hd hc) st (by have:n<=i:=hg;lia) λh' eb=>⟨rfl,I.turned (t':=s.toks) (λb o hb e=>eb b o hb e) f0 f1 f3 f4 f5⟩
 self:=λ_ _ _ _ _ st h=>wpAny_pyIter_rangeiter st h
end
section
variable{pins pl:List (Addr×Obj)}{σ:St}{H:Hp}{t u v:Tok}{a iter:Expr}{fp:List Addr}{h:Heap}
section
variable{X:Cx}{tg:Expr}
theorem MZ{s:i5}{R:It->Hp->Prop}{E:e8->i5->Prop}{lo hi:Int}{t u v:Tok}{tk:Nat}(I:Inv X pins σ H s)(h1 : -(2 ^ 62)<=lo)(h2:lo<2 ^ 62)(h3 : -(2 ^ 62)<=hi)(h4:hi<2 ^ 62)
  (q:R (Rc lo (hi-lo).toNat) H):wpAny (model X.prog X.w) X.A (pyIter (.ref s.heap.objs.size)) (XQ X pins σ tg R) E {s with heap:=s.heap.push {cls:=.type "range",data:=.fields #[.int lo t,.int hi u,.int 1 v]},toks:=tk}:=by
 refine wpAny_pyIter_range (IsRange.new ..) (small_one h1 h2 h3 h4) ?_;have I1:Inv X pins σ H {s with heap:=s.heap.push {cls:=.type "range",data:=.fields #[.int lo t,.int hi u,.int 1 v]},toks:=tk}:=I.kept λb o e=>E7 _ e
 refine⟨(s.heap.push {cls:=.type "range",data:=.fields #[.int lo t,.int hi u,.int 1 v]}).objs.size,[(s.heap.push {cls:=.type "range",data:=.fields #[.int lo t,.int hi u,.int 1 v]}).objs.size],_,_,H,rfl,
  I1.kept (t':=tk) λb o e=>E7 _ e,FT _ lo (hi-lo).toNat,?_,λb hb=>?_,q⟩
 . have e1:lo+((0:Nat):Int)*1=lo:=by simp
   have e2:(((hi-lo).toNat:Nat):Int)-((0:Nat):Int)=Builtin.Range.rangeSize lo hi 1:=by rw[rangeSize_one];split<;>lia
   show IsRangeIter _ _ (lo+((0:Nat):Int)*1) ((((hi-lo).toNat:Nat):Int)-((0:Nat):Int)) 1
   rw[e1,e2];exact U8 _ rfl
 . have e:b=(s.heap.push {cls:=.type "range",data:=.fields #[.int lo t,.int hi u,.int 1 v]}).objs.size:=by simpa using hb
   subst e;exact I1.xx (o3 _) (I1.B6.fresh (o3 _))
def Qw(ta:TA):TI:=λσ H R=>ta σ H λvs H1=>∃j:Int,vs=[.int j]/\-(2 ^ 62)<=j/\j<2 ^ 62/\R (Rc 0 j.toNat) H1
theorem IY{ta:TA}{p pos:Pos}(hg:Gl X "range")(hm:X.mg "range" = none)(ha:PA X [a] ta)(hs:j6 [a] X.env=[(false,eval a X.env)]:=by rfl):PI X tg (.Call (.Name "range" p) [a] [] pos) (Qw ta):=by
 intro pins s σ H R I h;refine Call_ (ny I hg hm boot_range (wM (C5 (ha pos pins s σ H _ I h) λus s1 ⟨vs,H1,I1,r1,q1⟩=>?_) hs rfl))
 obtain⟨j,e,q1,q2,q⟩:=q1;subst e;cases r1 with
 |cons r rr =>
  cases rr;obtain⟨t,rfl⟩:=r;exact call_range_1 (MZ I1 (by lia) (by lia) q1 q2 (by simpa using q))
def MH(wi:TI)(g:TG)(tb:TS):TS:=λD σ H=>wi σ H λJ H1=>∃W:Nat->Nat->St->Hp->Prop,(∃m,W 0 m σ H1)/\∀i m σ H,W i m σ H ->
 (J.stop i H/\D.nx σ H)\/(J.go i H/\∃N:St->Hp->Prop,(∀σ' H',N σ' H'->∃m',m'<m/\W (i+1) m' σ' H')/\∀x H',J.PM i H x H'->g x σ H' λσ2 H2=>tb {D with nx:=N,ct:=N,bk:=D.nx} σ2 H2)
def qe(fp:List Addr)(h:Heap):List (Addr×Obj):=fp.filterMap λb=>(h.get? b).map λo=>(b,o)
theorem kn{b:Addr}{o:Obj}(hb:b∈fp)(e:h.get? b=some o):(b,o)∈qe fp h:=List.mem_filterMap.mpr ⟨b,hb,by rw[e];rfl⟩
theorem Ju{p:Addr×Obj}(hp:p∈qe fp h):p.1∈fp/\h.get? p.1=some p.2:=by
 obtain⟨b,hb,e⟩:=List.mem_filterMap.mp hp;cases q:h.get? b with
 |none=>rw[q]at e;cases e
 |some o =>
  rw[q]at e;have e':(b,o)=p:=ar e;subst e';exact⟨hb,q⟩
theorem Inv.pinned{s:i5}(I:Inv X pins σ H s)(hf:∀b∈fp,jT X pins H b)(ho:∀b∈fp,∃o,s.heap.get? b=some o/\∀v,o.data≠.cell v):Inv X (pins++qe fp s.heap) σ H s :=
 I.iu λp hp=>(List.mem_append.mp hp).elim (λz=>I.pin p (L6 _ z)) λz=>by obtain⟨hb,e⟩:=Ju z;obtain⟨f0,f1,f2,_⟩:=hf p.1 hb;obtain⟨o,e',d⟩:=ho p.1 hb;rw[e]at e';cases e';exact⟨e,f0,f1,f2,d⟩
theorem Inv.sY{s:i5}(I:Inv X (pins++pl) σ H s):Inv X pins σ H s:=I.iu λp hp=>I.pin p (L6 _ (iV _ hp))
theorem Va{body:List Stmt}{wi:TI}{g:TG}{tb:TS}{pos:Pos}(hp:qN (model X.prog X.w) X.A X.env X.xe)(hc:X.calm=true)(hi:PI X tg iter wi)(hg:PG X tg g)(hb:mL X body tb)
  (hs:∀x,fg iter X.env x=pure x:=by intro _;rfl):PS X (.For tg iter body [] pos) (MH wi g tb):=by
 intro pins s σ H D I h;refine wpAny_For (C5 (hi pins s σ H _ I h) λv s1 h1=>C5 h1 λitv s2 h2=>?_) hs
 obtain⟨it,fp,tn,J,H2,e,I2,T,st2,f2,W,⟨m0,w0⟩,turn⟩:=h2;subst e;have stat:∀{H':Hp},(∀b∈fp,H' b=none)->∀b∈fp,jT X pins H' b:=λhn b hb=>⟨hn b hb,(f2 b hb).2⟩
 refine codeAny_forLoop_any (λn s'=>∃i σ' H',Inv X pins σ' H' s'/\tn i s'.heap/\(∀b∈fp,H' b=none)/\W i n σ' H') ?_ m0 ⟨0,σ,H2,I2,st2,λb hb=>(f2 b hb).1,w0⟩
 rintro n s3 ⟨i,σ3,H3,I3,st3,fr3,w3⟩;rcases turn i n σ3 H3 w3 with ⟨stop,qn⟩|⟨go,N,hN,step⟩
 . refine lO hp (C5 (T.done X rfl rfl rfl hc i pins s3 σ3 H3 X.xe I3 (stat fr3) st3 stop) λr s4 ⟨hr,I4⟩=>?_)
   subst hr;exact wc ⟨σ3,H3,I4,qn⟩
 . refine lO hp (C5 (T.item X rfl rfl rfl hc i pins s3 σ3 H3 X.xe I3 (stat fr3) st3 go) λr s4 ⟨u,hr,h4⟩=>?_)
   subst hr;refine lO hp (C5 h4 λ_ s5 ⟨x,H5,I5,r5,y5,st5,fr5⟩=>?_)
   have I5':=I5.pinned (stat fr5) (T.obj _ _ st5);refine lO hp (C5 (hg _ s5 σ3 H5 x u _ I5' r5 (step x H5 y5)) λ_ s6 ⟨σ6,H6,I6,q6⟩=>?_)
   refine lO hp (C5 (hb _ s6 σ6 H6 _ I6 q6) λf s7 q7=>?_)
   have again:∀{σ7:St} {H7:Hp},Inv X (pins++qe fp s5.heap) σ7 H7 s7->N σ7 H7->∃m,m<n/\∃i σ' H',Inv X pins σ' H' s7/\tn i s7.heap/\(∀b∈fp,H' b=none)/\W i m σ' H':=λ{σ7 H7} I7 n7=>by
    obtain⟨m',hm,w7⟩:=hN σ7 H7 n7;refine⟨m',hm,i+1,σ7,H7,I7.sY,T.keep _ _ _ st5 λb hb o e=>(I7.pin (b,o) (L6 _ (L6 _ (kn hb e)))).1,λb hb=>?_,w7⟩
    obtain⟨o,e,d⟩:=T.obj _ _ st5 b hb;exact(I7.pin (b,o) (L6 _ (L6 _ (kn hb e)))).2.1
   cases f with
   |next=>obtain⟨σ7,H7,I7,n7⟩:=q7;exact again I7 n7
   |cont=>obtain⟨σ7,H7,I7,n7⟩:=q7;exact again I7 n7
   |brk=>obtain⟨σ7,H7,I7,q7⟩:=q7;exact⟨σ7,H7,I7.sY,q7⟩
   |ret v=>obtain⟨x7,σ7,H7,I7,r7,q7⟩:=q7;exact⟨x7,σ7,H7,I7.sY,r7,q7⟩
end
end
section
variable{pins:List (Addr×Obj)}{σ:St}{H:Hp}{f:e8->e8->Sem e8}{op:CmpOp}{r r':R2}{g:Int->Int->Int}{us:List e8}
abbrev R2:=V->V->Hp->VK->Prop
def O9(X:Cx)(f:e8->e8->Sem e8)(r:R2):Prop :=
 ∀(pins:List (Addr×Obj)) (s:i5) (σ:St) (H:Hp) (x y:V) (v u:e8) (Q:VK),Inv X pins σ H s->RelV x v->RelV y u->r x y H Q ->
  wpAny (model X.prog X.w) X.A (f v u) (EP X pins σ Q) X.xe s
def QX(X:Cx)(f:e8->Sem e8)(r:V->Hp->VK->Prop):Prop :=
 ∀(pins:List (Addr×Obj)) (s:i5) (σ:St) (H:Hp) (x:V) (v:e8) (Q:VK),Inv X pins σ H s->RelV x v->r x H Q ->
  wpAny (model X.prog X.w) X.A (f v) (EP X pins σ Q) X.xe s
def V0(X:Cx)(f:e8)(r:List V->Hp->VK->Prop):Prop :=
 ∀(pins:List (Addr×Obj)) (s:i5) (σ:St) (H:Hp) (xs:List V) (us:List e8) (Q:VK),Inv X pins σ H s->Vals xs us->r xs H Q ->
  wpAny (model X.prog X.w) X.A (call f us) (EP X pins σ Q) X.xe s
def pV(r:R2)(ta tb:TE):TE:=λσ H Q=>ta σ H λx H1=>tb σ H1 λy H2=>r x y H2 Q
def Xz(r:V->Hp->VK->Prop)(ta:TE):TE:=λσ H Q=>ta σ H λx H1=>r x H1 Q
def rI(C:Int->Int->Prop)(g:Int->Int->V):R2:=λx y H Q=>∃i j,x=.int i/\y=.int j/\C i j/\Q (g i j) H
def mr(g:Int->Int->V):R2:=λx y H Q=>∃i j,x=.int i/\y=.int j/\Q (g i j) H
def rU(g:Int->V):V->Hp->VK->Prop:=λx H Q=>∃i,x=.int i/\Q (g i) H
section
variable{X:Cx}{a b c:Expr}{ta tb tc:TE}{pos:Pos}
theorem Py(ha:PE X a ta)(hb:PE X b tb){s:i5}{R:V->V->Hp->Prop}(I:Inv X pins σ H s)
  (h:ta σ H λx H1=>tb σ H1 λy H2=>R x y H2) {Q:e8->i5->Prop}
  (hf:∀v u s2 x y H2,Inv X pins σ H2 s2->RelV x v->RelV y u->R x y H2->wpAny (model X.prog X.w) X.A (f v u) Q X.xe s2) :
  wpAny (model X.prog X.w) X.A (eval a X.env) (λv s₁=>wpAny (model X.prog X.w) X.A (eval b X.env) (λu s₂=>wpAny (model X.prog X.w) X.A (f v u) Q X.xe s₂) X.xe s₁) X.xe s:=by
 refine C5 (ha pins s σ H _ I h) λv s1 ⟨x,H1,I1,r1,q1⟩=>?_
 refine C5 (hb pins s1 σ H1 _ I1 q1) λu s2 ⟨y,H2,I2,r2,q2⟩=>?_
 exact hf v u s2 x y H2 I2 r1 r2 q2
theorem Xg{op:Operator}(ho:O9 X (ak op) r)(ha:PE X a ta)(hb:PE X b tb):PE X (.BinOp a op b pos) (pV r ta tb):=by intro pins s σ H Q I h;exact wpAny_BinOp (Py ha hb I h λv u s2 x y H2 I2 rx ry q=>ho pins s2 σ H2 x y v u Q I2 rx ry q)
theorem Xe{op:UnaryOp}{r:V->Hp->VK->Prop}(ho:QX X (unaryOp op) r)(ha:PE X a ta):PE X (.UnaryOp op a pos) (Xz r ta):=by intro pins s σ H Q I h;exact UnaryOp_ (C5 (ha pins s σ H _ I h) λv s1 ⟨x,H1,I1,r1,q1⟩=>ho pins s1 σ H1 x v Q I1 r1 q1)
theorem Jf{f:e8->e8->Sem e8}{C:Int->Int->Prop}
  (rule:∀(i j:Int) (t u:Tok) (s:i5) (Q:e8->i5->Prop) (E:e8->i5->Prop),C i j->Q (.int (g i j) s.toks) {s with toks:=s.toks+1}->wpAny (model X.prog X.w) X.A (f (.int i t) (.int j u)) Q E s) :
  O9 X f (rI C λi j=>.int (g i j)):=by intro pins s σ H x y v u Q I rx ry h;obtain⟨i,j,rfl,rfl,hc,q⟩:=h;obtain⟨t,rfl⟩:=rx;obtain⟨t',rfl⟩:=ry;exact rule i j t t' s _ _ hc ⟨.int (g i j),H,I.tok _,⟨_,rfl⟩,q⟩
theorem Vz{f:e8->e8->Sem e8}
  (rule:∀(i j:Int) (t u:Tok) (s:i5) (Q:e8->i5->Prop) (E:e8->i5->Prop),Q (.int (g i j) s.toks) {s with toks:=s.toks+1}->wpAny (model X.prog X.w) X.A (f (.int i t) (.int j u)) Q E s) :
  O9 X f (mr λi j=>.int (g i j)):=by intro pins s σ H x y v u Q I rx ry h;obtain⟨i,j,rfl,rfl,q⟩:=h;obtain⟨t,rfl⟩:=rx;obtain⟨t',rfl⟩:=ry;exact rule i j t t' s _ _ ⟨.int (g i j),H,I.tok _,⟨_,rfl⟩,q⟩
theorem NY{g:Int->Int->Bool}
  (rule:∀(i j:Int) (t u:Tok) (s:i5) (Q:e8->i5->Prop) (E:e8->i5->Prop),Q (.bool (g i j)) s->wpAny (model X.prog X.w) X.A (f (.int i t) (.int j u)) Q E s) :
  O9 X f (mr λi j=>.bl (g i j)):=by intro pins s σ H x y v u Q I rx ry h;obtain⟨i,j,rfl,rfl,q⟩:=h;obtain⟨t,rfl⟩:=rx;obtain⟨t',rfl⟩:=ry;exact rule i j t t' s _ _ ⟨.bl (g i j),H,I,rfl,q⟩
def xN(i j:Int):Prop:=0<=j/\j<=1000000/\i.natAbs<2 ^ 64
theorem FQ(k:Nat):(0:Int)<=2 ^ k:=by rw[two_pow_cast];exact Int.natCast_nonneg _
theorem Vy:O9 X (ak .Add) (mr λi j=>.int (i+j)):=Vz λ_ _ _ _ _ _ _ q=>add_int q
theorem Vp:O9 X (ak .Sub) (mr λi j=>.int (i-j)):=Vz λ_ _ _ _ _ _ _ q=>sub_int q
theorem Sz:O9 X (ak .Mod) (rI (λ_ j=>j≠0) λi j=>.int (i.fmod j)):=Jf λ_ _ _ _ _ _ _ hc q=>mod_int' hc q
theorem Vr:O9 X (ak .Pow) (rI xN λi j=>.int (i ^ j.toNat)):=Jf λ_ _ _ _ _ _ _ hc q=>pow_int_small hc.1 hc.2.1 hc.2.2 q
theorem Vq:O9 X (ak .RShift) (rI (λ_ j=>0<=j) λi j=>.int (i/2 ^ j.toNat)):=Jf λi j _ _ _ _ _ hc q =>
 rshift_int hc (by rw[dM i (FQ _)];exact q)
theorem Yp{f:e8->Sem e8}{g:Int->Int}
  (rule:∀(i:Int) (t:Tok) (s:i5) (Q:e8->i5->Prop) (E:e8->i5->Prop),Q (.int (g i) s.toks) {s with toks:=s.toks+1}->wpAny (model X.prog X.w) X.A (f (.int i t)) Q E s) :
  QX X f (rU λi=>.int (g i)):=by intro pins s σ H x v Q I rx h;obtain⟨i,rfl,q⟩:=h;obtain⟨t,rfl⟩:=rx;exact rule i t s _ _ ⟨.int (g i),H,I.tok _,⟨_,rfl⟩,q⟩
theorem TQ:QX X (unaryOp .USub) (rU λi=>.int (-i)):=Yp λ_ _ _ _ _ q=>neg_int q
end
def Ut:V->V->Bool
 | .non,.non=>true | .non,.int _=>true | .int _,.non=>true | .non,.bl _=>true | .bl _,.non=>true | .non,.str _=>true | .str _,.non=>true
 | .int _,.int _=>true | .bl _,.bl _=>true | .str _,.str _=>true | .byt _,.byt _=>true
 | .int _,.str _=>true | .str _,.int _=>true | .bl _,.str _=>true | .str _,.bl _=>true
 |_,_=>false
def XF:R2:=λx y H Q=>Ut x y=true/\Q (.bl (decide (x=y))) H
def XE:R2:=λx y H Q=>Ut x y=true/\Q (.bl (!decide (x=y))) H
theorem FE{i j:Int}:decide (V.int i=V.int j)=(i==j):=by rw[jF];simp
theorem Kq{i j:Bool}:decide (V.bl i=V.bl j)=(i==j):=by rw[jF];simp
theorem FA{i j:Str}:decide (V.str i=V.str j)=(i==j):=by rw[jF];simp
theorem FF{i j:Array UInt8}:decide (V.byt i=V.byt j)=(i.toList==j.toList):=by rw[jF];cases i;cases j;simp
section
variable{X:Cx}{a b c:Expr}{ta tb tc:TE}{pos:Pos}
theorem D0{s:i5}{Q:VK}{k k':Bool}(I:Inv X pins σ H s)(q:Q (.bl k) H)(e:k=k'):EP X pins σ Q (.bool k') s:=by subst e;exact⟨.bl k,H,I,rfl,q⟩
theorem Xm:O9 X (S8 .Eq) XF:=by
 intro pins s σ H x y v u Q I rx ry h;obtain⟨hs,q⟩:=h;cases x with
 |non =>
  cases rx;cases y with
  |non=>cases ry;exact PySem.EqNone.eq_none_none (D0 I q (by simp))
  |bl j=>cases ry;exact PySem.EqNone.eq_none_bool (D0 I q (by simp))
  |int j=>obtain⟨t',rfl⟩:=ry;exact PySem.EqNone.eq_none_int (D0 I q (by simp))
  |str j=>obtain⟨t',rfl⟩:=ry;exact PySem.EqNone.eq_none_str (D0 I q (by simp))
  |_=>exact absurd (show false=true from hs) Q7
 |bl i =>
  cases rx;cases y with
  |non=>cases ry;exact PySem.EqNone.eq_bool_none (D0 I q (by simp))
  |bl j=>cases ry;exact eq_bool (D0 I q Kq)
  |str j=>obtain⟨t',rfl⟩:=ry;exact PySem.EqMixed.eq_bool_str (D0 I q (by simp))
  |_=>exact absurd (show false=true from hs) Q7
 |int i =>
  obtain⟨t,rfl⟩:=rx;cases y with
  |non=>cases ry;exact PySem.EqNone.eq_int_none (D0 I q (by simp))
  |int j=>obtain⟨t',rfl⟩:=ry;exact eq_int (D0 I q FE)
  |str j=>obtain⟨t',rfl⟩:=ry;exact PySem.EqMixed.eq_int_str (D0 I q (by simp))
  |_=>exact absurd (show false=true from hs) Q7
 |str i =>
  obtain⟨t,rfl⟩:=rx;cases y with
  |non=>cases ry;exact PySem.EqNone.eq_str_none (D0 I q (by simp))
  |bl j=>cases ry;exact PySem.EqMixed.eq_str_bool (D0 I q (by simp))
  |int j=>obtain⟨t',rfl⟩:=ry;exact PySem.EqMixed.eq_str_int (D0 I q (by simp))
  |str j=>obtain⟨t',rfl⟩:=ry;exact eq_str (D0 I q FA)
  |_=>exact absurd (show false=true from hs) Q7
 |byt i =>
  obtain⟨t,rfl⟩:=rx;cases y with
  |byt j=>obtain⟨t',rfl⟩:=ry;exact PySem.W.eq_bytes (D0 I q FF)
  |_=>exact absurd (show false=true from hs) Q7
 |_=>cases y<;>exact absurd (show false=true from hs) Q7
theorem Xk:O9 X (S8 .NotEq) XE:=by
 intro pins s σ H x y v u Q I rx ry h;obtain⟨hs,q⟩:=h;cases x with
 |non =>
  cases rx;cases y with
  |non=>cases ry;exact PySem.EqNone.ne_none_none (D0 I q (by simp))
  |bl j=>cases ry;exact PySem.EqNone.ne_none_bool (D0 I q (by simp))
  |int j=>obtain⟨t',rfl⟩:=ry;exact PySem.EqNone.ne_none_int (D0 I q (by simp))
  |str j=>obtain⟨t',rfl⟩:=ry;exact PySem.EqNone.ne_none_str (D0 I q (by simp))
  |_=>exact absurd (show false=true from hs) Q7
 |bl i =>
  cases rx;cases y with
  |non=>cases ry;exact PySem.EqNone.ne_bool_none (D0 I q (by simp))
  |bl j=>cases ry;exact ne_bool (D0 I q (V7 not Kq))
  |str j=>obtain⟨t',rfl⟩:=ry;exact PySem.EqMixed.ne_bool_str (D0 I q (by simp))
  |_=>exact absurd (show false=true from hs) Q7
 |int i =>
  obtain⟨t,rfl⟩:=rx;cases y with
  |non=>cases ry;exact PySem.EqNone.ne_int_none (D0 I q (by simp))
  |int j=>obtain⟨t',rfl⟩:=ry;exact ne_int (D0 I q (V7 not FE))
  |str j=>obtain⟨t',rfl⟩:=ry;exact PySem.EqMixed.ne_int_str (D0 I q (by simp))
  |_=>exact absurd (show false=true from hs) Q7
 |str i =>
  obtain⟨t,rfl⟩:=rx;cases y with
  |non=>cases ry;exact PySem.EqNone.ne_str_none (D0 I q (by simp))
  |bl j=>cases ry;exact PySem.EqMixed.ne_str_bool (D0 I q (by simp))
  |int j=>obtain⟨t',rfl⟩:=ry;exact PySem.EqMixed.ne_str_int (D0 I q (by simp))
  |str j=>obtain⟨t',rfl⟩:=ry;exact ne_str (D0 I q (V7 not FA))
  |_=>exact absurd (show false=true from hs) Q7
 |byt i =>
  obtain⟨t,rfl⟩:=rx;cases y with
  |byt j=>obtain⟨t',rfl⟩:=ry;exact PySem.W.ne_bytes (D0 I q (V7 not FF))
  |_=>exact absurd (show false=true from hs) Q7
 |_=>cases y<;>exact absurd (show false=true from hs) Q7
theorem Gx:O9 X (S8 .Lt) (mr λi j=>.bl (decide (i<j))):=NY λ_ _ _ _ _ _ _ q=>lt_int q
theorem Qp:O9 X (S8 .Gt) (mr λi j=>.bl (decide (j<i))):=NY λ_ _ _ _ _ _ _ q=>gt_int q
theorem Xl:O9 X (S8 .GtE) (mr λi j=>.bl (decide (j<=i))):=NY λ_ _ _ _ _ _ _ q=>ge_int q
theorem Vw:O9 X (S8 .Is) (λx y H Q=>y=.non/\Q (.bl (decide (x=.non))) H):=by
 intro pins s σ H x y v u Q I rx ry h;obtain⟨rfl,q⟩:=h;cases ry;refine is_none_gen (D0 I q ?_);cases x<;>first
  |(cases rx;rfl)
  |(obtain⟨t,rfl⟩:=rx;rfl)
theorem Sv:O9 X (S8 .IsNot) (λx y H Q=>y=.non/\Q (.bl (!decide (x=.non))) H):=by
 intro pins s σ H x y v u Q I rx ry h;obtain⟨rfl,q⟩:=h;cases ry;refine isnot_none_gen (D0 I q ?_);cases x<;>first
  |(cases rx;rfl)
  |(obtain⟨t,rfl⟩:=rx;rfl)
theorem O9.or(h:O9 X f r)(h':O9 X f r'):O9 X f (λx y H Q=>r x y H Q\/r' x y H Q):=by
 intro pins s σ H x y v u Q I rx ry q;rcases q with q|q
 . exact h pins s σ H x y v u Q I rx ry q
 . exact h' pins s σ H x y v u Q I rx ry q
theorem cH(b:Expr)(h:op≠.In:=by decide)(h2:op≠.NotIn:=by decide):nV op b=false:=by
 have e1:(op==CmpOp.In)=false:=by cases op<;>first|rfl|exact absurd rfl h
 have e2:(op==CmpOp.NotIn)=false:=by cases op<;>first|rfl|exact absurd rfl h2
 cases b<;>simp[nV,e1,e2]
theorem Ss(ho:O9 X (S8 op) r)(ha:PE X a ta)(hb:PE X b tb)(hm:nV op b=false):PE X (.Compare a [op] [b] pos) (pV r ta tb):=by intro pins s σ H Q I h;exact wpAny_Compare1 (Py ha hb I h λv u s2 x y H2 I2 rx ry q=>ho pins s2 σ H2 x y v u Q I2 rx ry q) hm
def PZ(t:TE):TT:=λσ H Q=>t σ H λx H'=>∃k,x=.bl k/\Q k H'
theorem RY(ho:O9 X (S8 op) r)(ha:PE X a ta)(hb:PE X b tb)(hm:nV op b=false):PT X (.Compare a [op] [b] pos) (PZ (pV r ta tb)):=by
 intro pins s σ H Q I h;refine wpAny_isTrue_Compare1 (C5 (ha pins s σ H _ I h) λv s1 ⟨x,H1,I1,r1,q1⟩=>C5 (hb pins s1 σ H1 _ I1 q1) λu s2 ⟨y,H2,I2,r2,q2⟩ =>
  C5 (ho pins s2 σ H2 x y v u _ I2 r1 r2 q2) λc s3 ⟨z,H3,I3,r3,k,e,q3⟩=>?_) hm
 subst e;cases r3;exact nZ ⟨H3,I3,q3⟩
theorem nu:(B9:Nat)<2 ^ 63:=by rw[gN];decide
theorem Gy:O9 X (ak .Add) (λx y H Q=>∃i j,x=.str i/\y=.str j/\i.length+j.length<=B9/\Q (.str (i++j)) H):=by intro pins s σ H x y v u Q I rx ry h;obtain⟨i,j,rfl,rfl,hz,q⟩:=h;obtain⟨t,rfl⟩:=rx;obtain⟨t',rfl⟩:=ry;exact add_str (λt' tk=>⟨.str (i++j),H,I.tok _,⟨_,rfl⟩,q⟩) hz
theorem vals1{x:V}(r:Vals [x] us):∃u,us=[u]/\RelV x u:=by
 cases r with
 |cons r1 r2=>cases r2;exact⟨_,rfl,r1⟩
theorem vals2{x y:V}(r:Vals [x,y] us):∃u w',us=[u,w']/\RelV x u/\RelV y w':=by
 cases r with
 |cons r1 r2 =>
  cases r2 with
  |cons r3 r4=>cases r4;exact⟨_,_,rfl,r1,r3⟩
theorem Pw:V0 X (.builtin "abs") (λxs H Q=>∃i,xs=[.int i]/\Q (.int (if i<0 then -i else i)) H):=by intro pins s σ H xs us Q I r h;obtain⟨i,rfl,q⟩:=h;obtain⟨u,rfl,t,rfl⟩:=vals1 r;exact call_abs_int λu tk=>⟨.int (if i<0 then -i else i),H,I.tok _,⟨_,rfl⟩,q⟩
theorem KL:V0 X (.type "int") (λxs H Q=>(∃i,xs=[.int i]/\Q (.int i) H)\/∃k,xs=[.bl k]/\Q (.int (if k then 1 else 0)) H):=by
 intro pins s σ H xs us Q I r h;rcases h with ⟨i,rfl,q⟩|⟨k,rfl,q⟩
 . obtain⟨u,rfl,t,rfl⟩:=vals1 r;exact call_int_int ⟨.int i,H,I,⟨_,rfl⟩,q⟩
 . obtain⟨u,rfl,r1⟩:=vals1 r;cases r1;exact call_int_bool ⟨.int (if k then 1 else 0),H,I.tok _,⟨_,rfl⟩,q⟩
end
end
section
variable{h:Heap}{dx C g:Addr}{mA:Str->Option e8}{Q:e8->i5->Prop}{pl:Sem Bool}{v y:V}{o:Option e8}{u:e8}{K:i9}{f m:Str}
structure ue(h:Heap)(x dx C:Addr)(mA:Str->Option e8):Prop where
 obj:h.get? x=some (jG C dx)
 ns:h.Ns1 dx mA
 ne:dx≠x
theorem JF(n:h.Ns1 dx mA):∃od,h.get? dx=some od/\∀name,vR name od=some (mA name):=by
 obtain⟨o,es,ep,ho,hd,hk,_,hm⟩:=n;refine⟨o,ho,λname=>?_⟩
 have e:=hm name;unfold nsFind findBy at e;rw[<-Array.find?_toList]at e;unfold vR;rw[hd];dsimp only;split
 . rename_i y q;rw[q]at e;exact V7 some e
 . rename_i q;rw[q]at e;have a:es.toList.any (·.refKey)=false:=by rw[List.any_eq_false];intro y hy;obtain⟨z,t,hkey⟩:=hk y (Array.mem_toList_iff.mp hy);simp[DictEntry.refKey,hkey]
   have a':¬es.toList.any (·.refKey)=true:=by rw[a];exact Q7
   rw[e9 a'];exact V7 some e
theorem ue.look{x:Addr}(I:ue h x dx C mA):∃od,vQ h x (jG C dx) C (some od)/\∀name,vR name od=some (mA name) :=
 let ⟨od,ho,hl⟩:=JF I.ns
 ⟨od,⟨I.obj,rfl,rfl,ho⟩,hl⟩
section
variable{prog:A6}{w:t7}{A:A5}{E:e8->i5->Prop}{s:i5}{K:i9}{x dx C f:Addr}{mA:Str->Option e8}{name:Str}{v:e8}
theorem get_map{expr:Bool}(X:K.In s.heap)(I:ue s.heap x dx C mA)(hg:qW K C name=true)(hh:qZ K C=true)
  (ha:aq K (.ref C) name=some none) (hv:mA name=some v) (hv':Ln v=true) (h:Q v {s with toks:=s.toks+1}) :
  wpAny (model prog w) A (getAttr (.ref x) name expr) Q E s:=by obtain⟨od,J,hl⟩:=I.look;exact PySem.W.get_value X J (CB hg).1 (PySem.W.findObj_own hh ha rfl (by rw[hl,hv])) hv' h
theorem OK{Q:e8×List e8->i5->Prop}(X:K.In s.heap)(I:ue s.heap x dx C mA)(hg:qW K C name=true)
  (hf:aq K (.ref C) name=some (some (.ref f))) (ht:vK K (.ref f)=true) (hv:mA name=none) (h:Q (.ref f,[.ref x]) s) :
  wpAny (model prog w) A (gM (.ref x) name pl) Q E s:=by obtain⟨od,J,hl⟩:=I.look;exact PySem.W.method_fn X J (CB hg).1 (CB hg).2 hf (beq_iff_eq.mp ht) (by show(vR name od).map (·.isSome)=some false;rw[hl,hv];rfl) h
theorem RA{ns:List Str}{Q:Unit->i5->Prop}(X:K.In s.heap)(I:ue s.heap x dx C mA)
  (hs:aq K (.ref C) "__setattr__" = some (some (.builtin "object.__setattr__"))) (hp:Cv K C=true) (ht:Cj K C name=some none) (hh:qZ K C=true)
  (hw:BO mA ns) (hsz:ns.length<=B9)
  (h:∀h',ue h' x dx C (λy=>if y=name then some v else mA y)->qR dx s.heap h'->Q () {s with heap:=h',toks:=s.toks+2}) :
  wpAny (model prog w) A (setAttr (.ref x) name v) Q E s:=by
 obtain⟨od,J,hl⟩:=I.look;refine PySem.W.set_plain X J hs (PySem.W.osa_open (s:={s with toks:=s.toks+1}) (r:=none) X J hp ht λb=>?_)
 obtain⟨cd,hc,hd'⟩:=wj hh;have hx:s.heap.get? x=some ⟨.ref C,some dx,.plain,#[]⟩:=I.obj;refine wpAny_bind (o5 (wpAny_bind (wpAny_bind (wpAny_loadPart hx (wpAny_bind (PySem.W.Looks.here (s:={s with toks:=s.toks+1}) (PySem.W.looks_clsIn X hc) ?_))))))
 rw[hd'];refine o5 (a:=some dx) (wpAny_bind (o5 (wpAny_bind ?_)));refine wpAny_nsSet1 (s:={s with toks:=s.toks+1}) I.ns λh' hn2 hs2=>?_
 obtain⟨oD,esD,epD,hoD,hdD,hcD⟩:=hn2.count (PySem.Within.cons name v hw);refine wpAny_bind (wpAny_lookBehind hoD (by rw[hdD];exact pastItsLine_dict (P5 hcD (by rw[O0];lia))) ?_)
 exact o5 (h _ ⟨(hs2.2 _ (gJ I.ne)).trans I.obj,hn2,I.ne⟩ hs2)
theorem Ov{R:Result->i5->Prop}{vs:List e8}{kw:List (Str×e8)}(X:K.In s.heap)(hm:Ci K C=true)
  (hi:aq K (.ref C) "__init__" = some (some (.ref f))) (hf:PySem.W.typeIn K (.ref f)=some (.type "function"))
  (h:codeAny (model prog w) (A.under (.builtin "type.__call__" ⟨.ref C::vs,kw⟩)) (.call (.ref f) ⟨.ref (s.heap.objs.size+1)::vs,kw⟩) (PySem.W.InitBack (s.heap.objs.size+1) R)
   {s with heap:=(s.heap.push kB).push (jG C s.heap.objs.size)}) :
  codeAny (model prog w) A (.call (.ref C) ⟨vs,kw⟩) R s:=by obtain⟨hh,g,d,t,os⟩:=s;exact PySem.W.make_core (PySem.W.makes_of X hm) (CG X hi) (λself=>PySem.W.bind_fn X self hf) (.inl rfl) h
end
def aM(f:Str)(v:V):List (Str×V)->List (Str×V)
 | []=>[(f,v)]
 |(g,x)::r=>if g=f then(g,v)::r else(g,x)::aM f v r
theorem sG(f g:Str)(v:V):∀fs:List (Str×V),(aM f v fs).lookup g=if g=f then some v else fs.lookup g
 | []=>by
  show cU g [(f,v)]=_
  by_cases h:g=f
  . have hb:(g==f)=true:=beq_iff_eq.mpr h;simp only[cU,hb,c7 h]
  . have hb:(g==f)=false:=beq_eq_false_iff_ne.mpr h;simp only[cU,hb,e9 h]
 |(k,x)::r=>by
  have ih:=sG f g v r;rw[show aM f v ((k,x)::r)=(if k=f then(k,v)::r else(k,x)::aM f v r)from rfl]
  by_cases hk:k=f
  . rw[c7 hk];by_cases h:g=k
    . have hb:(g==k)=true:=beq_iff_eq.mpr h;simp only[cU,hb,c7 (h.trans hk)]
    . have hb:(g==k)=false:=beq_eq_false_iff_ne.mpr h;simp only[cU,hb,e9 (λe:g=f=>h (e.trans hk.symm))]
  . rw[e9 hk];by_cases h:g=k
    . have hb:(g==k)=true:=beq_iff_eq.mpr h;simp only[cU,hb,e9 (λe:g=f=>hk (h.symm.trans e))]
    . have hb:(g==k)=false:=beq_eq_false_iff_ne.mpr h;simp only[cU,hb];exact ih
theorem qt(f:Str)(v:V):∀fs:List (Str×V),f∈(aM f v fs).map (·.1)/\∀g,g∈fs.map (·.1)->g∈(aM f v fs).map (·.1)
 | []=>⟨by simp[aM],λg h=>by simp at h⟩
 |(k,x)::r=>by
  obtain⟨i1,i2⟩:=qt f v r;rw[show aM f v ((k,x)::r)=(if k=f then(k,v)::r else(k,x)::aM f v r)from rfl]
  by_cases hk:k=f
  . rw[c7 hk];subst hk;exact⟨by simp,λg h=>by simpa using h⟩
  . rw[e9 hk];refine⟨?_,λg h=>?_⟩
    . rw[o6];exact C4 _ i1
    . rw[o6]at h ⊢;rcases List.mem_cons.mp h with e|e
      . exact List.mem_cons.mpr (.inl e)
      . exact C4 _ (i2 g e)
theorem sH(f:Str)(v:V):∀fs:List (Str×V),(aM f v fs).length<=fs.length+1
 | []=>by simp[aM]
 |(k,x)::r=>by
  have ih:=sH f v r;rw[show aM f v ((k,x)::r)=(if k=f then(k,v)::r else(k,x)::aM f v r)from rfl]
  by_cases hk:k=f
  . rw[c7 hk,O0,O0];lia
  . rw[e9 hk,O0,O0];lia
theorem mV.some_of(r:mV (some v) o):∃u,o=some u/\RelV v u:=by
 cases o with
 |none=>exact(show False from r).elim
 |some u=>exact⟨u,rfl,r⟩
theorem mV.none_of(r:mV none o):o=none:=by
 cases o with
 |none=>rfl
 |some u=>exact(show False from r).elim
theorem JZ(r:RelV v u):Ln u=true:=by
 cases v with
 |non=>cases(show u=eJ from r);rfl
 |bl b=>cases(show u=lG b from r);rfl
 |int i=>obtain⟨t,e⟩:=(show ∃t,u=BB i t from r);cases e;rfl
 |str x=>obtain⟨t,e⟩:=(show ∃t,u=BA x t from r);cases e;rfl
 |byt b=>obtain⟨t,e⟩:=(show ∃t,u=Value.bytes b t from r);cases e;rfl
 |flt b=>obtain⟨t,e⟩:=(show ∃t,u=Value.float b t from r);cases e;rfl
 |ref a=>cases(show u=aA a from r);rfl
 |ty n=>cases(show u=nN n from r);rfl
section
variable{P:A6}{w:t7}{H H':Hp}{h h':Heap}{a C dx:Addr}{fs fs':List (Str×V)}
theorem xr(B6:cu P w H h)(e:H a=some (.ins C dx fs)):∃mA,ue h a dx C mA/\(∀f,mV (fs.lookup f) (mA f))/\BO mA (fs.map (·.1))/\fs.length<=1000/\H dx=some (.own a):=by
 obtain⟨d,z,ne,ob,mA,n,r,q⟩:=(show X6 P w H h a (.ins C dx fs)from B6 a _ e)
 exact⟨mA,⟨ob,n,ne⟩,r,q,z,d⟩
end
structure rB(K:i9)(C:Addr):Prop where
 pg:qW K C Str.empty=true
 hd:qZ K C=true
 po:Cv K C=true
 sa:aq K (.ref C) "__setattr__" = some (some (.builtin "object.__setattr__"))
theorem rB.get(c:rB K C)(f:Str):qW K C f=true:=c.pg
def V6(K:i9)(C:Addr)(f:Str):Prop:=aq K (.ref C) f=some none
theorem V6.WR(n:V6 K C f):Cj K C f=some none:=by
 delta Cj;rw[show aq K (.ref C) f=some none from n]
 rfl
structure YH(K:i9)(C:Addr)(f:Str)(v:V)(u:e8):Prop where
 at_:aq K (.ref C) f=some (some u)
 rel:RelV v u
 get:Cu K u "__get__" = some none
 cp:PySem.W.copiedNames.contains f=false
structure Meth(K:i9)(C:Addr)(m:Str)(f:Addr):Prop where
 at_:aq K (.ref C) m=some (some (.ref f))
 fn:vK K (.ref f)=true
 kp:iR K (.ref f)=true
section
variable{X:Cx}{pins:List (Addr×Obj)}{σ:St}{H:Hp}{s:i5}{a C dx:Addr}{fs:List (Str×V)}{f:Str}{v:V}{A:A5}{E:e8->i5->Prop}
theorem Hn{b:Bool}(I:Inv X pins σ H s)(e:H a=some (.ins C dx fs))(c:rB X.K C)(n:V6 X.K C f)(l:fs.lookup f=some v)
  (h:∀u s',Inv X pins σ H s'->RelV v u->Q u s'):wpAny (model X.prog X.w) A (getAttr (.ref a) f b) Q E s:=by
 obtain⟨mA,O,r,_,_,_⟩:=xr I.B6 e;obtain⟨u,hu,ru⟩:=mV.some_of (v:=v) (o:=mA f) (by rw[<-l];exact r f)
 exact get_map I.dZ O (c.get f) c.hd n hu (JZ ru) (h u _ (I.tok _) ru)
theorem uZ{Q:e8×List e8->i5->Prop}(I:Inv X pins σ H s)(e:H a=some (.ins C dx fs))(c:rB X.K C)(k:Meth X.K C m g)(l:fs.lookup m=none)
  (h:Q (.ref g,[.ref a]) s):wpAny (model X.prog X.w) A (gM (.ref a) m pl) Q E s:=by
 obtain⟨mA,O,r,_,_,_⟩:=xr I.B6 e;have hn:mA m=none:=mV.none_of (by rw[<-l];exact r m)
 exact OK I.dZ O (c.get m) k.at_ k.fn hn h
theorem Ga{Q:Unit->i5->Prop}(I:Inv X pins σ H s)(e:H a=some (.ins C dx fs))(c:rB X.K C)(n:V6 X.K C f)(hl:fs.length<1000)(ry:RelV y u)
  (h:∀s',Inv X pins σ (upd H a (.ins C dx (aM f y fs))) s'->Q () s'):wpAny (model X.prog X.w) A (setAttr (.ref a) f u) Q E s:=by
 obtain⟨mA,O,r,wi,_,ho⟩:=xr I.B6 e;have hz:(fs.map (·.1)).length<=B9:=by rw[N9,gN];lia
 refine RA I.dZ O c.sa c.po n.WR c.hd wi hz λh' O' sb=>h _ ?_
 have hd:∃o,h'.get? dx=some o:=let ⟨o,_,_,e',_⟩:=O'.ns;⟨o,e'⟩;refine I.write (x:=a) (e:=dx) (by rw[e];exact cj) (.inr ho) (λb q hb z=>(sb.2 b hb).trans z) hd ?_
 refine⟨by rw[C3 O.ne];exact ho,?_,O.ne,O'.obj,_,O'.ns,λg=>?_,λg hg=>?_⟩
 . have:=sH f y fs;lia
 . show mV ((aM f y fs).lookup g) (if g=f then some u else mA g)
   rw[sG];by_cases q:g=f
   . rw[c7 q,c7 q];exact ry
   . rw[e9 q,e9 q];exact r g
 . by_cases q:g=f
   . rw[q];exact(qt f y fs).1
   . refine(qt f y fs).2 g (wi g λz=>hg ?_)
     show(if g=f then some u else mA g)=none
     rw[e9 q];exact z
theorem Inv.made(I:Inv X pins σ H s):Inv X pins σ (upd (upd H s.heap.objs.size (.own (s.heap.objs.size+1))) (s.heap.objs.size+1) (.ins C s.heap.objs.size []))
  {s with heap:=(s.heap.push kB).push (jG C s.heap.objs.size)}:=by
 have e1:(s.heap.push kB).get? s.heap.objs.size=some kB:=U8 s.heap rfl;have e2:((s.heap.push kB).push (jG C s.heap.objs.size)).get? (s.heap.objs.size+1)=some (jG C s.heap.objs.size):=by
  have:=U8 (s.heap.push kB) (o:=jG C s.heap.objs.size) rfl
  rwa [jB]at this
 have e3:(s.heap.push kB).Ns s.heap.objs.size (λ_=>none):=⟨kB,#[],_,e1,rfl,(λe he=>absurd he (by simp)),λ_=>rfl⟩
 have I1:=I.laid (a:=s.heap.objs.size) (o:=.own (s.heap.objs.size+1)) (h':=s.heap.push kB) (t':=s.toks) (λb u q=>E7 _ q) (o3 _) ⟨_,e1⟩
 refine I1.laid (a:=s.heap.objs.size+1) (o:=.ins C s.heap.objs.size []) (t':=s.toks) (λb u q=>E7 _ q) (vJ (jB _ _)) ?_
 have ne:s.heap.objs.size≠s.heap.objs.size+1:=U7 (wg _);refine⟨by rw[C3 ne,M3],cT _,ne,e2,λ_=>none,(Heap.Ns1.of_empty e3).at λo q=>E7 _ q,λ_=>cj,λy hy=>absurd rfl hy⟩
theorem To{prog:A6}{w:t7}{env:Env}{e:Expr}{pos:Pos}{s:i5}(hb:aZ e f env (eval e env)=eval e env)
  (h:wpAny (model prog w) A (eval e env) (λo s₁=>wpAny (model prog w) A (getAttr o f true) Q E s₁) E s):wpAny (model prog w) A (eval (.Attribute e f pos) env) Q E s :=
 Attribute_any_ h (by rw[arm_eval_Attribute,hb])
end
def ou(K:i9)(ta:TE)(f:Str):TE:=λσ H Q=>ta σ H λx H1=>∃a C dx fs v,x=.ref a/\H1 a=some (.ins C dx fs)/\rB K C/\V6 K C f/\fs.lookup f=some v/\Q v H1
def Uv(K:i9)(ta tv:TE)(f:Str):TS:=λD σ H=>tv σ H λy H1=>ta σ H1 λx H2=>∃a C dx fs,x=.ref a/\H2 a=some (.ins C dx fs)/\rB K C/\V6 K C f/\fs.length<1000 /\
 D.nx σ (upd H2 a (.ins C dx (aM f y fs)))
section
variable{X:Cx}{o e value:Expr}{f:Str}{pos pos' tpos:Pos}{ta tv:TE}
theorem qf(he:PE X e ta)(hb:aZ e f X.env (eval e X.env)=eval e X.env):PE X (.Attribute e f pos) (ou X.K ta f):=by
 intro pins s σ H Q I h;refine To hb (C5 (he pins s σ H _ I h) λu s1 ⟨x,H1,I1,rx,a,C,dx,fs,v,ex,ea,c,n,l,q⟩=>?_)
 subst ex;obtain rfl:u=aA a:=rx;exact Hn I1 ea c n l λu' s2 I2 ru=>⟨v,H1,I2,ru,q⟩
theorem Vb(ha:PE X o ta)(hv:PE X value tv)(hs:aJ value (some (.Attribute o f pos')) pos.line X.env=pure false):PS X (.Assign [.Attribute o f pos'] value pos) (Uv X.K ta tv f):=by
 intro pins s σ H D I h;refine plainObj_wpAny_Assign_Attribute (C5 (hv pins s σ H _ I h) λu s1 ⟨y,H1,I1,ry,q⟩=>C5 (ha pins s1 σ H1 _ I1 q) λov s2 ⟨x,H2,I2,rx,a,C,dx,fs,ex,ea,c,n,l,q2⟩=>?_) hs
 subst ex;obtain rfl:ov=aA a:=rx;exact Ga I2 ea c n l ry λs3 I3=>⟨σ,_,I3,q2⟩
end
section
variable{X:Cx}{pins:List (Addr×Obj)}{σ:St}{H:Hp}{s:i5}{A:A5}{E:e8->i5->Prop}{Q:e8->i5->Prop}{c:e8}{b:Bool}
inductive lC(K:i9)(H:Hp):V->e8->Prop where
 |non:lC K H .non (.type "NoneType")
 |bl (x:Bool):lC K H (.bl x) (.type "bool")
 |int (i:Int):lC K H (.int i) (.type "int")
 |str (x:Str):lC K H (.str x) (.type "str")
 |flt (x:UInt64):lC K H (.flt x) (.type "float")
 |lst {a:Addr} {xs:List V} (e:H a=some (.lst xs)):lC K H (.ref a) (.type "list")
 |bD {a:Addr} {o:Obj} {xs:List V} (e:H a=some (.bD o (.lst xs))):lC K H (.ref a) (.type "list")
 |tup {a:Addr} {xs:List V} (e:H a=some (.tup xs)):lC K H (.ref a) (.type "tuple")
 |dK {a:Addr} {kvs:List (Key×V)} (e:H a=some (.dK kvs)):lC K H (.ref a) (.type "dict")
 |dT {a:Addr} {kvs:List (List Key×V)} (e:H a=some (.dT kvs)):lC K H (.ref a) (.type "dict")
 |ins {a C dx:Addr} {fs:List (Str×V)} (e:H a=some (.ins C dx fs)) (cl:rB K C) (ha:aq K (.ref C) "__class__" = some (some (.builtin "object.__class__")))
   (hn:Cu K (.builtin "object.__class__") "__get__" = some (some (.builtin "getset_descriptor.__get__"))) (htk:Le K (.builtin "object.__class__")=some true)
   (hm:BV K C (.type "object")=some true):lC K H (.ref a) (.ref C)
end
end
section
variable{j k:Nat}{A:A5}{C f:Addr}{us:List e8}{kw:List (Str×e8)}{P:A6}{w:t7}{K:i9}{mg:Str->Option e8}{base:Heap}{outer:List Env}{H:Hp}{u cd dV doc pm cdv ct oc:e8}{ps N:List Str}{pins:List (Addr×Obj)}{σ:St}{vs:List V}{pl:Sem Bool}{CX:mO}{qual name:Str}{scope:ag}
structure G7(k:Nat)(A:A5):Prop where
 hd:A.handled=none
 dp:A.depth+3*k+5<recursionLimit
 un:A.units+16*k+200<cLine
theorem G7.mono(r:G7 k A)(h:j<=k):G7 j A:=⟨r.hd,by have:=r.dp;lia,by have:=r.un;lia⟩
theorem G7.deeper{k:Nat}{A:A5}(r:G7 (k+1) A)(env:Env):G7 k (A.deeper env) :=
 ⟨r.hd,by have:=r.dp;show A.depth+1+3*k+5<_;lia,by have:=r.un;show A.units+3+16*k+200<_;lia⟩
theorem GU:(A.under (.builtin "type.__call__" ⟨.ref C::us,kw⟩)).depth=A.depth+1:=by first|rfl|simp[BN,Code.weight,Code.isCreation,Code.isGuard,Code.isCaller,Code.frames,BM,guardIds]
theorem GS:(A.under (.builtin "type.__call__" ⟨.ref C::us,kw⟩)).units=A.units+1:=by first|rfl|simp[BN,Code.cUnits,Code.frames,BM]
theorem G7.make(r:G7 (k+1) A)(C:Addr)(us:List e8)(kw:List (Str×e8)):G7 k (A.under (.builtin "type.__call__" ⟨.ref C::us,kw⟩)) :=
 ⟨r.hd,by have:=r.dp;rw[GU];lia,by have:=r.un;rw[GS];lia⟩
theorem G7.depth{k:Nat}{A:A5}(r:G7 k A):A.depth<recursionLimit:=by have:=r.dp;lia
theorem G7.units{k:Nat}{A:A5}(r:G7 k A):A.units+64<cLine:=by have:=r.un;lia
def mT:TA:=λ_ H Q=>Q [] H
def iK(ta:TE)(tr:TA):TA:=λσ H Q=>ta σ H λx H1=>tr σ H1 λxs H2=>Q (x::xs) H2
section
variable{X:Cx}{e:Expr}{es:List Expr}{te:TE}{t:TA}{pos:Pos}
theorem qg:PA X [] mT:=λ_ _ _ _ H Q I h=>Calls.spliced_nil ⟨[],H,I,.nil,h⟩
theorem iw(ha:PE X e te)(hr:PA X es t)(hs:j6 (e::es) X.env=(false,eval e X.env)::j6 es X.env:=by rfl):PA X (e::es) (iK te t):=by
 intro pos pins s σ H Q I h;rw[hs];show wpAny _ _ (spliced ((false,eval e X.env)::C9 pos (j6 es X.env))) _ _ s
 refine Calls.spliced_cons (C5 (ha pins s σ H _ I h) λu s1 ⟨x,H1,I1,r1,q1⟩=>?_)
 exact C5 (hr pos pins s1 σ H1 _ I1 q1) λus s2 ⟨xs,H2,I2,r2,q2⟩=>⟨x::xs,H2,I2,.cons r1 r2,q2⟩
def Ud(t:TA):TE:=λσ H Q=>t σ H λxs H1=>xs.length<=B9/\∀p,H1 p=none->Q (.ref p) (upd H1 p (.tup xs))
def Ui(t:TA):TE:=λσ H Q=>t σ H λxs H1=>xs.length<=B9/\∀p,H1 p=none->Q (.ref p) (upd H1 p (.lst xs))
theorem Vh{x1}(h:PA X es t):PE X (.Tuple es x1 pos) (Ud t):=by
 intro pins s σ H Q I hq;refine wpAny_Tuple_spliced (C5 (h pos pins s σ H _ I hq) λus s1 ⟨xs,H1,I1,r,z,q⟩=>⟨by rw[<-r.length];exact z,?_⟩)
 have hf:H1 s1.heap.objs.size=none:=I1.B6.fresh (o3 _);refine⟨.ref s1.heap.objs.size,upd H1 s1.heap.objs.size (.tup xs),I1.laid (t':=s1.toks) (λb u e=>E7 _ e) (o3 _) ?_,rfl,q _ hf⟩
 exact⟨z,us,r,⟨_,U8 _ rfl,rfl,_,rfl⟩⟩
theorem Vm(h:PA X es t):PE X (.List es pos) (Ui t):=by
 intro pins s σ H Q I hq;refine wpAny_List_spliced (C5 (h pos pins s σ H _ I hq) λus s1 ⟨xs,H1,I1,r,z,q⟩=>⟨by rw[<-r.length];exact z,?_⟩)
 have hf:H1 s1.heap.objs.size=none:=I1.B6.fresh (o3 _);refine⟨.ref s1.heap.objs.size,upd H1 s1.heap.objs.size (.lst xs),I1.laid (t':=s1.toks) (λb u e=>E7 _ e) (o3 _) ?_,rfl,q _ hf⟩
 exact⟨z,us,0,r,U8 _ rfl⟩
end
abbrev Sp:=List V->Hp->VK->XK->Prop
abbrev mO:=List Env->Hp->i5->XK->e8->i5->Prop
structure uf(P:A6)(w:t7)(K:i9)(mg:Str->Option e8)(base:Heap)(A:A5)(outer:List Env)(s:i5)(H:Hp):Prop where
 frames:A.frames=some outer
 mod:Mod K mg base
 bs:∀b o,base.get? b=some o->s.heap.get? b=some o/\H b=none
 pL:base.objs.size<=s.heap.objs.size
 iB:s.heap.FunFrames base outer
 yA:∀b∈L9 outer,H b=none
 B6:cu P w H s.heap
 bare:gK s.gens
def CE(outer:List Env)(P:A6)(w:t7)(H:Hp)(s:i5)(Q:VK)(u:e8)(s':i5):Prop :=
 ∃v H',s'.os=s.os/\gK s'.gens/\Un (L9 outer) [] H H' s.heap s'.heap/\cu P w H' s'.heap/\RelV v u/\Q v H'
def CR(CX:mO)(outer:List Env)(P:A6)(w:t7)(H:Hp)(s:i5)(Q:VK)(E:XK)(r:Result)(s':i5):Prop :=
 match r with
 | .ok (.ret u)=>CE outer P w H s Q u s'
 | .ok _=>False
 | .error e=>CX outer H s E e s'
structure Y0(P:A6)(w:t7)(K:i9)(mg:Str->Option e8)(base:Heap)(CX:mO)(k:Nat)(f:Addr)(fd:M7)(ps:List Str)(sp:Sp):Prop where
 len:∀vs H Q E,sp vs H Q E->vs.length=ps.length
 run:∀(A:A5) (outer:List Env) (s:i5) (H:Hp) (args:Args) (us:List e8) (vs:List V) (Q:VK) (E:XK),G7 k A->uf P w K mg base A outer s H->lE s fd args (ps.zip us)->Vals vs us->sp vs H Q E ->
  codeAny (model P w) A (.call (.ref f) args) (CR CX outer P w H s Q E) s
theorem uf.make{s:i5}(e:uf P w K mg base A outer s H)(C:Addr)(us:List e8)(kw:List (Str×e8)):
  uf P w K mg base (A.under (.builtin "type.__call__" ⟨.ref C::us,kw⟩)) outer s H:=⟨by first|exact e.frames|(simpa [BN,Code.envs,BM,pushEnvs]using e.frames),e.mod,e.bs,e.pL,e.iB,e.yA,e.B6,e.bare⟩
section
variable{X:Cx}{pins:List (Addr×Obj)}{σ:St}{H:Hp}{s s':i5}
theorem Inv.Wq(I:Inv X pins σ H s):uf X.prog X.w X.K X.mg X.base X.A X.stack s H :=
 ⟨I.ok.frames,I.ok.mod,I.bs,P5 I.ok.pL I.sz,I.stack,I.DY,I.B6,I.bare⟩
theorem Inv.after{Q:VK}(I:Inv X pins σ H s)(h:CE X.stack X.prog X.w H s Q u s'):EP X pins σ Q u s':=by obtain⟨v,H',os,bare,un,B6,r,q⟩:=h;obtain⟨hh,g,d,t,os'⟩:=s';obtain rfl:os'=s.os:=os;exact⟨v,H',I.call (h':=hh) (g':=g) (d':=d) (t':=t) (ch:=[]) un B6 bare (λb z=>absurd z (by simp)),r,q⟩
end
def ow(sp:Sp)(dvs:List V)(E:XK)(t:TA):TE:=λσ H Q=>t σ H λvs H1=>sp (vs++dvs) H1 Q E
def ki(C:Addr)(m:Str)(sp:Sp)(dvs:List V)(E:XK)(ta:TE)(t:TA):TE:=λσ H Q=>ta σ H λx H1=>∃a dx fs,x=.ref a/\H1 a=some (.ins C dx fs)/\fs.lookup m=none /\
 t σ H1 λvs H2=>sp (x::(vs++dvs)) H2 Q E
def Qe(C:Addr)(sp:Sp)(dvs:List V)(E:XK)(t:TA):TE:=λσ H Q=>t σ H λvs H1=>∀x dx,H1 x=none->H1 dx=none->dx≠x ->
 sp (.ref x::(vs++dvs)) (upd (upd H1 dx (.own x)) x (.ins C dx [])) (λv H2=>v=.non/\Q (.ref x) H2) E
def Binds(K:i9)(fd:M7)(ps:List Str)(ds:List e8):Prop :=
 ∀(s:i5) (us:List e8),K.In s.heap->(us++ds).length=ps.length->lE s fd ⟨us,[]⟩ (ps.zip (us++ds))
theorem Binds.all{fd:M7}(h:∀us:List e8,us.length=ps.length->bindArgs fd ⟨us,[]⟩=pure (ps.zip us)):Binds K fd ps []:=λs us _ hl=>by rw[dJ]at hl ⊢;exact .of_eq (h us hl)
def Passes(CX:mO)(X:Cx)(E:XK):Prop:=∀(pins:List (Addr×Obj)) (σ:St) (H:Hp) (s:i5) (e:e8) (s':i5),Inv X pins σ H s->CX X.stack H s E e s'->X.xe e s'
section
variable{X:Cx}{CX:mO}{k:Nat}{f C:Addr}{fd:M7}{ps:List Str}{sp:Sp}{dvs:List V}{ds:List e8}{E:XK}{x m:Str}{p pos apos:Pos}{e o:Expr}{es:List Expr}{ta:TE}{t:TA}
theorem zN{s:i5}{Q:VK}(F:Y0 X.prog X.w X.K X.mg X.base CX k f fd ps sp)(hr:G7 k X.A)(hb:Binds X.K fd ps ds)(hd:Vals dvs ds)(hx:Passes CX X E)
  (I:Inv X pins σ H s) (r:Vals vs us) (h:sp (vs++dvs) H Q E):wpAny (model X.prog X.w) X.A (call (.ref f) us) (EP X pins σ Q) X.xe s:=by
 have r2:Vals (vs++dvs) (us++ds):=r.append hd;have hl:(us++ds).length=ps.length:=by rw[<-r2.length];exact F.len _ _ _ _ h
 refine wpAny_call (vI (F.run X.A X.stack s H ⟨us,[]⟩ (us++ds) (vs++dvs) Q E hr I.Wq (hb s us I.dZ hl) r2 h) λr s' hq=>?_)
 cases r with
 |error e=>exact hx pins σ H s e s' I hq
 |ok fl =>
  cases fl with
  |ret u=>exact I.after hq
  |next=>exact br hq
  |brk=>exact br hq
  |cont=>exact br hq
theorem Es(F:Y0 X.prog X.w X.K X.mg X.base CX k f fd ps sp)(hr:G7 k X.A)(hg:Gl X x)(hm:X.mg x=some (.ref f))(hk:iR X.K (.ref f)=true)(hb:Binds X.K fd ps ds)(hd:Vals dvs ds)(hx:Passes CX X E)
  (ha:PA X (e::es) t) (hdb:(x==("__debug__" : Str))=false:=by decide) (he:j6 (e::es) X.env=(false,eval e X.env)::j6 es X.env:=by rfl) (hpl:(C9 pos (j6 es X.env)).any (·.1)=false:=by rfl) :
  PE X (.Call (.Name x p) (e::es) [] pos) (ow sp dvs E t):=by
 intro pins s σ H Q I h;refine wo (xp I hg hm ?_ hdb);refine CA (h₀:=X.base) I.ok.mod.EO hk (C5 (ha pos pins s σ H _ I h) λus s1 ⟨vs,H1,I1,r,q⟩=>⟨I1.dZ,?_⟩) he hpl
 exact zN F hr hb hd hx I1 r q
theorem Er(he:PE X o ta)(c:rB X.K C)(hm:Meth X.K C m f)(F:Y0 X.prog X.w X.K X.mg X.base CX k f fd ps sp)(hr:G7 k X.A)(hb:Binds X.K fd ps ds)(hd:Vals dvs ds)(hx:Passes CX X E)(ha:PA X (e::es) t)
  (hst:j6 (e::es) X.env=(false,eval e X.env)::j6 es X.env:=by rfl) (hpl:(C9 pos (j6 es X.env)).any (·.1)=false:=by rfl)
  (ht:eval (.Call (.Attribute o m apos) (e::es) [] pos) X.env=(do
   let ov <- eval o X.env
   cc apos.atName
   let (f,first) <- holding [ov] (gM ov m pl)
   callWith pos f first (C9 pos (j6 (e::es) X.env)) (bq pos (dH [] X.env))):=by rfl) :
  PE X (.Call (.Attribute o m apos) (e::es) [] pos) (ki C m sp dvs E ta t):=by
 intro pins s σ H Q I h;refine LR (pl:=pl) (C5 (he pins s σ H _ I h) λu s1 ⟨x,H1,I1,rx,a,dx,fs,ex,ea,l,q⟩=>?_) ht
 subst ex;obtain rfl:u=aA a:=rx;refine uZ I1 ea c hm l ?_;refine CA (first:=[.ref a]) (h₀:=X.base) I.ok.mod.EO hm.kp (C5 (ha pos pins s1 σ H1 _ I1 q) λus s2 ⟨vs,H2,I2,r,q2⟩=>⟨I2.dZ,?_⟩) hst hpl
 exact zN (us:=.ref a::us) (vs:=.ref a::vs) F hr hb hd hx I2 (.cons rfl r) q2
theorem NQ(he:PE X o ta)(c:rB X.K C)(hm:Meth X.K C m f)(F:Y0 X.prog X.w X.K X.mg X.base CX k f fd ps sp)(hr:G7 k X.A)(hb:Binds X.K fd ps ds)(hd:Vals dvs ds)(hx:Passes CX X E)
  (ht:eval (.Call (.Attribute o m apos) [] [] pos) X.env=(do
   let ov <- eval o X.env
   cc apos.atName
   let (f,first) <- holding [ov] (gM ov m pl)
   callWith pos f first (C9 pos (j6 [] X.env)) (bq pos (dH [] X.env))):=by rfl) :
  PE X (.Call (.Attribute o m apos) [] [] pos) (ki C m sp dvs E ta mT):=by
 intro pins s σ H Q I h;refine LR (pl:=pl) (C5 (he pins s σ H _ I h) λu s1 ⟨x,H1,I1,rx,a,dx,fs,ex,ea,l,q⟩=>?_) ht
 subst ex;obtain rfl:u=aA a:=rx;refine uZ I1 ea c hm l ?_;exact PySem.W.callWith_K0 (first:=[.ref a]) I1.dZ hm.kp (zN (us:=[.ref a]) (vs:=[.ref a]) F hr hb hd hx I1 (.cons rfl .nil) q)
structure Mk(K:i9)(C f:Addr):Prop where
 makes:Ci K C=true
 init:aq K (.ref C) "__init__" = some (some (.ref f))
 fn:vK K (.ref f)=true
 kp:iR K (.ref C)=true
theorem MS{s:i5}{Q:VK}(M:Mk X.K C f)(F:Y0 X.prog X.w X.K X.mg X.base CX k f fd ps sp)(hr:G7 (k+1) X.A)(hb:Binds X.K fd ps ds)(hd:Vals dvs ds)
  (hx:Passes CX X E) (I:Inv X pins σ H s) (r:Vals vs us)
  (h:∀x dx,H x=none->H dx=none->dx≠x->sp (.ref x::(vs++dvs)) (upd (upd H dx (.own x)) x (.ins C dx [])) (λv H2=>v=.non/\Q (.ref x) H2) E) :
  wpAny (model X.prog X.w) X.A (call (.ref C) us) (EP X pins σ Q) X.xe s:=by
 have hq:=h (s.heap.objs.size+1) s.heap.objs.size (I.B6.fresh (vF _)) (I.B6.fresh (o3 _)) (U7 (wg _));have I2:=Inv.made (C:=C) I;have r2:Vals (V.ref (s.heap.objs.size+1)::(vs++dvs)) (aA (s.heap.objs.size+1)::(us++ds)):=.cons rfl (r.append hd);have hl:(aA (s.heap.objs.size+1)::us++ds).length=ps.length:=by have e:=r2.length;rw[F.len _ _ _ _ hq]at e;exact e.symm
 refine wpAny_call (Ov (f:=f) I.dZ M.makes M.init (beq_iff_eq.mp M.fn) (vI (F.run _ X.stack _ _ ⟨aA (s.heap.objs.size+1)::us,[]⟩ (aA (s.heap.objs.size+1)::(us++ds)) _ _ E (hr.make C us [])
  (I2.Wq.make C us []) (hb _ (aA (s.heap.objs.size+1)::us) I2.dZ hl) r2 hq) λr s' hq'=>?_))
 cases r with
 |error e=>exact hx pins σ _ _ e s' I2 hq'
 |ok fl =>
  cases fl with
  |ret u =>
   obtain⟨v,H',I3,rv,ev,q3⟩:=I2.after hq';subst ev;exact⟨rv,⟨V.ref (s.heap.objs.size+1),H',I3,rfl,q3⟩⟩
  |next=>exact br hq'
  |brk=>exact br hq'
  |cont=>exact br hq'
theorem So(M:Mk X.K C f)(F:Y0 X.prog X.w X.K X.mg X.base CX k f fd ps sp)(hr:G7 (k+1) X.A)(hg:Gl X x)(hm:X.mg x=some (.ref C))(hb:Binds X.K fd ps ds)(hd:Vals dvs ds)(hx:Passes CX X E)
  (ha:PA X (e::es) t) (hdb:(x==("__debug__" : Str))=false:=by decide) (he:j6 (e::es) X.env=(false,eval e X.env)::j6 es X.env:=by rfl) (hpl:(C9 pos (j6 es X.env)).any (·.1)=false:=by rfl) :
  PE X (.Call (.Name x p) (e::es) [] pos) (Qe C sp dvs E t):=by
 intro pins s σ H Q I h;refine wo (xp I hg hm ?_ hdb);refine CA (h₀:=X.base) I.ok.mod.EO M.kp (C5 (ha pos pins s σ H _ I h) λus s1 ⟨vs,H1,I1,r,q⟩=>⟨I1.dZ,?_⟩) he hpl
 exact MS M F hr hb hd hx I1 r q
end
section
variable{X:Cx}{CX:mO}{k:Nat}{f C:Addr}{fd:M7}{ps ks:List Str}{sp:Sp}{E:XK}{x m:Str}{p pos apos kpos:Pos}{e o:Expr}{es:List Expr}{kws:List bp}{te ta:TE}{t tk:TA}{nm:Option Str}
structure YG(K:i9)(fd:M7)(ps ks:List Str)(g:List e8->List e8->List e8)(gV:List V->List V->List V):Prop where
 to:∀(s:i5) (us ws:List e8),K.In s.heap->(g us ws).length=ps.length->lE s fd ⟨us,ks.zip ws⟩ (ps.zip (g us ws))
 rel:∀{vs:List V} {us:List e8} {zs:List V} {ws:List e8},Vals vs us->Vals zs ws->Vals (gV vs zs) (g us ws)
variable{g:List e8->List e8->List e8}{gV:List V->List V->List V}
end
structure iI(N P:List Str)(sc:ag):Prop where
 kind:sc.kind=.function
 co:sc.isCoroutine=false
 gen:sc.isGenerator=false
 nd:N.Nodup
 pre:N.take P.length=P
 par:∀x∈P,sc.names.lookup x=some .local\/sc.names.lookup x=some .cell
 VC:∀y∈sc.names,y.2≠.free
theorem yK{aI:Str->Option jv}{x:Str}:∀{binds:List (Str×e8)} {m:Str->Option e8},(∀v,(x,v)∉binds)->bindL aI binds m x=m x
 | [],_,_=>rfl
 |(n,v)::r,m,h=>by
  unfold bindL;rw[yK λw hw=>h w (C4 _ hw)]
  split
  . have:x≠n:=by rintro rfl;exact h v A2
    simp[this]
  . rfl
theorem yM{aI:Str->Option jv}{x:Str}:∀{binds:List (Str×e8)} {m:Str->Option e8},(∀v,(x,v)∉binds)->bindC aI binds m x=m x
 | [],_,_=>rfl
 |(n,v)::r,m,h=>by
  unfold bindC;rw[yM λw hw=>h w (C4 _ hw)]
  split
  . rfl
  . have:x≠n:=by rintro rfl;exact h v A2
    simp[this]
theorem yL{aI:Str->Option jv}{x:Str}{v:e8}:∀{P:List Str} {vs:List e8} {i:Nat} {m:Str->Option e8},P.Nodup->P[i]? = some x->vs[i]? = some v->aI x=some .local ->
  bindL aI (P.zip vs) m x=some v
 | [],_,_,_,_,h,_,_=>by simp at h
 |_::_,[],_,_,_,_,h,_=>by simp at h
 |p::P,w::vs,0,m,nd,h1,h2,hk=>by
  simp at h1 h2;subst h1;subst h2;show bindL aI ((p,w)::P.zip vs) m p=_
  unfold bindL;rw[yK λv hv=>(List.nodup_cons.mp nd).1 (Cg hv).1,c7 hk]
  simp
 |p::P,w::vs,i+1,m,nd,h1,h2,hk=>by
  show bindL aI ((p,w)::P.zip vs) m x=_
  unfold bindL;exact yL (i:=i) (List.nodup_cons.mp nd).2 (by simpa using h1) (by simpa using h2) hk
theorem yN{aI:Str->Option jv}{x:Str}{v:e8}:∀{P:List Str} {vs:List e8} {i:Nat} {m:Str->Option e8},P.Nodup->P[i]? = some x->vs[i]? = some v->aI x≠some .local ->
  bindC aI (P.zip vs) m x=some v
 | [],_,_,_,_,h,_,_=>by simp at h
 |_::_,[],_,_,_,_,h,_=>by simp at h
 |p::P,w::vs,0,m,nd,h1,h2,hk=>by
  simp at h1 h2;subst h1;subst h2;show bindC aI ((p,w)::P.zip vs) m p=_
  unfold bindC;rw[yM λv hv=>(List.nodup_cons.mp nd).1 (Cg hv).1,e9 hk]
  simp
 |p::P,w::vs,i+1,m,nd,h1,h2,hk=>by
  show bindC aI ((p,w)::P.zip vs) m x=_
  unfold bindC;exact yN (i:=i) (List.nodup_cons.mp nd).2 (by simpa using h1) (by simpa using h2) hk
def start(N:List Str)(vs:List V):St:=vs.map some++v9 (N.length-vs.length) none
def lz(CX:mO)(P:A6)(w:t7)(K:i9)(mg:Str->Option e8)(base:Heap)(N:List Str)(qual:Str)(scope:ag)(f:Addr)(cd:e8)(A:A5)(outer:List Env)(s:i5)(H:Hp)(E:XK):Cx where
 prog:=P
 w:=w
 K:=K
 mg:=mg
 base:=base
 A:=A.deeper (cR qual scope s.heap.objs.size f cd)
 N:=N
 P9:=s
 h8:=H
 env:=cR qual scope s.heap.objs.size f cd
 outer:=outer
 stack:=cR qual scope s.heap.objs.size f cd::outer
 ex:=[]
 calm:=true
 fn:=λ_=>true
 pn:=[]
 xe:=λe s'=>wpAny (model P w) (A.deeper (cR qual scope s.heap.objs.size f cd)) (leaving (cR qual scope s.heap.objs.size f cd) e) (λ_ s''=>CX outer H s E e s'') (λe' s''=>CX outer H s E e' s'') s'
theorem Bl{sc:ag}{n:Nat}{x:Str}(h:sc.names.lookup x=some .cell):∃c,(cellsFrom n sc.names []).lookup x=some c:=by have q:=LW sc.names n [] (.inl h);exact Option.isSome_iff_exists.mp q
theorem JU{s s1:i5}{E:XK}
  (S:iI N ps scope) (hd:A.handled=none) (e0:uf P w K mg base A outer s H) (hl:vs.length=ps.length) (r:Vals vs us)
  (x:InCallC s s.heap.objs.size (bindL (cR qual scope s.heap.objs.size f cd).kindOf (ps.zip us) λ_=>none) (cellsFrom (s.heap.objs.size+1) scope.names []) (bindC (cR qual scope s.heap.objs.size f cd).kindOf (ps.zip us) λ_=>none) s1) :
  Inv (lz CX P w K mg base N qual scope f cd A outer s H E) [] (start N vs) H s1:=by
 have hpl:ps.length<=N.length:=by have:=V7 List.length S.pre;rw[nW]at this;lia
 obtain⟨h1,tk,rfl,hk⟩:=x.done;have noA:∀b:Addr,b∉(lz CX P w K mg base N qual scope f cd A outer s H E).ex:=λb z=>absurd (show b∈([]:List Addr)from z) (by simp)
 refine⟨⟨e0.mod,S.kind,rfl,rfl,o3 _,λy z c h1 h2=>?_,λy hy=>?_,λy c _ h=>?_,λ_=>hd,Around.frames_deeper e0.frames,.inr ⟨rfl,rfl⟩,λb z=>absurd z (noA b),e0.bs,e0.pL,λb _ _=>noA b,λb z=>absurd z (noA b),e0.iB,e0.yA⟩,
  rfl,e0.bare,Un.kept hk,⟨_,x.toInCall.ns,λi y v h1 h2 h3=>?_⟩,λy c h=>⟨_,x.cell y c h⟩,e0.B6.fresh (o3 _),λy c h=>?_,λp hp=>absurd (show p∈([]:List (Addr×Obj))from hp) (by simp),e0.B6.kept hk,?_⟩
 . exact name_of_addr x.apart (lZ h1) (lZ h2)
 . have hy:scope.names.lookup y=some .cell\/scope.names.lookup y=some .free:=hy;rcases hy with hy|hy
   . exact Bl hy
   . exact absurd rfl (S.VC _ (lZ hy))
 . exact jy (x.above y c (lZ h))
 . have hi:i<vs.length:=by
     unfold start at h2;by_cases hi:i<vs.length
     . exact hi
     . rw[wL (by simpa using hi)]at h2
       rw[CQ]at h2;split at h2<;>cases h2
   have ha:vs[i]? = some v:=by
    unfold start at h2;rw[rp (by simpa using hi),Q6]at h2
    cases e:vs[i]? with
    |none=>rw[e]at h2;cases h2
    |some a=>rw[e]at h2;cases h2;rfl
   obtain⟨u,hu,rv⟩:=r.get ha;have hp:ps[i]? = some y:=by rw[<-S.pre,List.getElem?_take_of_lt (by lia)];exact h1
   have ndP:ps.Nodup:=by rw[<-S.pre];exact S.nd.sublist (Lr _ _)
   refine⟨u,rv,?_⟩;rcases S.par y (rj hp)with k|k
   . exact .inl ⟨k,yL ndP hp hu k⟩
   . obtain⟨c,e⟩:=Bl (n:=s.heap.objs.size+1) k;refine .inr ⟨.inl k,c,e,?_⟩;have q:=x.cell y c e;rw[yN ndP hp hu (by show scope.names.lookup y≠_;rw[k];decide)]at q
     exact q
 . exact e0.B6.fresh (jy (x.above y c (lZ h)))
 . unfold start;show _=N.length
   rw[iU,N9,wC];lia
theorem Xo{params:Arguments}{body:List Stmt}{kV:e8}{an od:Option Addr}
  {osl:Array (Option e8)} {sp:Sp} (lk:K.lookup f=some ⟨oc,od,.func (gO name qual params body scope dV kV doc pm an cdv ct),osl⟩) (hcd:vP K cdv qual=true) (S:iI N ps scope)
  (len:∀vs H Q E,sp vs H Q E->vs.length=ps.length)
  (hbody:∀(A:A5) (outer:List Env) (s:i5) (H:Hp) (vs:List V) (Q:VK) (E:XK),G7 k (A.deeper (cR qual scope s.heap.objs.size f cdv))->sp vs H Q E ->
   ∃t,mL (lz CX P w K mg base N qual scope f cdv A outer s H E) body t/\t {nx:=λ_ H'=>Q .non H',rt:=Q} (start N vs) H) :
  Y0 P w K mg base CX (k+1) f (gO name qual params body scope dV kV doc pm an cdv ct) ps sp:=by
 refine⟨len,λA outer s H args us vs Q E hr e0 hb r hsp=>?_⟩
 have hl:=len _ _ _ _ hsp;have KX:K.In s.heap:=e0.mod.EO.keeps λb o e=>(e0.bs b o e).1
 have lim:s.heap.NoLimit:=e0.mod.nolimit.keeps λb o e=>(e0.bs b o e).1
 have hkind:∀y∈ps.zip us,scope.names.lookup y.1=some .local\/(scope.names.lookup y.1=some .cell/\((cellsFrom (s.heap.objs.size+1) scope.names []).lookup y.1).isSome=true):=λ⟨n,v⟩ hy=>by
  rcases S.par n (Cg hy).1 with q|q
  . exact .inl q
  . exact .inr ⟨q,LW _ _ _ (.inl q)⟩
 refine codeAny_call_function hr.depth (KX _ _ lk) rfl S.co S.gen rfl (PySem.W.codeRec_of KX hcd) (hb _ _ _ _ ?_);refine wpAny_newFunctionEnv_cells S.kind hkind λenv he s1 x=>?_
 subst he;refine⟨lim.keeps x.toInCall.keep,codeAny_func ?_⟩;obtain⟨t,ht,hq⟩:=hbody A outer s H vs Q E (hr.deeper _) hsp;have I:Inv (lz CX P w K mg base N qual scope f cdv A outer s H E) [] (start N vs) H s1:=JU S hr.hd e0 hl r x;refine ck (ht [] s1 (start N vs) H _ I hq) (λfl s' hs=>?_) λe s' hs=>hs
 have fin:∀{σ':St} {H':Hp} {v:V} {u:e8},Inv (lz CX P w K mg base N qual scope f cdv A outer s H E) [] σ' H' s'->RelV v u->Q v H'->CE outer P w H s Q u s' :=
  λ{σ' H' v u} J rv q=>⟨v,H',J.os,J.bare,J.base,J.B6,rv,q⟩
 cases fl with
 |ret u =>
  obtain⟨v,σ',H',J,rv,q⟩:=hs;exact fin J rv q
 |next =>
  obtain⟨σ',H',J,q⟩:=hs;exact fin (v:=V.non) (u:=eJ) J rfl q
 |brk =>
  obtain⟨_,_,_,q⟩:=hs;exact br q
 |cont =>
  obtain⟨_,_,_,q⟩:=hs;exact br q
end
section
variable{X:Cx}{x:Str}{p pos:Pos}{e:Expr}{es:List Expr}{t:TA}{id T:String}{r:List V->Hp->VK->Prop}
def zD(r:List V->Hp->VK->Prop)(t:TA):TE:=λσ H Q=>t σ H λvs H1=>r vs H1 Q
theorem zX(hc:V0 X (.builtin id) r)(hg:Gl X x)(hm:X.mg x=none)(hv:cX x=some (.builtin id))(ha:PA X (e::es) t)(hn:x ≠ "__name__":=by decide)(hdb:(x==("__debug__" : Str))=false:=by decide)
  (he:j6 (e::es) X.env=(false,eval e X.env)::j6 es X.env:=by rfl) (hpl:(C9 pos (j6 es X.env)).any (·.1)=false:=by rfl):PE X (.Call (.Name x p) (e::es) [] pos) (zD r t):=by intro pins s σ H Q I h;refine wo (ny I hg hm hv ?_ hn hdb);exact PyProof.Rows.callWith_builtin1 (C5 (ha pos pins s σ H _ I h) λus s1 ⟨vs,H1,I1,r1,q1⟩=>hc pins s1 σ H1 vs us Q I1 r1 q1) he hpl
theorem Ja(hc:V0 X (.type T) r)(hg:Gl X x)(hm:X.mg x=none)(hv:cX x=some (.type T))(ha:PA X (e::es) t)(hn:x ≠ "__name__":=by decide)(hdb:(x==("__debug__" : Str))=false:=by decide)
  (he:j6 (e::es) X.env=(false,eval e X.env)::j6 es X.env:=by rfl) (hpl:(C9 pos (j6 es X.env)).any (·.1)=false:=by rfl):PE X (.Call (.Name x p) (e::es) [] pos) (zD r t):=by intro pins s σ H Q I h;refine wo (ny I hg hm hv ?_ hn hdb);exact wM (C5 (ha pos pins s σ H _ I h) λus s1 ⟨vs,H1,I1,r1,q1⟩=>hc pins s1 σ H1 vs us Q I1 r1 q1) he hpl
end
end L2
namespace HT
open PySem PyProof.Rows
def lexLt:List Int->List Int->Bool
 | [],[]=>false
 | [],_::_=>true
 |_::_,[]=>false
 |x::xs,y::ys=>if x=y then lexLt xs ys else decide (x<y)
theorem GX(x y:Int)(xs ys:List Int):lexLt (x::xs) (y::ys)=if x=y then lexLt xs ys else decide (x<y):=rfl
theorem yX:lexLt [] []=false:=rfl
theorem xn(y:Int)(ys:List Int):lexLt [] (y::ys)=true:=rfl
theorem xo(x:Int)(xs:List Int):lexLt (x::xs) []=false:=rfl
theorem OU(A:A5)(s:i5)(a:Int)(t:Tok)(c:Int)(u:Tok):∃e,BE A s (.int a t) (.int c u) e/\(e=true↔a=c) :=
 ⟨(a==c),LA a t c u,by simp⟩
theorem MY(A:A5)(s:i5)(a:Int)(t:Tok)(c:Int)(u:Tok)(prog:A6)(w:t7)(E:e8->i5->Prop)(Q:e8->i5->Prop)(h:Q (.bool (decide (a<c))) s):
  wpAny (model prog w) A (richCompare .Lt (.int a t) (.int c u)) Q E s :=
 (PyProof.Rows.lt_int h:wpAny (model prog w) A (S8 .Lt (.int a t) (.int c u)) Q E s)
section
open PySem.SeqAt
open PySem.AutoSeq1 (wpAny_loadPart')
open PySem.MeetsSeq PySem.MeetsSeq2 PySem.MeetsSeq3
theorem yR(l b:Addr)(items items2:Array e8)(n n2:Nat)(dd dd2:Option Addr)(sl sl2:Array (Option e8))(ns ms:List Int)(hi:Q8 items.toList ns)(hj:Q8 items2.toList ms):
  Meets (Builtin.«tuple.__lt__» ⟨[.ref l,.ref b],[]⟩)
   (λ_ R s=>s.heap.get? l=some {cls:=.type "tuple",dict:=dd,data:=.seq items n,slots:=sl}/\s.heap.get? b=some {cls:=.type "tuple",dict:=dd2,data:=.seq items2 n2,slots:=sl2} /\
    R (.ok (.ret (.bool (lexLt ns ms)))) s) :=
 .of_wp λprog w A R s h=>by
  obtain⟨hp,g,d,tk,os⟩:=s;obtain⟨hl,hb,h⟩:=h;have f2:=AutoSeq1.sub_tuple_tuple;have z1:items.size=ns.length:=by rw[<-hi.length];simp
  have z2:items2.size=ms.length:=by rw[<-hj.length];simp
  wp_walk using wpAny_loadPart' hl,wpAny_loadPart' hb,wpAny_forIn_list _ (λrest b s'=>b.1=none/\s'=⟨hp,g,d,tk,os⟩/\∃(vs ws:List e8) (ns' ms':List Int),rest=vs.zip ws /\
   Q8 vs ns'/\Q8 ws ms'/\ns'.length+items2.size=ms'.length+items.size/\R (.ok (.ret (.bool (lexLt ns' ms')))) ⟨hp,g,d,tk,os⟩) _
  case turn =>
   rintro⟨y,x⟩ rest b s' ⟨hb',rfl,vs,ws,ns',ms',hz,hvi,hwi,hlen,hR⟩;cases hvi with
   |nil=>rw[Lq]at hz;cases hz
   |cons a t hvi' =>
    cases hwi with
    |nil=>rw[Lz]at hz;cases hz
    |cons c u hwi' =>
     rw[mM]at hz;injection hz with hyx hrest
     injection hyx with hy hx
     subst hy hx;rw[GX]at hR;simp only[O0]at hlen;obtain⟨e,he,hiff⟩:=OU A.in1 ⟨hp,g,d,tk,os⟩ a t c u;refine wpAny_bind (he prog w _ _ ?_);cases e with
     |true =>
      rw[c7 (hiff.mp rfl)]at hR
      wp_walk
      exact⟨rfl,rfl,_,_,_,_,hrest,hvi',hwi',by lia,hR⟩
     |false =>
      rw[e9 (λq=>absurd (hiff.mpr q) Q7)]at hR
      have hri:=MY A.in1 ⟨hp,g,d,tk,os⟩ a t c u prog w
      wp_walk using hri
      exact⟨_,rfl,by simpa using hR⟩
  case fin =>
   rintro⟨b1,b2⟩ s' ⟨hb',rfl,vs,ws,ns',ms',hz,hvi,hwi,hlen,hR⟩;simp only at hb';subst hb';have hv:lexLt ns' ms'=decide (items.size<items2.size):=by
    cases hvi with
    |nil =>
     cases hwi with
     |nil =>
      simp only[lN]at hlen;rw[yX];exact(iS (by lia)).symm
     |cons c u hw =>
      simp only[lN,O0]at hlen;rw[xn];exact(decide_eq_true (by lia)).symm
    |cons a t hv =>
     cases hwi with
     |nil =>
      simp only[lN,O0]at hlen;rw[xo];exact(iS (by lia)).symm
     |cons c u hw =>
      rw[mM]at hz;cases hz
   rw[hv]at hR
   wp_walk
   exact⟨_,rfl,by simpa [Builtin.Tuple.tupleCompareSizes]using hR⟩
  case h =>
   exact⟨rfl,rfl,items.toList,items2.toList,ns,ms,rfl,hi,hj,by lia,h⟩
end
section
variable{prog:A6}{w:t7}{A:A5}{E:e8->i5->Prop}{s:i5}
theorem GV{l b:Addr}{items items2:Array e8}{ns ms:List Int}{Q:e8->i5->Prop}(hl:eu s.heap l items)(hb:eu s.heap b items2)(hi:Q8 items.toList ns)(hj:Q8 items2.toList ms)
  (hu:A.units<cLine) (h:Q (.bool (lexLt ns ms)) s):wpAny (model prog w) A (S8 .Lt (.ref l) (.ref b)) Q E s:=by
 obtain⟨⟨cls,dd,data,sl⟩,ho,hc,n,hd⟩:=id hl;obtain⟨⟨cls2,dd2,data2,sl2⟩,ho2,hc2,n2,hd2⟩:=id hb;simp only at hc hd hc2 hd2;subst hc hd hc2 hd2;exact richCompare_meets_room (op:=.Lt) ⟨_,ho,rfl⟩ ⟨_,ho2,rfl⟩ PySem.F.slot_tuple_lt PySem.F.entry_tuple_lt (PySem.F.args_tuple_lt_2 _ _) (yR l b items items2 n n2 dd dd2 sl sl2 ns ms hi hj)
  ⟨ho,ho2,show lG (lexLt ns ms)≠Value.notImplemented/\Q (.bool (lexLt ns ms)) s from⟨(λx=>nomatch x),h⟩⟩ hu
theorem Th{t b:Addr}{vs ws:List e8}{Q:e8->i5->Prop}(ht:eu s.heap t vs.toArray)(hb:eu s.heap b ws.toArray)(hv:vs≠[])
  (h1:ws=[]->Q (.ref t) s) (h2:ws≠[]->Q (.ref s.heap.objs.size) {s with heap:=s.heap.push {cls:=.type "tuple",data:=.seq (vs++ws).toArray}})
  (hsz:vs.length+ws.length<=B9):wpAny (model prog w) A (ak .Add (.ref t) (.ref b)) Q E s:=by
 obtain⟨⟨cls,dd,data,sl⟩,ho,hc,n,hd⟩:=id ht;obtain⟨⟨cls2,dd2,data2,sl2⟩,ho2,hc2,n2,hd2⟩:=id hb;simp only at hc hd hc2 hd2;subst hc hd hc2 hd2;have e:vs.toArray++ws.toArray=(vs++ws).toArray:=by simp
 by_cases hw:ws=[]
 . exact vH ⟨_,ho,rfl⟩ ⟨_,ho2,rfl⟩ Cp BU CM CP (CU _ _)
     (tuple_addW1 t b vs.toArray ws.toArray n n2 dd dd2 sl sl2 (by simpa using hv) (by simp[hw])) ⟨ho,ho2,h1 hw⟩
 . refine vH ⟨_,ho,rfl⟩ ⟨_,ho2,rfl⟩ Cp BU CM CP (CU _ _)
     (tuple_addW2 t b vs.toArray ws.toArray n n2 dd dd2 sl sl2 (by simpa using hv) (by simpa using hw) (by rw[P6,P6];exact hsz)) ⟨ho,ho2,?_⟩
   rw[e];exact h2 hw
def E3(n d:Nat):Option Int->Nat
 |none=>d
 |some v=>if v<0 then(v+(n:Int)).toNat else min v.toNat n
theorem Uu(n d:Nat)(hd:d<=n)(o:Option Int):E3 n d o<=n:=by
 cases o with
 |none=>exact hd
 |some v =>
  show(if v<0 then(v+(n:Int)).toNat else min v.toNat n)<=n
  by_cases hv:v<0
  . rw[c7 hv];lia
  . rw[e9 hv];exact Nat.min_le_right _ _
theorem FG(v:Int)(n d:Nat):(if v<0 then max (v+(n:Int)) 0 else min v (n:Int))=((E3 n d (some v):Nat):Int):=by
 show(if v<0 then max (v+(n:Int)) 0 else min v (n:Int))=(((if v<0 then(v+(n:Int)).toNat else min v.toNat n):Nat):Int)
 by_cases hv:v<0
 . simp only[c7 hv];lia
 . simp only[e9 hv];lia
theorem HI(lo hi:Option Int)(n:Nat):CW lo hi 1 (n:Int)=(((E3 n 0 lo:Nat):Int),((E3 n n hi:Nat):Int)):=by
 have h1:¬((1:Int)<0):=by lia
 delta CW;simp only[h1,M6];refine Prod.ext ?_ ?_
 . cases lo with
   |none=>rfl
   |some v=>exact FG v n 0
 . cases hi with
   |none=>rfl
   |some v=>exact FG v n n
theorem Gs(i j:Nat):wJ (i:Int) (j:Int) 1=j-i:=by
 delta wJ;have h1:(1:Int)>0:=by lia
 simp only[h1,A9,Int.ediv_one];split<;>lia
theorem uo{v:e8}{o:Option Int}{Q:Option Int->i5->Prop}(p:eI v o)(h:Q o s):wpAny (model prog w) A (Builtin.Slice.slicePartIndex v) Q E s:=by
 cases p with
 |none=>exact slicePart_none h
 |int i t=>exact slicePart_int h
theorem kU{sl:Addr}{vl vu:e8}{lo hi:Option Int}{n:Nat}{Q:Int×Int×Nat->i5->Prop}(hs:s.heap.IsSliceOf sl vl vu .none)(pl:eI vl lo)(pu:eI vu hi)
  (h:Q (((E3 n 0 lo:Nat):Int),1,E3 n n hi-E3 n 0 lo) s):wpAny (model prog w) A (Mi (.ref sl) (pure (n:Int))) Q E s:=by
 obtain⟨os,hos,hcs,hds⟩:=id hs;delta Mi Builtin.Slice.sliceFields;refine wpAny_bind (wpAny_bind (aY hos hds (x:=vl) rfl (wpAny_bind (aY hos hds (x:=vu) rfl (wpAny_bind (aY hos hds (x:=.none) rfl (o5 ?_)))))));refine wpAny_bind (slicePart_none ?_);show wpAny _ _ (if ((1:Int)==0)=true then _ else _) _ _ s
 rw[e9 (by decide)]
 refine wpAny_bind (uo pl (wpAny_bind (uo pu (wpAny_bind (o5 ?_)))));show wpAny _ _ (match CW lo hi 1 (n:Int)with|(lo,hi)=>pure (lo,(1:Int),wJ lo hi 1)) _ _ s
 rw[HI lo hi n];show wpAny _ _ (pure (((E3 n 0 lo:Nat):Int),(1:Int),wJ ((E3 n 0 lo:Nat):Int) ((E3 n n hi:Nat):Int) 1)) _ _ s
 rw[Gs];exact o5 h
theorem NL(xs:Array e8)(i k:Nat):((A4 k).filterMap λ(m:Nat)=>xs[((i:Int)+(m:Int)*1).toNat]?).toArray=((xs.toList.drop i).take k).toArray:=by
 have e:(λ(m:Nat)=>xs[((i:Int)+(m:Int)*1).toNat]?)=λm=>xs[i+m]?:=by
  funext m
  have:((i:Int)+(m:Int)*1).toNat=i+m:=by lia
  rw[this]
 rw[e];have:=pick_run xs i k;rw[List.filterMap_map]at this;have e2:((λx=>xs[x]?)∘λx=>i+x)=λm=>xs[i+m]?:=rfl
 rw[e2]at this;rw[this]
theorem sA{t sl:Addr}{items:Array e8}{vl vu:e8}{lo hi:Option Int}{Q:e8->i5->Prop}(ht:eu s.heap t items)(hs:s.heap.IsSliceOf sl vl vu .none)(pl:eI vl lo)(pu:eI vu hi)
  (hw:¬(E3 items.size 0 lo=0/\E3 items.size items.size hi=items.size))
  (h:Q (.ref s.heap.objs.size) {s with heap:=s.heap.push {cls:=.type "tuple",data:=.seq ((items.toList.drop (E3 items.size 0 lo)).take (E3 items.size items.size hi-E3 items.size 0 lo)).toArray}})
  (hsz:items.size<=B9):wpAny (model prog w) A (lD (.ref t) (.ref sl)) Q E s:=by
 have htake:sizeOk (.seq ((items.toList.drop (E3 items.size 0 lo)).take (E3 items.size items.size hi-E3 items.size 0 lo)).toArray):=by
  show((items.toList.drop (E3 items.size 0 lo)).take (E3 items.size items.size hi-E3 items.size 0 lo)).toArray.size<=B9
  rw[P6,nW,Co,CC];lia
 have hj:E3 items.size items.size hi<=items.size:=Uu _ _ (o3 _) hi;obtain⟨os,hos,hcs,hds⟩:=id hs;have hTs:s.TypeIs (.ref sl) "slice":=⟨os,hos,hcs⟩;delta lD;try with_reducible refine jz ?_
 first|refine wpAny_bind (o5 ?_)|skip
 refine wpAny_bind (wpAny_sequenceKey ht.typeIs (by decide) ?_)
 refine wpAny_bind (pB (name:=cW "__getitem__") ht.typeIs wN
  (jH wN ht.typeIs entry_tuple_getitem ?_ (args_tuple_getitem _ _)))
 show wpAny _ _ (Mh (.ref t) >>= _) _ _ s
 refine wpAny_bind (tupleItemsOf_ ht ?_);refine wpAny_bind (BL hTs ?_);rw[c7 (by decide)]
 refine wpAny_bind (kU hs pl pu ?_);have hno:¬((((E3 items.size 0 lo:Nat):Int)==0&&(1:Int)==1&&(E3 items.size items.size hi-E3 items.size 0 lo)==items.size)=true):=by intro q;rw[iT,iT]at q;have q1:((E3 items.size 0 lo:Nat):Int)=0:=vA q.1.1;have q2:E3 items.size items.size hi-E3 items.size 0 lo=items.size:=vA q.2;exact hw ⟨by lia,by lia⟩
 show wpAny _ _ (if (((E3 items.size 0 lo:Nat):Int)==0&&(1:Int)==1&&(E3 items.size items.size hi-E3 items.size 0 lo)==items.size)=true then _ else _) _ _ s
 rw[e9 hno,NL];first
  |exact wpAny_bind (m:=wG _) (lW (o5 ⟨_,rfl,o5 h⟩) htake)
  |exact wpAny_bind (m:=wG _) (lW (wpAny_bind (o5 (o5 ⟨_,rfl,o5 h⟩))) htake)
  |exact wpAny_bind (wpAny_bind (m:=wG _) (lW (o5 (o5 ⟨_,rfl,o5 h⟩)) htake))
  |exact wpAny_bind (wpAny_bind (m:=wG _) (lW (o5 ⟨_,rfl,o5 h⟩) htake))
end
end HT
namespace L2
open PySem PySem.Spec PyProof.Rows
abbrev TO:=St->Hp->(Option Int->Hp->Prop)->Prop
def PO(X:Cx)(e:Option Expr)(t:TO):Prop :=
 ∀(pins:List (Addr×Obj)) (s:i5) (σ:St) (H:Hp) (Q:Option Int->Hp->Prop),Inv X pins σ H s->t σ H Q ->
  wpAny (model X.prog X.w) X.A (evalPart e X.env) (λu s'=>∃o H',Inv X pins σ H' s'/\eI u o/\Q o H') X.xe s
def DX:TO:=λ_ H Q=>Q none H
def Qb(t:TE):TO:=λσ H Q=>t σ H λx H1=>∃i,x=.int i/\Q (some i) H1
theorem intsAre_of{ns:List Int}:∀{us:List e8},Vals (ns.map V.int) us->Q8 us ns:=by
 induction ns with
 |nil=>intro us r;rw[N8]at r;cases r;exact .nil
 |cons n ns ih =>
  intro us r;rw[o6]at r;cases r with
  |cons r1 r2 =>
   obtain⟨t,e⟩:=r1;subst e;exact .cons n t (ih r2)
section
variable{X:Cx}{e:Expr}{te:TE}{lo hi:Option Expr}{tl th:TO}{pos p2:Pos}
theorem Sj:PO X none DX:=by intro pins s σ H Q I h;rw[evalPart_none];exact o5 ⟨none,H,I,.none,h⟩
theorem Si(h:PE X e te):PO X (some e) (Qb te):=by
 intro pins s σ H Q I hw;rw[evalPart_some];refine C5 (h pins s σ H _ I hw) λu s1 ⟨x,H1,I1,r1,q1⟩=>?_
 obtain⟨i,rfl,q⟩:=q1;obtain⟨t,rfl⟩:=r1;exact⟨some i,H1,I1,.int i t,q⟩
def sT(X:Cx)(r:V->Option Int->Option Int->Hp->VK->Prop):Prop :=
 ∀(pins:List (Addr×Obj)) (s:i5) (σ:St) (H:Hp) (x:V) (v vl vu:e8) (lo hi:Option Int) (sl:Addr) (Q:VK),Inv X pins σ H s->RelV x v->s.heap.IsSliceOf sl vl vu .none->eI vl lo->eI vu hi->r x lo hi H Q ->
  ∃T id,typeLookup (.type T) "__getitem__" = pure (some (.builtin id))/\s.TypeIs v T/\wpAny (model X.prog X.w) X.A (lD v (.ref sl)) (EP X pins σ Q) X.xe s
theorem sT.or{r r':V->Option Int->Option Int->Hp->VK->Prop}(h:sT X r)(h':sT X r'):sT X (λx lo hi H Q=>r x lo hi H Q\/r' x lo hi H Q):=by
 intro pins s σ H x v vl vu lo hi sl Q I rx hs pl pu q;rcases q with q|q
 . exact h pins s σ H x v vl vu lo hi sl Q I rx hs pl pu q
 . exact h' pins s σ H x v vl vu lo hi sl Q I rx hs pl pu q
def XA(r:V->Option Int->Option Int->Hp->VK->Prop)(te:TE)(tl th:TO):TE:=λσ H Q=>te σ H λx H1=>tl σ H1 λl H2=>th σ H2 λu H3=>r x l u H3 Q
theorem NP{r:V->Option Int->Option Int->Hp->VK->Prop}(hr:sT X r)(he:PE X e te)(hl:PO X lo tl)(hu:PO X hi th):PE X (.Subscript e (.Slice lo hi none p2) pos) (XA r te tl th):=by
 intro pins s σ H Q I h;refine Subscript_ (C5 (he pins s σ H _ I h) λv s1 ⟨x,H1,I1,r1,q1⟩=>?_)
 refine wpAny_Slice (C5 (hl pins s1 σ H1 _ I1 q1) λvl s2 ⟨l,H2,I2,pl,q2⟩=>C5 (hu pins s2 σ H2 _ I2 q2) λvu s3 ⟨u,H3,I3,pu,q3⟩=>?_)
 rw[evalPart_none];refine o5 ?_;have I4:Inv X pins σ H3 {s3 with heap:=s3.heap.push {cls:=.type "slice",data:=.fields #[vl,vu,.none]}}:=I3.kept (t':=s3.toks) λb ob q=>E7 _ q
 obtain⟨T,id,hT,ht,hg⟩:=hr pins {s3 with heap:=s3.heap.push {cls:=.type "slice",data:=.fields #[vl,vu,.none]}} σ H3 x v vl vu l u s3.heap.objs.size Q I4 r1 (Heap.IsSliceOf.new ..) pl pu q3
 show wpAny (model X.prog X.w) X.A (subscriptTail e (.Slice lo hi none p2) v (.ref s3.heap.objs.size)) (EP X pins σ Q) X.xe {s3 with heap:=s3.heap.push {cls:=.type "slice",data:=.fields #[vl,vu,.none]}}
 exact tail_any (ops:=[.ref s3.heap.objs.size,v]) ht hT hg (by with_unfolding_all rfl)
def lA(xs:List V)(lo hi:Option Int):List V:=(xs.drop (HT.E3 xs.length 0 lo)).take (HT.E3 xs.length xs.length hi-HT.E3 xs.length 0 lo)
theorem sS(xs:List V)(lo hi:Option Int):(lA xs lo hi).length<=xs.length:=by delta lA;rw[nW,Co];lia
def Yd(K:i9):V->Option Int->Option Int->Hp->VK->Prop:=λx lo hi H Q=>∃a xs,x=.ref a/\N4 K H a xs /\
 ¬(HT.E3 xs.length 0 lo=0/\HT.E3 xs.length xs.length hi=xs.length)/\∀p,H p=none->Q (.ref p) (upd H p (.tup (lA xs lo hi)))
theorem Up:sT X (Yd X.K):=by
 intro pins s σ H x v vl vu lo hi sl Q I rx hs pl pu h;obtain⟨a,xs,rfl,hx,hw,q⟩:=h;cases rx;obtain⟨its,r,ht,hz⟩:=I.tuple hx;have hlen:its.toArray.size=xs.length:=by rw[P6];exact r.length.symm
 refine⟨"tuple",_,PyProof.Rows.slot_tuple_getitem.lookup,ht.typeIs,?_⟩;refine HT.sA ht hs pl pu (by rw[hlen];exact hw) ?_ (by rw[hlen];exact hz)
 rw[hlen];refine⟨.ref s.heap.objs.size,_,I.laid (t':=s.toks) (o:=.tup (lA xs lo hi)) (λb ob q=>E7 _ q) (o3 _) ?_,rfl,q _ (I.B6.fresh (o3 _))⟩
 exact⟨P5 (sS xs lo hi) hz,_,(r.drop (HT.E3 xs.length 0 lo)).take (HT.E3 xs.length xs.length hi-HT.E3 xs.length 0 lo),Bz _ _⟩
def UC(K:i9):R2:=λx y H Q=>∃a b ns ms,x=.ref a/\y=.ref b/\N4 K H a (ns.map V.int)/\N4 K H b (ms.map V.int)/\Q (.bl (HT.lexLt ns ms)) H
theorem Vv(hu:X.A.units<cLine):O9 X (S8 .Lt) (UC X.K):=by intro pins s σ H x y v u Q I rx ry h;obtain⟨a,b,ns,ms,rfl,rfl,ha,hb,q⟩:=h;cases rx;cases ry;obtain⟨its,r1,p1,_⟩:=I.tuple ha;obtain⟨its2,r2,p2,_⟩:=I.tuple hb;have i1:Q8 its.toArray.toList ns:=intsAre_of r1;have i2:Q8 its2.toArray.toList ms:=intsAre_of r2;exact HT.GV p1 p2 i1 i2 hu ⟨.bl (HT.lexLt ns ms),H,I,rfl,q⟩
def WX(K:i9):R2:=λx y H Q=>∃a b xs ys,x=.ref a/\y=.ref b/\N4 K H a xs/\N4 K H b ys/\xs≠[]/\xs.length+ys.length<=B9 /\
 (ys=[]->Q (.ref a) H)/\(ys≠[]->∀p,H p=none->Q (.ref p) (upd H p (.tup (xs++ys))))
theorem Vals.rO{xs:List V}{us:List e8}(r:Vals xs us):us=[]↔xs=[]:=by
 cases r with
 |nil=>simp
 |cons _ _=>simp
theorem SD:O9 X (ak .Add) (WX X.K):=by
 intro pins s σ H x y v u Q I rx ry h;obtain⟨a,b,xs,ys,rfl,rfl,ha,hb,hx,hz,q1,q2⟩:=h;cases rx;cases ry;obtain⟨its,r1,p1,_⟩:=I.tuple ha;obtain⟨its2,r2,p2,_⟩:=I.tuple hb;refine HT.Th p1 p2 (λz=>hx (r1.rO.mp z)) (λz=>⟨.ref a,H,I,rfl,q1 (r2.rO.mp z)⟩) (λz=>?_) (by rw[<-r1.length,<-r2.length];exact hz)
 refine⟨.ref s.heap.objs.size,_,I.laid (t':=s.toks) (o:=.tup (xs++ys)) (λb ob q=>E7 _ q) (o3 _) ?_,rfl,q2 (λw=>z (r2.rO.mpr w)) _ (I.B6.fresh (o3 _))⟩
 exact⟨by rw[iU];exact hz,_,r1.append r2,Bz _ _⟩
end
section
variable{α:Type}{j n':Nat}{r r':R2}{pins:List (Addr×Obj)}{σ:St}{H:Hp}{y:V}{u v:e8}
def fT(n:Nat)(i:Int):Option Nat:=if 0<=i then(if i<n then some i.toNat else none)else if -(n:Int)<=i then some (i+n).toNat else none
def K5(xs:List α)(i:Int):Option α:=(fT xs.length i).bind λj=>xs[j]?
theorem ER{n:Nat}{i:Int}(h:fT n i=some j):seqIndex? i n=some j/\j<n/\-(n:Int)<=i/\i<n:=by
 delta fT at h;by_cases h0:0<=i
 . rw[c7 h0]at h;by_cases h1:i<n
   . rw[c7 h1]at h;have e:i.toNat=j:=ar h;exact⟨by rw[seqIndex_of h0 h1,e],by lia,by lia,h1⟩
   . rw[e9 h1]at h;cases h
 . rw[e9 h0]at h;by_cases h1 : -(n:Int)<=i
   . rw[c7 h1]at h;have e:(i+n).toNat=j:=ar h;exact⟨by rw[BK (by lia) h1,e],by lia,h1,by lia⟩
   . rw[e9 h1]at h;cases h
theorem xJ{xs:List α}{i:Int}{v:α}(h:K5 xs i=some v):∃j,seqIndex? i xs.length=some j/\xs[j]? = some v/\j<xs.length/\-(xs.length:Int)<=i/\i<xs.length:=by
 delta K5 at h;cases e:fT xs.length i with
 |none=>rw[e]at h;cases h
 |some j =>
  rw[e]at h;obtain⟨h1,h2,h3,h4⟩:=ER e;exact⟨j,h1,h,h2,h3,h4⟩
def sh(b:Expr):Prop:=∀o i,subscripted b false o i=operate [o,i] (lD o i)
def sV(X:Cx)(r:R2):Prop :=
 ∀(value slice:Expr) (pins:List (Addr×Obj)) (s:i5) (σ:St) (H:Hp) (x y:V) (v u:e8) (Q:VK),Inv X pins σ H s->RelV x v->RelV y u->r x y H Q ->
  subscripted slice false v u=operate [v,u] (lD v u)->wpAny (model X.prog X.w) X.A (subscriptTail value slice v u) (EP X pins σ Q) X.xe s
def WA(X:Cx)(id:String)(r:V->List V->Hp->VK->Prop):Prop :=
 ∀(pins:List (Addr×Obj)) (s:i5) (σ:St) (H:Hp) (x:V) (xs:List V) (v:e8) (us:List e8) (Q:VK),Inv X pins σ H s->RelV x v->Vals xs us->r x xs H Q ->
  wpAny (model X.prog X.w) X.A (call (.builtin id) (v::us)) (EP X pins σ Q) X.xe s
section
variable{X:Cx}{a b:Expr}{ta tb:TE}{pos:Pos}
theorem sV.or(h:sV X r)(h':sV X r'):sV X (λx y H Q=>r x y H Q\/r' x y H Q):=by
 intro value slice pins s σ H x y v u Q I rx ry q hs;rcases q with q|q
 . exact h value slice pins s σ H x y v u Q I rx ry q hs
 . exact h' value slice pins s σ H x y v u Q I rx ry q hs
theorem Qo(hr:sV X r)(ha:PE X a ta)(hb:PE X b tb)(hs:sh b):PE X (.Subscript a b pos) (pV r ta tb):=by intro pins s σ H Q I h;exact Subscript_ (Py ha hb I h λv u s2 x y H2 I2 rx ry q=>hr a b pins s2 σ H2 x y v u Q I2 rx ry q (hs _ _))
def UH(K:i9):R2:=λx y H Q=>∃p xs i v,x=.ref p/\y=.int i/\G6 K H p xs/\K5 xs i=some v/\Q v H
def UE(K:i9):R2:=λx y H Q=>∃p xs i v,x=.ref p/\y=.int i/\N4 K H p xs/\K5 xs i=some v/\Q v H
def UG:R2:=λx y H Q=>∃z i c,x=.str z/\y=.int i/\z.length<=B9/\K5 z.cps.toList i=some c/\Q (.str ⟨#[c]⟩) H
theorem SO:sV X (UH X.K):=by
 intro value slice pins s σ H x y v u Q I rx ry h hs;obtain⟨p,xs,i,z,rfl,rfl,hq,he,q⟩:=h;cases rx;obtain⟨t,rfl⟩:=ry;obtain⟨its,r,pl,hz⟩:=I.list hq;obtain⟨j,h1,h2,h3,h4,h5⟩:=xJ he;obtain⟨w,ew,rw'⟩:=r.get h2;have hl:=r.length;have hn:=nu;have fin:EP X pins σ Q w s:=⟨z,H,I,rw',q⟩;by_cases h0:0<=i
 . have hj:i.toNat=j:=by rw[seqIndex_of h0 h5]at h1;exact ar h1
   exact item_listR pl.isList h0 (by lia) (by rw[hj];simpa using ew) fin hs
 . have hj:(i+(its.toArray.size:Int)).toNat=j:=by
     rw[BK (by lia) h4]at h1
     rw[P6,<-hl];exact ar h1
   exact LV (x:=w) pl.isList.typeIs slot_list_getitem.lookup
    (wpAny_getItem_list_neg (Q:=λr s'=>r=w/\EP X pins σ Q r s') pl.isList (by lia) (by rw[P6]<;>lia) (by lia) (by rw[hj];simpa using ew) ⟨rfl,fin⟩) hs
theorem VT:sV X (UE X.K):=by
 intro value slice pins s σ H x y v u Q I rx ry h hs;obtain⟨p,xs,i,z,rfl,rfl,hq,he,q⟩:=h;cases rx;obtain⟨t,rfl⟩:=ry;obtain⟨its,r,pl,hz⟩:=I.tuple hq;obtain⟨j,h1,h2,h3,h4,h5⟩:=xJ he;obtain⟨w,ew,rw'⟩:=r.get h2;have hl:=r.length;have hn:=nu;have fin:EP X pins σ Q w s:=⟨z,H,I,rw',q⟩;exact LV (x:=w) pl.typeIs slot_tuple_getitem.lookup
  (getItem_tuple (j:=j) (Q:=λr s'=>r=w/\EP X pins σ Q r s') pl (by lia) (by lia) (by rw[P6,<-hl];exact h1) (by simpa using ew) ⟨rfl,fin⟩) hs
theorem VV:sV X UG:=by
 intro value slice pins s σ H x y v u Q I rx ry h hs;obtain⟨z,i,c,rfl,rfl,hz,he,q⟩:=h;obtain⟨t,rfl⟩:=rx;obtain⟨t',rfl⟩:=ry;obtain⟨j,h1,h2,h3,h4,h5⟩:=xJ he;have hl:z.cps.toList.length=z.length:=by simp[Str.length]
 rw[hl]at h1 h4 h5;have hn:=nu;exact tail_any (typeIs_str s z t) slot_str_getitem.lookup (getItem_str (c:=c) (by
  have e1:decide (i < -(2 ^ 63:Int))=false:=iS (by lia)
  have e2:decide (i>=2 ^ 63)=false:=iS (by lia)
  rw[e1,e2,BS]) (by rw[h1];simpa using h2) ⟨.str ⟨#[c]⟩,H,I.tok _,⟨_,rfl⟩,q⟩) hs
def IB(K:i9):R2:=λx y H Q=>UH K x y H Q\/UE K x y H Q\/UG x y H Q
theorem JP:sV X (IB X.K):=SO.or (VT.or VV)
theorem GR(its:List e8)(n j:Nat)(u:e8):cS (·.setIfInBounds j u) {cls:=.type "list",data:=.seq its.toArray n}={cls:=.type "list",data:=.seq (its.set j u).toArray n}:=by simp[cS]
theorem Inv.lst{pins:List (Addr×Obj)}{σ:St}{H:Hp}{s:i5}{p:Addr}{xs:List V}(I:Inv X pins σ H s)(h:H p=some (.lst xs)):
  ∃(its:List e8) (n:Nat),Vals xs its/\s.heap.get? p=some {cls:=.type "list",data:=.seq its.toArray n}/\xs.length<=B9:=by obtain⟨z,its,n,r,e⟩:=I.B6 p _ h;exact⟨its,n,r,e,z⟩
theorem Inv.VI{s:i5}{p:Addr}{xs ys:List V}{its its':List e8}{n n':Nat}{f:Obj->Obj}(I:Inv X pins σ H s)(h:H p=some (.lst xs))
  (ho:s.heap.get? p=some {cls:=.type "list",data:=.seq its.toArray n}) (hf:f {cls:=.type "list",data:=.seq its.toArray n}={cls:=.type "list",data:=.seq its'.toArray n'}) (r:Vals ys its') (hz:ys.length<=B9) (t:Nat) :
  Inv X pins σ (upd H p (.lst ys)) {s with heap:=s.heap.update p f,toks:=t}:=by
 have e:(s.heap.update p f).get? p=some {cls:=.type "list",data:=.seq its'.toArray n'}:=by rw[LQ f ho (by rw[hf]<;>rfl),hf]
 refine I.write (x:=p) (e:=p) (by rw[h];trivial) (.inl rfl) (λb u hb q=>(LU _ _ (gJ hb)).trans q) ⟨_,e⟩ ?_
 exact⟨hz,its',n',r,e⟩
def Gg:V->V->V->Hp->(Hp->Prop)->Prop:=λo i v H Q=>∃p xs k j,o=.ref p/\i=.int k/\H p=some (.lst xs)/\fT xs.length k=some j/\Q (upd H p (.lst (xs.set j v)))
theorem set_list:Wz X Gg:=by
 intro pins s σ H o i v ov iv u Q I ro ri rv h;obtain⟨p,xs,k,j,rfl,rfl,hp,hj,q⟩:=h;cases ro;obtain⟨t,rfl⟩:=ri;obtain⟨its,n,r,ho,hz⟩:=I.lst hp;obtain⟨h1,h2,h3,h4⟩:=ER hj;have hl:=r.length;have hn:=nu;have I':Inv X pins σ (upd H p (.lst (xs.set j v))) {s with heap:=s.heap.update p (cS (·.setIfInBounds j u))} :=
  I.VI hp ho (GR its n j u) (r.set rv j) (by rw[Cf];exact hz) s.toks
 by_cases h0:0<=k
 . have hk:k.toNat=j:=by rw[seqIndex_of h0 h4]at h1;exact ar h1
   exact PySem.W.ki_setAt ho h0 (by lia) (by rw[P6,<-hl];exact h4) (by rw[hk];exact⟨_,I',q⟩)
 . have hk:(k+(its.toArray.size:Int)).toNat=j:=by
     rw[BK (by lia) h3]at h1
     rw[P6,<-hl];exact ar h1
   exact PySem.W.ki_setBack ho (by lia) (by rw[P6,<-hl];exact h3) (by lia) (by rw[hk];exact⟨_,I',q⟩)
theorem zH(lo hi:Option Int)(n:Nat):(lI lo hi none n).1=((HT.E3 n 0 lo:Nat):Int)/\(lI lo hi none n).2.1=((HT.E3 n n hi:Nat):Int)/\(lI lo hi none n).2.2=1:=by
 refine⟨?_,?_,rfl⟩
 . cases lo with
   |none=>simp[lI,HT.E3]
   |some i =>
    simp only[lI,HT.E3,Lm,show(1:Int)>0 by decide,A9]
    by_cases h:i<0
    . simp only[h,A9]<;>lia
    . simp only[h,M6]<;>lia
 . cases hi with
   |none=>simp[lI,HT.E3]
   |some i =>
    simp only[lI,HT.E3,Lm,show(1:Int)>0 by decide,A9]
    by_cases h:i<0
    . simp only[h,A9]<;>lia
    . simp only[h,M6]<;>lia
theorem yS(its:List e8)(lo hi:Option Int):slicePick its.toArray lo hi none=((its.drop (HT.E3 its.length 0 lo)).take (HT.E3 its.length its.length hi-HT.E3 its.length 0 lo)).toArray:=by obtain⟨h1,h2,h3⟩:=zH lo hi its.toArray.size;delta slicePick;rw[h1,h2,h3];simp only[sliceRange_one,pick_run,P6]<;>rfl
def UA(K:i9):V->Option Int->Option Int->Hp->VK->Prop:=λx lo hi H Q=>∃a xs,x=.ref a/\G6 K H a xs/\∀p,H p=none->Q (.ref p) (upd H p (.lst (lA xs lo hi)))
theorem Rv:sT X (UA X.K):=by
 intro pins s σ H x v vl vu lo hi sl Q I rx hs pl pu h;obtain⟨a,xs,rfl,hx,q⟩:=h;cases rx;obtain⟨its,r,ht,hz⟩:=I.list hx;have hlen:=r.length;refine⟨"list",_,slot_list_getitem.lookup,ht.isList.typeIs,?_⟩;refine wpAny_getItem_list_slice ht.isList hs pl pu .none (by simp) ?_ (by rw[P6]<;>lia)
 rw[yS,<-hlen];refine⟨.ref s.heap.objs.size,_,I.laid (t':=s.toks) (o:=.lst (lA xs lo hi)) (λb ob q=>E7 _ q) (o3 _) ?_,rfl,q _ (I.B6.fresh (o3 _))⟩
 exact⟨P5 (sS xs lo hi) hz,_,0,(r.drop (HT.E3 xs.length 0 lo)).take (HT.E3 xs.length xs.length hi-HT.E3 xs.length 0 lo),U8 _ rfl⟩
def aX:V->Bool
 | .non=>true
 | .bl _=>true
 | .int _=>true
 | .str _=>true
 |_=>false
def vm:V->V->Bool
 | .non,.non=>true
 | .bl a,.bl b=>a==b
 | .bl a,.int b=>(if a then 1 else 0)==b
 | .int a,.bl b=>a==(if b then 1 else 0)
 | .int a,.int b=>a==b
 | .str a,.str b=>a==b
 |_,_=>false
theorem Wo{A:A5}{s:i5}{x:V}(ry:RelV y u)(rx:RelV x v)(fy:aX y=true)(fx:aX x=true):BE A s u v (vm y x):=by
 cases y with
 |non =>
  cases ry;cases x with
  |non=>cases rx;exact SeqAt.EqAt.same _
  |bl b=>cases rx;exact SeqAt.EqAt.none_bool b
  |int b=>obtain⟨t,rfl⟩:=rx;exact SeqAt.EqAt.none_int b t
  |str b=>obtain⟨t,rfl⟩:=rx;exact SeqAt.EqAt.none_str b t
  |_=>exact absurd (show false=true from fx) Q7
 |bl a =>
  cases ry;cases x with
  |non=>cases rx;exact SeqAt.EqAt.bool_none a
  |bl b=>cases rx;exact SeqAt.EqAt.bool_bool a b
  |int b=>obtain⟨t,rfl⟩:=rx;exact SeqAt.EqAt.bool_int a b t
  |str b=>obtain⟨t,rfl⟩:=rx;exact SeqAt.EqAt.bool_str a b t
  |_=>exact absurd (show false=true from fx) Q7
 |int a =>
  obtain⟨t',rfl⟩:=ry;cases x with
  |non=>cases rx;exact SeqAt.EqAt.int_none a t'
  |bl b=>cases rx;exact SeqAt.EqAt.int_bool a t' b
  |int b=>obtain⟨t,rfl⟩:=rx;exact LA a t' b t
  |str b=>obtain⟨t,rfl⟩:=rx;exact LC a t' b t
  |_=>exact absurd (show false=true from fx) Q7
 |str a =>
  obtain⟨t',rfl⟩:=ry;cases x with
  |non=>cases rx;exact SeqAt.EqAt.str_none a t'
  |bl b=>cases rx;exact SeqAt.EqAt.str_bool a t' b
  |int b=>obtain⟨t,rfl⟩:=rx;exact LB a t' b t
  |str b=>obtain⟨t,rfl⟩:=rx;exact SeqAt.EqAt.str_str a t' b t
  |_=>exact absurd (show false=true from fx) Q7
 |_=>exact absurd (show false=true from fy) Q7
def ll(x:V)(u:e8):Bool:=match u with
 | .none=>vm .non x
 | .bool b=>vm (.bl b) x
 | .int i _=>vm (.int i) x
 | .str z _=>vm (.str z) x
 |_=>false
theorem Ko{x:V}(r:RelV y u)(f:aX y=true):ll x u=vm y x:=by
 cases y with
 |non=>cases r;rfl
 |bl b=>cases r;rfl
 |int i=>obtain⟨t,rfl⟩:=r;rfl
 |str z=>obtain⟨t,rfl⟩:=r;rfl
 |_=>exact absurd (show false=true from f) Q7
theorem nJ{x:V}:∀{xs:List V} {us:List e8},Vals xs us->xs.all aX=true->us.any (ll x)=xs.any λy=>vm y x
 |_,_,.nil,_=>rfl
 |y::xs,u::us,.cons r t,f=>by rw[nU,iT]at f;rw[qT,qT,Ko r f.1,nJ t f.2]
theorem kZ{A:A5}{s:i5}{x:V}{v:e8}(rx:RelV x v)(fx:aX x=true):∀{xs:List V} {us:List e8},Vals xs us->xs.all aX=true->∀u∈us,BE A s u v (ll x u)
 |_,_,.nil,_=>λu hu=>by cases hu
 |y::xs,u::us,.cons r t,f=>λu' hu=>by
  rw[nU,iT]at f;rcases List.mem_cons.mp hu with rfl|hu
  . rw[Ko r f.1];exact Wo r rx f.1 fx
  . exact kZ rx fx t f.2 u' hu
def uW(x:V)(xs:List V):Bool:=xs.any λy=>vm y x
def Ej(K:i9)(neg:Bool):R2:=λx y H Q=>∃p xs,y=.ref p/\(G6 K H p xs\/N4 K H p xs)/\aX x=true/\xs.all aX=true/\Q (.bl (if neg then !uW x xs else uW x xs)) H
theorem Jd:O9 X (S8 .In) (Ej X.K false):=by
 intro pins s σ H x y v u Q I rx ry h;obtain⟨p,xs,rfl,hq,fx,fs,q⟩:=h;cases ry;rcases hq with hq|hq
 . obtain⟨its,r,pl,hz⟩:=I.list hq;refine SeqAt.in_listAt (ll x) pl.isList (λw hw=>kZ rx fx r fs w (by simpa using hw)) ⟨.bl _,H,I,rfl,?_⟩
   rw[show its.toArray.any (ll x)=its.any (ll x) by simp,nJ r fs]
   exact q
 . obtain⟨its,r,pl,hz⟩:=I.tuple hq;refine SeqAt.in_tupleAt (ll x) pl (λw hw=>kZ rx fx r fs w (by simpa using hw)) ⟨.bl _,H,I,rfl,?_⟩
   rw[show its.toArray.any (ll x)=its.any (ll x) by simp,nJ r fs]
   exact q
theorem zZ:O9 X (S8 .NotIn) (Ej X.K true):=by
 intro pins s σ H x y v u Q I rx ry h;obtain⟨p,xs,rfl,hq,fx,fs,q⟩:=h;cases ry;rcases hq with hq|hq
 . obtain⟨its,r,pl,hz⟩:=I.list hq;refine SeqAt.notIn_listAt (ll x) pl.isList (λw hw=>kZ rx fx r fs w (by simpa using hw)) ⟨.bl _,H,I,rfl,?_⟩
   rw[show its.toArray.any (ll x)=its.any (ll x) by simp,nJ r fs]
   exact q
 . obtain⟨its,r,pl,hz⟩:=I.tuple hq;refine SeqAt.notIn_tupleAt (ll x) pl (λw hw=>kZ rx fx r fs w (by simpa using hw)) ⟨.bl _,H,I,rfl,?_⟩
   rw[show its.toArray.any (ll x)=its.any (ll x) by simp,nJ r fs]
   exact q
theorem Bq:V0 X (.builtin "len") (λxs H Q=>∃p ys,xs=[.ref p]/\(G6 X.K H p ys\/N4 X.K H p ys)/\Q (.int ys.length) H):=by
 intro pins s σ H xs us Q I r h;obtain⟨p,ys,rfl,hq,q⟩:=h;obtain⟨u,rfl,rx⟩:=vals1 r;cases rx;have hn:=nu;rcases hq with hq|hq
 . obtain⟨its,r',pl,hz⟩:=I.list hq;have hlen:=r'.length;exact Calls.call_len_list pl.isList (by simp only[P6]<;>lia) ⟨.int ys.length,H,I.tok _,⟨s.toks+1,by rw[P6,hlen]⟩,q⟩
 . obtain⟨its,r',pl,hz⟩:=I.tuple hq;have hlen:=r'.length;exact len_tuple pl (by simp only[P6]<;>lia) ⟨.int ys.length,H,I.tok _,⟨s.toks+1,by rw[P6,hlen]⟩,q⟩
theorem Bp:V0 X (.builtin "len") (λxs H Q=>∃z,xs=[.str z]/\z.length<=B9/\Q (.int z.length) H):=by intro pins s σ H xs us Q I r h;obtain⟨z,rfl,hz,q⟩:=h;obtain⟨u,rfl,t,rfl⟩:=vals1 r;have hn:=nu;exact len_str (by lia) ⟨.int z.length,H,I.tok _,⟨_,rfl⟩,q⟩
theorem V0.or{f:e8}{r r':List V->Hp->VK->Prop}(h:V0 X f r)(h':V0 X f r'):V0 X f (λxs H Q=>r xs H Q\/r' xs H Q):=by
 intro pins s σ H xs us Q I rs q;rcases q with q|q
 . exact h pins s σ H xs us Q I rs q
 . exact h' pins s σ H xs us Q I rs q
theorem Bo:V0 X (.type "list") (λxs H Q=>∃p ys,xs=[.ref p]/\(G6 X.K H p ys\/N4 X.K H p ys)/\∀l,H l=none->Q (.ref l) (upd H l (.lst ys))):=by
 intro pins s σ H xs us Q I r h;obtain⟨p,ys,rfl,hq,q⟩:=h;obtain⟨u,rfl,rx⟩:=vals1 r;cases rx;have fin:∀(its:List e8),Vals ys its->ys.length<=B9->∀(h':Heap) (c':Nat),(∀b o',s.heap.get? b=some o'->h'.get? b=some o') ->
   h'.get? s.heap.objs.size=some {cls:=.type "list",dict:=none,data:=.seq its.toArray c',slots:=#[]}->EP X pins σ Q (.ref s.heap.objs.size) {s with heap:=h'}:=λits r' hz h' c' kp e =>
  ⟨.ref s.heap.objs.size,_,I.laid (t':=s.toks) kp (o3 _) (show X6 X.prog X.w _ h' _ (.lst ys)from⟨hz,its,c',r',e⟩),rfl,q _ (I.B6.fresh (o3 _))⟩
 rcases hq with hq|hq
 . obtain⟨its,r',pl,hz⟩:=I.list hq;have hlen:=r'.length;obtain⟨o,ho,hc,n,hd⟩:=pl.isList;exact call_list_seq p (.inl rfl) ho hc hd (λh' c' kp e=>fin its r' hz h' c' kp e) (by simp only[P6]<;>lia)
 . obtain⟨its,r',pl,hz⟩:=I.tuple hq;have hlen:=r'.length;obtain⟨o,ho,hc,n,hd⟩:=pl;exact call_list_seq p (.inr rfl) ho hc hd (λh' c' kp e=>fin its r' hz h' c' kp e) (by simp only[P6]<;>lia)
theorem za:V0 X (.type "tuple") (λxs H Q=>∃p ys,xs=[.ref p]/\((G6 X.K H p ys/\∀l,H l=none->Q (.ref l) (upd H l (.tup ys)))\/(N4 X.K H p ys/\Q (.ref p) H))):=by
 intro pins s σ H xs us Q I r h;obtain⟨p,ys,rfl,h⟩:=h;obtain⟨u,rfl,rx⟩:=vals1 r;cases rx;rcases h with ⟨hq,q⟩|⟨hq,q⟩
 . obtain⟨its,r',pl,hz⟩:=I.list hq;have hlen:=r'.length;refine call_tuple_list pl.isList (λh' kp=>?_) (by simp only[P6]<;>lia)
   have I1:Inv X pins σ H {s with heap:=h'}:=I.kept (t':=s.toks) kp
   have I2:Inv X pins σ (upd H h'.objs.size (.tup ys)) {s with heap:=h'.push {cls:=.type "tuple",data:=.seq its.toArray}} :=
    I1.laid (t':=s.toks) (λb o e=>E7 _ e) (o3 _) (show X6 X.prog X.w _ _ _ (.tup ys)from⟨hz,its,r',Bz _ _⟩)
   exact⟨.ref h'.objs.size,_,I2,rfl,q _ (I1.B6.fresh (o3 _))⟩
 . obtain⟨its,r',pl,hz⟩:=I.tuple hq;exact call_tuple_same pl ⟨.ref p,H,I,rfl,q⟩
def Xy(K:i9)(T:String)(x:V)(H:Hp):Prop:=match x with
 | .str _=>T = "str"
 | .int _=>T = "int"
 | .ref p=>(T = "list"/\∃xs,G6 K H p xs)\/(T = "tuple"/\∃o,K.lookup p=some o/\o.cls=.type "tuple"/\o.dict=none) \/
   (T = "dict"/\((∃kvs,H p=some (.dK kvs))\/∃kvs,H p=some (.dT kvs)))\/(T = "set"/\∃S n,H p=some (.set S n))
 |_=>False
theorem TR{s:i5}{T:String}{x:V}(I:Inv X pins σ H s)(r:RelV x v)(ty:Xy X.K T x H):
  s.TypeIs v T/\∀a,v=.ref a->∃ob,s.heap.get? a=some ob/\ob.dict=none:=by
 cases x with
 |str z =>
  obtain⟨t,rfl⟩:=r;cases(show T = "str" from ty)
  exact⟨typeIs_str s z t,λ_ e=>nomatch e⟩
 |int i =>
  obtain⟨t,rfl⟩:=r;cases(show T = "int" from ty)
  exact⟨typeIs_int s i t,λ_ e=>nomatch e⟩
 |ref p =>
  cases r;rcases ty with ⟨rfl,xs,hq⟩|⟨rfl,o,hk,hc,hd⟩|⟨rfl,hk⟩|⟨rfl,S,n,hk⟩
  . obtain⟨its,_,pl,_⟩:=I.list hq;refine⟨pl.isList.typeIs,λa e=>?_⟩
    cases e;obtain⟨o,n,e,c,hd,_⟩:=pl;exact⟨o,e,hd⟩
  . refine⟨⟨o,I.dZ p o hk,hc⟩,λa e=>?_⟩
    cases e;exact⟨o,I.dZ _ o hk,hd⟩
  . have z:∃o,s.heap.get? p=some o/\o.ExactDict:=by
      rcases hk with ⟨kvs,hk⟩|⟨kvs,hk⟩
      . obtain⟨_,_,_,_,o,_,_,e,ex,_⟩:=I.B6 p _ hk;exact⟨o,e,ex⟩
      . obtain⟨_,_,_,_,o,_,_,e,ex,_⟩:=I.B6 p _ hk;exact⟨o,e,ex⟩
    obtain⟨o,e,ex⟩:=z;refine⟨⟨o,e,ex.1⟩,λa e2=>?_⟩
    cases e2;exact⟨o,e,ex.2.1⟩
  . obtain⟨o,_,_,_,e,ex,_⟩:=I.B6 p _ hk;refine⟨⟨o,e,ex.1⟩,λa e2=>?_⟩
    cases e2;exact⟨o,e,ex.2.1⟩
 |_=>exact br ty
def Qg(K:i9)(T:String)(r:V->List V->Hp->VK->Prop)(to:TE)(t:TA):TE:=λσ H Q=>to σ H λx H1=>Xy K T x H1/\t σ H1 λxs H2=>r x xs H2 Q
variable{o e:Expr}{es:List Expr}{to:TE}{t:TA}{name:Str}{apos cpos:Pos}{T id:String}{r:V->List V->Hp->VK->Prop}
theorem Gv(pa:PlainAttrs T)(slot:Slot T name id)(hty:typeOf (.builtin id)=pure (.type "method_descriptor"))(hm:WA X id r)(ho:PE X o to)(ha:PA X (e::es) t)
  (hbase:aZ o name X.env (eval o X.env)=eval o X.env:=by rfl)
  (hfew:((C9 cpos (j6 (e::es) X.env)).all (λx=>!x.1)&&(bq cpos (dH [] X.env)).all (λx=>x.1.isSome)
   && decide ((e::es).length+([]:List bp).length+(if ([]:List bp).isEmpty then 0 else 1)<30))=true:=by rfl)
  (hline:(apos.endLine==cpos.line)=true:=by rfl) (hs:j6 (e::es) X.env=(false,eval e X.env)::j6 es X.env:=by rfl) (hplain:(C9 cpos (j6 es X.env)).any (·.1)=false:=by rfl) :
  PE X (.Call (.Attribute o name apos) (e::es) [] cpos) (Qg X.K T r to t):=by
 intro pins s σ H Q I h;refine wpAny_Call_method_late hbase hfew hline rfl (C5 (ho pins s σ H _ I h) λv s1 ⟨x,H1,I1,r1,ty,q1⟩=>?_)
 obtain⟨h1,h2⟩:=TR I1 r1 ty;refine⟨T,id,pa,slot,hty,h1,h2,?_⟩;have hA:=ha cpos pins s1 σ H1 _ I1 q1;rw[hs]at hA ⊢;refine Calls.callWith_builtin (by show(false||(C9 cpos (j6 es X.env)).any (·.1))=false;rw[hplain]<;>rfl) (Calls.evalArgs_plain ?_)
 exact C5 hA λus s2 ⟨vs,H2,I2,r2,q2⟩=>hm pins s2 σ H2 x vs v us Q I2 r1 r2 q2
/- xs.append(e),list.index on a module's tuple .. are WA facts of 06m -/
end
end
section
variable{its its':List e8}{t':Nat}
def YF(X:Cx)(id:String)(r:V->List V->Hp->VK->Prop):Prop :=
 ∀(pins:List (Addr×Obj)) (s:i5) (σ:St) (H:Hp) (x:V) (xs:List V) (v:e8) (us:List e8) (Q:VK),Inv X pins σ H s->RelV x v->Vals xs us->r x xs H Q ->
  wpAny (model X.prog X.w) X.A (call (.builtin id) (v::us)) (EP X pins σ Q) X.xe s
theorem Vals.one:∀{x:V} {us:List e8},Vals [x] us->∃u,us=[u]/\RelV x u
 |_,_,.cons r .nil=>⟨_,rfl,r⟩
section
variable{X:Cx}{pins:List (Addr×Obj)}{σ:St}{H:Hp}{s:i5}{l b:Addr}{xs ys zs:List V}
theorem Inv.Yi{its its':List e8}{n:Nat}{f:Array e8->Array e8}{t':Nat}(I:Inv X pins σ H s)(hH:H l=some (.lst xs))
  (e:s.heap.get? l=some {cls:=.type "list",data:=.seq its.toArray n}) (hf:f its.toArray=its'.toArray) (hv:Vals ys its') (hz:ys.length<=B9) :
  Inv X pins σ (upd H l (.lst ys)) {s with heap:=s.heap.update l (cS f),toks:=t'}:=by
 have q:=PySem.IsL.update e f;rw[hf]at q;refine I.write (x:=l) (e:=l) (by rw[hH];exact trivial) (.inl rfl) (λb' u hb hu=>(LU s.heap (cS f) (gJ hb)).trans hu) ⟨_,q⟩ ?_
 exact⟨hz,its',_,hv,q⟩
theorem Inv.VJ{t':Nat}(I:Inv X pins σ H s)(hv:Vals ys its)(hz:ys.length<=B9):
  Inv X pins σ (upd H s.heap.objs.size (.lst ys)) {s with heap:=s.heap.push {cls:=.type "list",data:=.seq its.toArray},toks:=t'} :=
 I.laid (λ_ _ q=>E7 _ q) (o3 _) ⟨hz,its,0,hv,U8 _ rfl⟩
theorem Inv.fresh(I:Inv X pins σ H s):H s.heap.objs.size=none:=I.B6.fresh (o3 _)
theorem Inv.Yh(I:Inv X pins σ H s)(hH:H l=some (.lst xs)):xs.length<=B9/\∃(its:List e8) (n:Nat),Vals xs its/\xs.length=its.length/\s.heap.get? l=some {cls:=.type "list",data:=.seq its.toArray n}:=by obtain⟨z,its,n,r,e⟩:=I.B6 l _ hH;exact⟨z,its,n,r,r.length,e⟩
end
section
variable{X:Cx}
def wY:V->List V->Hp->VK->Prop:=λx vs H Q=>∃l xs y,x=.ref l/\vs=[y]/\H l=some (.lst xs)/\xs.length<B9/\Q .non (upd H l (.lst (xs++[y])))
theorem yi:YF X "list.append" wY:=by
 intro pins s σ H x vs v us Q I rx rv h;obtain⟨l,xs,y,rfl,rfl,hH,hz,q⟩:=h;cases rx;obtain⟨u,rfl,ru⟩:=rv.one;obtain⟨z,its,n,r,hl,e⟩:=I.Yh hH;refine vB F.slot_list_append ⟨_,e,rfl⟩ F.entry_list_append (F.args_list_append_2 _ _) (PySem.list_append l its.toArray n u (by rw[P6];lia)) ⟨e,?_⟩
 refine⟨.non,_,I.Yi (its':=its++[u]) hH e (by simp) (r.append (.cons ru .nil)) ?_,rfl,q⟩
 rw[iU,CH];lia
end
section
variable{prog:A6}{w:t7}{A:A5}{E:e8->i5->Prop}{s:i5}
end
section
variable{X:Cx}
end
end
end L2
namespace Att
open PySem PySem.W PySem.Calls PyProof.Rows
theorem uV{P:Params}{h:Heap}:∀(ns:List Int) (vs:List e8),WellAll P h vs (ns.map WData.int)->Q8 vs ns:=by
 intro ns;induction ns with
 |nil =>
  intro vs w;rw[N8]at w;cases w;exact .nil
 |cons n ns ih =>
  intro vs w;rw[o6]at w;cases w with
  |cons a b =>
   cases a;exact .cons _ _ (ih _ b)
theorem Iw{l:OpenLaw}{n:Nat}(hn:l.most=some n){P:Params}{h:Heap}{args:List WData}{vals:List e8}
  (hpre:l.row.toRowW.claim.pre args=true) (hwl:WellAll P h vals args) :
  ∃a vs ns,vals=[aA a]/\args=[WData.list (ns.map WData.int)]/\h.get? a=some {cls:=.type "list",data:=.seq vs.toArray}/\Q8 vs ns/\ns.length<=n:=by
 have hsh:WShape.hasAll [] args [.list .int]=true:=(pre_splitW hpre).1;have hc:l.pre.holds [] {args:=args}=true:=(pre_splitW hpre).2;obtain⟨d,r,rfl,h1,h2⟩:=hasAllW_cons hsh;obtain rfl:=hasAllW_nil h2;obtain⟨xs,rfl,h3⟩:=hasW_list h1;obtain⟨ns,rfl⟩:=items_int h3;have hlen:ns.length<=n:=by
  delta OpenLaw.pre at hc;have h4:(WTm.not (.lt (.lit (.int (n:Int))) (.len (.arg 0)))).holds [] {args:=[.list (ns.map .int)]}=true:=by have h4:=(holds_andW hc).1;rw[hn]at h4;exact h4
  have h5:=condW_of h4 (w_not (w_lt w_lit (w_len_list (w_arg rfl))));rw[N9]at h5;refine Ll λq=>?_
  have q':(n:Int)<((ns.length:Nat):Int):=by lia
  first
   |(rw[decide_eq_true q']at h5;exact absurd h5 (by decide))
   |(simp at h5;lia)
 cases hwl with
 |cons w1 w2 =>
  cases w2;cases w1 with
  |list ho hall=>exact⟨_,_,ns,rfl,rfl,ho,uV ns _ hall,hlen⟩
theorem IU(l:OpenLaw)(args:List WData):l.row.toRowW.claim.post args (.bool true) args=true :=
 postW_of (r:=l.row.toRowW) (X:=(true==true))
  (show WShape.has [] (.bool true) .bool=true by first|rfl|decide|simp[WShape.has,WShape.arms,WShape.armsAll])
  (show(WTm.eq .res (.lit (.bool true))).value [] {args:=args,res:=some (.bool true),after:=args}=some (.bool (true==true))from w_eq_bool (w_res rfl) w_lit) rfl
theorem DL{l:OpenLaw}{n:Nat}{q:A6}{loose:List Str}{XP:(Str->Option e8)->Heap->Prop}{YP:t7->Heap->Prop}{d:DefRec}
  (hn:l.most=some n) (hdf:d.params.defaults=[])
  (call:∀(w:t7) (P9 s₁:i5) (mg mb:Str->Option e8) (fa:Addr) (o:Obj) (pm cd doc:e8) (a:Addr) (vs:List e8) (ns:List Int),
   Ground q loose [] XP w P9 mg mb s₁.heap->YP w s₁.heap ->
   s₁.heap.get? fa=some o->o.data=.func (docDef d.name d.params d.body d.scope pm cd doc)->s₁.heap.CodeRec cd d.name->mg d.name=some (.ref fa) ->
   s₁.heap.get? a=some {cls:=.type "list",data:=.seq vs.toArray}->Q8 vs ns->ns.length<=n->s₁.gens = #[] ->
   codeAny (model l.prog w) ju (.call (.ref fa) ⟨[.ref a],[]⟩) (λr s'=>r=.ok (.ret (.bool true))/\OldK s₁.heap s'.heap/\s'.os=s₁.os/\gK s'.gens) s₁) :
  WalkO q loose XP YP l.row.toRowW d [] (λf vs=>BC f vs):=by
 intro w P9 s₁ mg mb G Y fa o pm cd doc dV kV ho hd hcd hD hmg hg args vals as hpre hlay hrd hwl hlo;obtain rfl:dV=.none:=Dflts.none hD hdf;obtain rfl:kV=.none:=Dflts.noKw hD;obtain⟨a,vs,ns,rfl,rfl,hobj,hints,hlen⟩:=Iw hn hpre hwl;refine enter_call (vI (call w P9 s₁ mg mb fa o pm cd doc a vs ns G Y ho (fd_plain hd) hcd hmg hobj hints hlen hg) λr s' hq=>?_)
 obtain⟨rfl,h2,h3,h4⟩:=hq;exact⟨.inl ⟨.bool true,.bool true,[],rfl,λ_=>rfl,.bool true,IU l _,λ_=>⟨List.Pairwise.nil,λ_ hm=>(nomatch hm)⟩⟩,h2,h3,h4⟩
section
variable{prog:A6}{w:t7}{A:A5}{E:e8->i5->Prop}{s:i5}{K:Frag}
end
end Att
namespace L2
open PySem PySem.Spec PyProof.Rows
theorem xR:∀{vs:List e8} {ns:List Int},Q8 vs ns->Vals (ns.map V.int) vs
 |_,_,.nil=>.nil
 |_,_,.cons n t h=>.cons ⟨t,rfl⟩ (xR h)
def PB(H:Hp):Prop:=∀b,H b=none\/∃o xs,H b=some (.bD o (.lst xs))
theorem Oz{P:A6}{w:t7}{K:i9}{mg mb:Str->Option e8}{CX:mO}{k:Nat}{fa a:Addr}{fd:M7}{x:Str}{sp:Sp}{s₁:i5}{vs:List e8}{ns:List Int}
  (KX:K.In s₁.heap) (hns:s₁.heap.Ns S9 mg) (hb:s₁.heap.Ns builtinsNs mb) (hbb:∀x:Str,x ≠ "__name__"->mb x=cX x) (hlim:s₁.heap.NoLimit) (hg:s₁.gens = #[])
  (ha:s₁.heap.get? a=some {cls:=.type "list",data:=.seq vs.toArray}) (hi:Q8 vs ns) (hl:ns.length<=B9) (hr:G7 k ju)
  (F:∀base:Heap,K.In base->base.Ns S9 mg->Y0 P w K mg base CX k fa fd [x] sp) (hbind:∀(s:i5) (u:e8),lE s fd ⟨[u],[]⟩ [(x,u)])
  (hsp:∀H:Hp,PB H->G6 K H a (ns.map V.int)->sp [.ref a] H (λv _=>v=.bl true) λ_ _ _=>False)
  (hCX:∀H e s',CX [] H s₁ (λ_ _ _=>False) e s'->False) :
  codeAny (model P w) ju (.call (.ref fa) ⟨[.ref a],[]⟩) (λr s'=>r=.ok (.ret (.bool true))/\OldK s₁.heap s'.heap/\s'.os=s₁.os/\gK s'.gens) s₁:=by
 have rv:=xR hi;have lenV:=hi.length;have core:∀H:Hp,PB H->G6 K H a (ns.map V.int)->cu P w H s₁.heap->(∀b,H b≠none->b=a)->(H a≠none->K.lookup a=none) ->
   codeAny (model P w) ju (.call (.ref fa) ⟨[.ref a],[]⟩) (λr s'=>r=.ok (.ret (.bool true))/\OldK s₁.heap s'.heap/\s'.os=s₁.os/\gK s'.gens) s₁:=by
  intro H hO hS B6 hA hK;have base_of:∀{b:Addr} {o:Obj},s₁.heap.get? b=some o->H b=none->(oQ s₁.heap H).get? b=some o:=λe n=>OI e n
  have noA:∀{b:Addr} {o:Obj} {es:Array DictEntry} {ep:Nat},s₁.heap.get? b=some o->o.data=.dict es ep->H b=none:=λ{b o es ep} e d=>by
   cases q:H b with
   |none=>rfl
   |some u =>
    have e':b=a:=hA b (by rw[q];simp)
    subst e';rw[ha]at e;cases e;have d':Data.seq vs.toArray _=Data.dict es ep:=d;cases d'
  have nsK:∀{b:Addr} {m:Str->Option e8},s₁.heap.Ns b m->(oQ s₁.heap H).Ns b m:=λ{b m} ⟨o,es,ep,e,d,r⟩=>⟨o,es,ep,base_of e (noA e d),d,r⟩
  have hKb:K.In (oQ s₁.heap H):=λb o e=>base_of (KX b o e) (by
   cases q:H b with
   |none=>rfl
   |some u =>
    have e':b=a:=hA b (by rw[q];simp)
    subst e';rw[hK (by rw[q];simp)]at e;cases e)
  have hM:Mod K mg (oQ s₁.heap H):=⟨hKb,nsK hns,⟨mb,nsK hb,hbb⟩,let ⟨mc,h1,h2⟩:=hlim;⟨mc,nsK h1,h2⟩⟩;have e0:uf P w K mg (oQ s₁.heap H) ju [] s₁ H:=⟨rfl,hM,λb o e=>SH e,vJ (JY _ _),trivial,λb hb=>absurd (show b∈([]:List Addr)from hb) (by simp),B6,.of_eq hg⟩
  refine vI ((F _ hKb (nsK hns)).run ju [] s₁ H ⟨[.ref a],[]⟩ [.ref a] [.ref a] _ _ hr e0 (hbind s₁ (.ref a)) (.cons rfl .nil) (hsp H hO hS)) λr s' h=>?_
  cases r with
  |error e=>exact(hCX H e s' h).elim
  |ok fl =>
   cases fl with
   |next=>exact br h
   |brk=>exact br h
   |cont=>exact br h
   |ret u =>
    obtain⟨v,H',os,bare,un,hok',r',q⟩:=h;have q':v=.bl true:=q;subst q';obtain rfl:u=lG true:=r';refine⟨rfl,OldK.of_keep λb o e=>?_,os,bare⟩
    cases q:H b with
    |none=>exact un.keep b o e q (by intro z;exact absurd (show b∈([]:List Addr)from z) (by simp)) (by simp)
    |some u =>
     rcases hO b with z|⟨ob,xs,z⟩
     . rw[q]at z;cases z
     . have z2:=un.oS b ob _ z;obtain⟨e1,_⟩:=B6 b _ z;obtain⟨e2,_⟩:=hok' b _ z2;rw[e]at e1;cases e1;exact e2
 cases hk:K.lookup a with
 |some o =>
  have e:=KX a o hk;rw[ha]at e;cases e;refine core (λ_=>none) (λ_=>.inl rfl) (.inr ⟨_,vs.toArray,_,hk,rfl,rfl,rfl,by rw[P6,lenV];exact hl,by simpa using rv⟩) (λb u z=>by have z':(none:Option HO)=some u:=z;cases z') (λb z=>absurd rfl z) λz=>absurd rfl z
 |none =>
  refine core (λb=>if b=a then some (.bD {cls:=.type "list",data:=.seq vs.toArray} (.lst (ns.map V.int)))else none) (λb=>?_) (.inl (.inr ⟨{cls:=.type "list",data:=.seq vs.toArray},c7 rfl⟩)) (λb u z=>?_) (λb z=>?_) λ_=>hk
  . by_cases hb:b=a
    . exact .inr ⟨_,_,c7 hb⟩
    . exact .inl (e9 hb)
  . by_cases hb:b=a
    . have z':=(c7 hb).symm.trans z;cases z';subst hb;exact⟨ha,by rw[N9];exact hl,vs,_,rv,ha⟩
    . have z':=(e9 hb).symm.trans z;cases z'
  . by_cases hb:b=a
    . exact hb
    . exact absurd (e9 hb) z
abbrev XR{K:i9}{h:Heap}(_:K.In h):i9:=K
theorem DR{l:Ce}{n k:Nat}{q:A6}{loose:List Str}{XP:(Str->Option e8)->Heap->Prop}{YP:t7->Heap->Prop}{d:DefRec}{K:Params->i9}{CX:t7->mO}{sp:t7->Sp}{x:Str}
  (hn:l.most=some n) (hn2:n<=B9) (hdf:d.params.defaults=[]) (hr:G7 k ju)
  (hY:∀(w:t7) (h:Heap),YP w h->(K w.params).In h)
  (F:∀(w:t7) (mg:Str->Option e8) (fa:Addr) (h:Heap),(K w.params).In h->h.Ns S9 mg->mg d.name=some (.ref fa) ->
   ∃fd:M7,(∀(s:i5) (u:e8),lE s fd ⟨[u],[]⟩ [(x,u)]) /\
    ∀base:Heap,(K w.params).In base->base.Ns S9 mg->Y0 l.prog w (K w.params) mg base (CX w) k fa fd [x] (sp w))
  (hsp:∀(w:t7) (H:Hp) (a:Addr) (ns:List Int),ns.length<=n->PB H->G6 (K w.params) H a (ns.map V.int)->sp w [.ref a] H (λv _=>v=.bl true) λ_ _ _=>False)
  (hCX:∀(w:t7) (H:Hp) (s:i5) (e:e8) (s':i5),CX w [] H s (λ_ _ _=>False) e s'->False) :
  PySem.W.WalkO q loose XP YP l.row.toRowW d [] (λf vs=>BC f vs):=by
 refine Att.DL hn hdf λw P9 s₁ mg mb fa o pm cd doc a vs ns G Y ho hd hcd hmg hobj hints hlen hg=>?_
 have KX:=hY w _ Y;obtain⟨fd,hb,hF⟩:=F w mg fa _ KX G.T.g hmg;exact Oz KX G.T.g G.T.b G.T.builtins G.T.nolimit hg hobj hints (P5 hlen hn2) hr hF hb (λH hO hS=>hsp w H a ns hlen hO hS) λH e s'=>hCX w H s₁ e s'
end L2
/- THE LAST THEOREM (shape; LID, My.* are yours):
   My.Adr: a structure of the addresses that your layer names (classes,functions);My.Txt K t: a structure (Prop) of the equations over K;
   My.txt_mk:{K} {implicit addresses ..} (e1:nsIn K S9 "law" = some (some (.ref f))) (e2:K.lookup f=some ⟨oc,od,.func (fnOf "law" "law" params body scope dV kV doc pm an cdv ct),sl⟩) (e3:codeIn K cdv "law" = true) .. : ∃t,My.Txt K t
set_option maxRecDepth 100000 in
set_option maxHeartbeats 0 in
theorem PySem.Challenge.cw_LID_holds : PySem.Challenge.rw_LID.Holds := by
 w_on;o_law;k_head;(case hw=>w_witness2)
 k_fill
 refine L2.DR (l:=PySem.Challenge.rw_LID) (n:=63) (k:=40) (x:="script") (CX:=λw=>..) (sp:=λ_=>My.sp_law) rfl (by decide) rfl ⟨rfl,by decide,by decide⟩ (λw h Y=>PySem.W.kIn_of Y) ?F ?S ?C
 case F =>
  intro w mg fa h KX G hmg;have T:∃t,My.Txt (L2.XR KX) t:=by
   dsimp only[L2.XR]                          -- K must stand as «<heap const> w.params» for k_is
   refine' My.txt_mk ?e1 ?e2 ?e3 ..
   (case e1=>PySem.W.k_is)                    -- in the order: a name->its address->its object->its parts
   (case e2=>PySem.W.k_is)
   ..
  obtain⟨t,T⟩:=T;have e0:=hmg.symm.trans (vN KX G T.law);cases e0                                       -- fa is the law's own address
  exact⟨_,λs u=>.of_eq rfl,λbase kb nb=>My.law_fn T kb nb⟩     -- if «.of_eq rfl» comes too early: refine'⟨_,?b,λbase kb nb=>My.law_fn T kb nb⟩;exact λs u=>.of_eq rfl
 case S=>exact λw H a ns hl hO hS=>..
 case C=>exact ..
(the tactic k_is has no namespace: write k_is) -/
namespace L2
open PySem PySem.Spec PyProof.Rows
section
variable{qual:Str}{st:Stmt}{f a:Addr}{fd:M7}{N ps:List Str}{oc doc pm cdv ct:e8}{H H1 H2 H':Hp}
def inClass(s:Stmt)(j:Nat):Stmt:=match s with
 | .ClassDef _ _ _ body _ _ _ _ _ _ _=>body.getD j (.Pass ⟨0,0,0,0⟩)
 |_=>.Pass ⟨0,0,0,0⟩
def iG(s:Stmt):Arguments:=match s with
 | .FunctionDef _ a _ _ _ _ _ _ _ _=>a
 |_=>{posonlyargs:=[],args:=[],vararg:=none,kwonlyargs:=[],kw_defaults:=[],kwarg:=none,defaults:=[]}
def aw(s:Stmt):List Stmt:=match s with
 | .FunctionDef _ _ b _ _ _ _ _ _ _=>b
 |_=>[]
def D8(s:Stmt):ag:=match s with
 | .FunctionDef _ _ _ _ _ _ sc _ _ _=>sc
 |_=>{kind:=.function,names:=[],isGenerator:=false,isCoroutine:=false}
abbrev om:mO:=λ_ _ _ _ _ _=>False
abbrev E0:XK:=λ_ _ _=>False
theorem dg{X:Cx}:Passes om X E0:=λ_ _ _ _ _ _ _ h=>h.elim
structure rz(K:i9)(x qual:Str)(st:Stmt)(f:Addr)(fd:M7):Prop where
 ex:∃(oc:e8) (od:Option Addr) (kV doc pm:e8) (an:Option Addr) (cdv ct:e8) (osl:Array (Option e8)),
  fd=gO x qual (iG st) (aw st) (D8 st) .none kV doc pm an cdv ct/\K.lookup f=some ⟨oc,od,.func fd,osl⟩/\vP K cdv qual=true
 kp:iR K (.ref f)=true
section
variable{P:A6}{w:t7}{K:i9}{mg:Str->Option e8}{base:Heap}
theorem rz.ok{x:Str}{k:Nat}{sp:Sp}(F:rz K x qual st f fd)(S:iI N ps (D8 st))(len:∀vs H Q E,sp vs H Q E->vs.length=ps.length)
  (hbody:∀(cdv:e8) (A:A5) (outer:List Env) (s:i5) (H:Hp) (vs:List V) (Q:VK) (E:XK),G7 k (A.deeper (cR qual (D8 st) s.heap.objs.size f cdv))->sp vs H Q E ->
   ∃t,mL (lz om P w K mg base N qual (D8 st) f cdv A outer s H E).uH (aw st) t/\t {nx:=λ_ H'=>Q .non H',rt:=Q} (start N vs) H):Y0 P w K mg base om (k+1) f fd ps sp:=by
 obtain⟨oc,od,kV,doc,pm,an,cdv,ct,osl,rfl,lk,hcd⟩:=F.ex;refine Xo lk hcd S len λA outer s H vs Q E hr hsp=>?_
 obtain⟨t,h,q⟩:=hbody cdv A outer s H vs Q E hr hsp;exact⟨t,h.uH,q⟩
theorem rz.binds{x:Str}(F:rz K x qual st f fd)
  (h:∀(kV doc pm:e8) (an:Option Addr) (cdv ct:e8) (us:List e8),us.length=ps.length->bindArgs (gO x qual (iG st) (aw st) (D8 st) .none kV doc pm an cdv ct) ⟨us,[]⟩=pure (ps.zip us)):Binds K fd ps []:=by obtain⟨oc,od,kV,doc,pm,an,cdv,ct,osl,rfl,lk,hcd⟩:=F.ex;exact .all (h kV doc pm an cdv ct)
theorem Wg{x:Str}{od an:Option Addr}{osl:Array (Option e8)}{kV:e8}(l:K.lookup f=some ⟨oc,od,.func (gO x qual (iG st) (aw st) (D8 st) .none kV doc pm an cdv ct),osl⟩)
  (c:vP K cdv qual=true) (k:iR K (.ref f)=true):rz K x qual st f (gO x qual (iG st) (aw st) (D8 st) .none kV doc pm an cdv ct):=⟨⟨oc,od,kV,doc,pm,an,cdv,ct,osl,rfl,l,c⟩,k⟩
end
section
variable{X:Cx}
theorem pv(i:Nat){x:Str}{pos:Pos}(hN:X.N[i]? = some x:=by rfl)(hv:QW X.env.scope x:=by first|exact Or.inl rfl|exact Or.inr (Or.inl rfl)|exact Or.inr (Or.inr rfl))(hd:(x==("__debug__" : Str))=false:=by decide)
  (hcd:(x==("__classdict__" : Str))=false:=by decide):PE X (.Name x pos) (O2 i):=Vg hN hv hd hcd
end
def i8(H H':Hp):Prop:=∀b o,H b=some o->H' b=some o
theorem i8.refl(H:Hp):i8 H H:=λ_ _ h=>h
theorem i8.trans(a:i8 H H1)(b:i8 H1 H2):i8 H H2:=λc o h=>b c o (a c o h)
theorem i8.free(e:i8 H H'){l:Addr}(h:H' l=Option.none):H l=Option.none:=by
 cases q:H l with
 |none=>rfl
 |some o =>
  rw[e l o q]at h;cases h
theorem i8.seq{K:i9}{xs:List V}(e:i8 H H')(h:G6 K H a xs):G6 K H' a xs:=by
 rcases h with (h|⟨o,h⟩)|h
 . exact .inl (.inl (e _ _ h))
 . exact .inl (.inr ⟨o,e _ _ h⟩)
 . exact .inr h
end
section
variable{κ:Type}[DecidableEq κ]
theorem KV.length{kvs:List (κ×V)}{vs:List (κ×e8)}(r:KV kvs vs):kvs.length=vs.length:=Paired.length r
end
abbrev KT(H:Hp):List (List Key×V)->List (List Key×Addr×e8)->Prop:=Paired λp q=>p.1=q.1/\H q.2.1=some (.tup (p.1.map kV))/\RelV p.2 q.2.2
section
variable{P:A6}{w:t7}{H:Hp}{h:Heap}{a:Addr}
end
section
variable{X:Cx}{pins:List (Addr×Obj)}{σ:St}{H:Hp}{s:i5}{a:Addr}{y v:V}{u r:e8}{o:Option V}{A:A5}{E:e8->i5->Prop}
end
section
variable{X:Cx}{pins:List (Addr×Obj)}{σ:St}{H:Hp}{s:i5}{a:Addr}{kvs:List (Key×V)}{k:Key}{u:e8}{A:A5}{E:e8->i5->Prop}
end
section
variable{X:Cx}{o i e value:Expr}{pos pos' tpos:Pos}{td ty tv:TE}
end
section
variable{X:Cx}{pos:Pos}
end
structure M1(X:Cx)(o:Expr)(m:Str)(apos:Pos)(e:Expr)(cpos:Pos):Prop where
 base:aZ o m X.env (eval o X.env)=eval o X.env
 QJ:((C9 cpos (j6 [e] X.env)).all (λx=>!x.1)&&(bq cpos (dH [] X.env)).all (λx=>x.1.isSome)
  && decide (([e]:List Expr).length+([]:List bp).length+(if ([]:List bp).isEmpty then 0 else 1)<30))=true
 line:(apos.endLine==cpos.line)=true
 trees:C9 cpos (j6 [e] X.env)=[(false,eval e X.env)]
structure M2(X:Cx)(o:Expr)(m:Str)(apos:Pos)(e f:Expr)(cpos:Pos):Prop where
 base:aZ o m X.env (eval o X.env)=eval o X.env
 QJ:((C9 cpos (j6 [e,f] X.env)).all (λx=>!x.1)&&(bq cpos (dH [] X.env)).all (λx=>x.1.isSome)
  && decide (([e,f]:List Expr).length+([]:List bp).length+(if ([]:List bp).isEmpty then 0 else 1)<30))=true
 line:(apos.endLine==cpos.line)=true
 trees:C9 cpos (j6 [e,f] X.env)=[(false,eval e X.env),(false,eval f X.env)]
section
variable{X:Cx}{pins:List (Addr×Obj)}{σ:St}{H:Hp}{s:i5}{a:Addr}{y d:V}{u r:e8}{o:Option V}{A:A5}{E:e8->i5->Prop}
end
section
variable{X:Cx}{o e f:Expr}{apos cpos:Pos}{td ty tx:TE}
end
section
variable{X:Cx}{pins:List (Addr×Obj)}{σ:St}{H:Hp}{s:i5}{a:Addr}{kvs:List (Key×V)}{A:A5}{E:e8->i5->Prop}
end
section
variable{X:Cx}{pins:List (Addr×Obj)}{σ:St}{H:Hp}{s:i5}{a:Addr}{y:V}{u:e8}{A:A5}{E:e8->i5->Prop}
end
section
variable{scope:ag}{env:Env}{X:Cx}{elt target iter tg:Expr}{ifs:List Expr}{it acc u:e8}{wi:TI}{g:TG}{tt:TT}{te:TE}
theorem oZ(env:Env):∀(names:List (Str×jv)) (acc:List (Str×Addr)),(∀y∈names,y.2=.free->∃c,env.cells.lookup y.1=some c)->(∀x c,acc.lookup x=some c->env.cells.lookup x=some c) ->
  ∃cl,(forIn names acc λy (cs:List (Str×Addr))=>if (y.2==.free)=true then(do let c <- cellOf env y.1;pure (jE ((y.1,c)::cs)))else pure (jE cs):Sem (List (Str×Addr)))=pure cl /\
   (∀x c,cl.lookup x=some c->env.cells.lookup x=some c)/\(∀y∈names,y.2=.free->(cl.lookup y.1).isSome=true)/\(∀x,(acc.lookup x).isSome=true->(cl.lookup x).isSome=true)
 | [],acc,_,ha=>⟨acc,by simp only[BZ],ha,(λ_ h=>nomatch h),(λ_ h=>h)⟩
 |(n,k)::r,acc,h,ha=>by
  have hr:∀y∈r,y.2=.free->∃c,env.cells.lookup y.1=some c:=λy hy=>h y (C4 _ hy)
  by_cases hk:k=.free
  . subst hk;obtain⟨c,hc⟩:=h (n,.free) A2 rfl;have ha':∀x c',((n,c)::acc).lookup x=some c'->env.cells.lookup x=some c':=λx c' e=>by
     rw[lS]at e;cases hx:x==n with
     |true =>
      rw[hx]at e;cases e;rw[vA hx];exact hc
     |false =>
      rw[hx]at e;exact ha x c' e
    obtain⟨cl,e1,e2,e3,e4⟩:=oZ env r ((n,c)::acc) hr ha';have up:∀x,(((n,c)::acc).lookup x).isSome=true->(cl.lookup x).isSome=true:=e4;refine⟨cl,?_,e2,λy hy hf=>?_,λx hx=>up x ?_⟩
    . rw[vY];have ec:cellOf env n=pure c:=by delta cellOf;rw[hc]
      simp only[beq_self_eq_true,A9,ec];exact e1
    . rcases List.mem_cons.mp hy with rfl|hy
      . exact up n (by rw[lS];simp)
      . exact e3 y hy hf
    . rw[lS];cases x==n<;>simp[hx]
  . obtain⟨cl,e1,e2,e3,e4⟩:=oZ env r acc hr ha;refine⟨cl,?_,e2,λy hy hf=>?_,e4⟩
    . rw[vY];have hb:(k==dI)=false:=by simpa using hk
      simp only[hb,aG,M6];exact e1
    . rcases List.mem_cons.mp hy with rfl|hy
      . exact absurd hf hk
      . exact e3 y hy hf
theorem HG(h:∀y∈scope.names,y.2=.free->∃c,env.cells.lookup y.1=some c):
  ∃cl,closureFor scope env=pure cl/\(∀x c,cl.lookup x=some c->env.cells.lookup x=some c)/\(∀y∈scope.names,y.2=.free->(cl.lookup y.1).isSome=true):=by
 obtain⟨cl,e1,e2,e3,_⟩:=oZ env scope.names [] h (λx c e=>by simp at e)
 refine⟨cl,?_,e2,e3⟩;show((forIn scope.names [] λy (cs:List (Str×Addr))=>if (y.2==.free)=true then(do let c <- cellOf env y.1;pure (jE ((y.1,c)::cs)))else pure (jE cs):Sem (List (Str×Addr))) >>= pure)=_
 rw[e1];rfl
theorem kW{env:Env}:∀{names:List (Str×jv)} {x:Str},(∀y∈names,y.2≠.cell) ->
  ((names.map λ(n,k)=>if (k==dI&&env.scope.kind==.function&&env.kindOf n==some .cell)then(n,lK)else(n,k)).lookup x=some .cell \/
   (names.map λ(n,k)=>if (k==dI&&env.scope.kind==.function&&env.kindOf n==some .cell)then(n,lK)else(n,k)).lookup x=some .free) ->
  (x,dI)∈names
 | [],_,_,h=>by simp at h
 |(n,k)::r,x,hc,h=>by
  have ih:=@kW env r x (λy hy=>hc y (C4 _ hy))
  have hk:=hc (n,k) A2;by_cases hx:(x==n)=true
  . have e:x=n:=vA hx;subst e;by_cases hf:k=.free
    . subst hf;exact A2
    . exfalso;have hb:(k==dI)=false:=by simpa using hf
      simp only[o6,hb,vS,aG,M6,lS,beq_self_eq_true]at h;rcases h with h|h
      . exact hk (ar h)
      . exact hf (ar h)
  . have hx':(x==n)=false:=by simpa using hx
    refine C4 _ (ih ?_);rw[o6]at h;have hd:∀(k':jv) (l:List (Str×jv)),cU x ((n,k')::l)=cU x l:=λk' l=>by rw[lS,hx']
    by_cases hc2:(k==dI&&env.scope.kind==.function&&env.kindOf n==some .cell)=true
    . have e:(if (k==dI&&env.scope.kind==.function&&env.kindOf n==some .cell)=true then(n,lK)else(n,k))=(n,lK):=c7 hc2
      simp only[e,hd]at h;exact h
    . have e:(if (k==dI&&env.scope.kind==.function&&env.kindOf n==some .cell)=true then(n,lK)else(n,k))=(n,k):=e9 hc2
      simp only[e,hd]at h;exact h
def W4(X:Cx)(bs nb:List Str)(scope:ag)(cl:List (Str×Addr))(C:Addr)(fp:List Addr)(s:i5)(H:Hp)(pins:List (Addr×Obj)):Cx where
 prog:=X.prog
 w:=X.w
 K:=X.K
 mg:=X.mg
 base:=X.base
 A:=X.A
 N:=bs++nb
 P9:=s
 h8:=H
 env:=nL scope cl C X.env
 outer:=X.stack
 stack:=X.stack
 ex:=fp
 fn:=λ_=>false
 calm:=X.calm
 pn:=X.pn++pins
 xe:=λ_ _=>False
structure kE(X:Cx)(bs nb:List Str)(scope:ag):Prop where
 kind:scope.kind=.function
 Af:∀y∈scope.names,y.2≠.cell
 names:∀y∈scope.names,y.2=.local->scope.names.lookup y.1=some .local
 Y7:∀y∈scope.names,y.2=.free->X.env.scope.names.lookup y.1=some .cell\/X.env.scope.names.lookup y.1=some .free
 apart:∀x∈nb,∀y∈scope.names,y.1=x->y.2≠.local
 len:nb.length=X.N.length
 Yw:∀(j:Nat) (x:Str),nb[j]? = some x->X.N[j]? = some x\/∀y∈scope.names,y.1≠x
def gH(N nb:List Str)(fsc sc:ag):Bool :=
 (decide (nb.length=N.length)&&(nb.zip N).all λp=>decide (p.1=p.2)||sc.names.all λy=>!decide (y.1=p.1))&&((decide (sc.kind=.function)&&sc.names.all λy=>!decide (y.2=.cell))&&(sc.names.all λy=>!decide (y.2=.local)||decide (sc.names.lookup y.1=some .local)) &&
  (sc.names.all λy=>!decide (y.2=.free)||(decide (fsc.names.lookup y.1=some .cell)||decide (fsc.names.lookup y.1=some .free)))&&nb.all λx=>sc.names.all λy=>!decide (y.1=x)||!decide (y.2=.local))
theorem Br{bs nb:List Str}(h:gH X.N nb X.env.scope scope=true):kE X bs nb scope:=by
 delta gH at h;simp only[iT,List.all_eq_true,Ld,Ct,nY,pA]at h;obtain⟨⟨h6,h7⟩,⟨⟨⟨h1,h2⟩,h3⟩,h4⟩,h5⟩:=h;refine⟨h1,h2,λy hy e=>?_,λy hy e=>?_,λx hx y hy e1 e2=>?_,h6,λj x hj=>?_⟩
 . rcases h3 y hy with q|q
   . exact absurd e q
   . exact q
 . rcases h4 y hy with q|q
   . exact absurd e q
   . exact q
 . rcases h5 x hx y hy with q|q
   . exact q e1
   . exact q e2
 . have hl:j<nb.length:=(List.getElem?_eq_some_iff.mp hj).1;have hN:X.N[j]? = some (X.N[j]'(by lia)):=J3 _
   have hz:(nb.zip X.N)[j]? = some (x,X.N[j]'(by lia)):=List.getElem?_zip_eq_some.mpr ⟨hj,hN⟩
   rcases h7 _ (rj hz)with q|q
   . left;rw[hN];exact V7 some q.symm
   . right;exact q
section
variable{X:Cx}{bs nb:List Str}{scope:ag}{cl:List (Str×Addr)}{C:Addr}{fp:List Addr}{pins:List (Addr×Obj)}{σ:St}{H:Hp}{s:i5}
theorem Ws(I:Inv X pins σ H s)(B:kE X bs nb scope)(c1:∀x c,cl.lookup x=some c->X.env.cells.lookup x=some c)(c2:∀y∈scope.names,y.2=.free->(cl.lookup y.1).isSome=true)
  (hC:s.heap.objs.size<=C) (hf:∀b∈fp,jT X pins H b) (hlt:∀b∈fp,b<s.heap.objs.size):(W4 X bs nb scope cl C fp s H pins).Ok where
 mod:=I.ok.mod
 kind:=B.kind
 glob:=I.ok.glob
 blt:=I.ok.blt
 above:=hC
 inj:=λx y c h1 h2=>I.ok.inj x y c (c1 x c h1) (c1 y c h2)
 has:=λx hx=>by have hm:=kW (env:=X.env) B.Af hx;exact Option.isSome_iff_exists.mp (c2 (x,.free) hm rfl)
 FH:=λx c h=>absurd h (by intro z;cases z)
 hd:=I.ok.hd
 frames:=I.ok.frames
 Im:=.inl rfl
 Wl:=λb hb=>⟨U7 (O1 (hlt b hb) hC),λx c e=>(hf b hb).2.2.2.2.1 x c (c1 x c e)⟩
 bs:=I.bs
 pL:=P5 I.ok.pL I.sz
 tK:=λb o e hb=>by
  rcases(hf b hb).2.2.2.1 with z|z
  . exact I.ok.tK b o e z
  . exact absurd (O1 (A7 e) (P5 I.ok.pL z)) (aD _)
 xA:=λb hb hs=>by
  rcases List.mem_cons.mp (I.pX b hs)with z|z
  . exact(hf b hb).2.1 z
  . exact(hf b hb).2.2.1 z
 iB:=I.stack
 yA:=I.DY
def dC(bs:List Str)(σ:St):St:=v9 bs.length none++σ
theorem Tj{h':Heap}{t':Nat}{m:Str->Option e8}(I:Inv X pins σ H s)(B:kE X bs nb scope)(c1:∀x c,cl.lookup x=some c->X.env.cells.lookup x=some c)(c2:∀y∈scope.names,y.2=.free->(cl.lookup y.1).isSome=true)
  (hC:s.heap.objs.size<=C) (hf:∀b∈fp,jT X pins H b) (hlt:∀b∈fp,b<s.heap.objs.size)
  (k:∀b u,s.heap.get? b=some u->h'.get? b=some u) (hn:h'.Ns C m):Inv (W4 X bs nb scope cl C fp s H pins) [] (dC bs σ) H {s with heap:=h',toks:=t'}:=by
 refine⟨Ws I B c1 c2 hC hf hlt,rfl,I.bare,Un.kept k,⟨m,hn,λi x v e1 e2 e3=>?_⟩,λx c e=>?_,I.B6.fresh hC,λx c e=>I.gA x c (c1 x c e),λp hp=>?_,I.B6.kept k,?_⟩
 . have e1':(bs++nb)[i]? = some x:=e1;unfold dC at e2;by_cases hi:i<bs.length
   . rw[rp (by simpa using hi),CQ,c7 hi]at e2
     cases e2
   . rw[wL (by simpa using hi),wC]at e2
     rw[wL (by simpa using hi)]at e1'
     have hxN:x∈nb:=rj e1';have hm:(x,dI)∈scope.names:=by
      rcases e3 with e3|e3
      . exfalso;have e3':((scope.names.map λ(n,k)=>if (k==dI&&X.env.scope.kind==.function&&X.env.kindOf n==some .cell)then(n,lK)else(n,k))).lookup x=some .local:=e3
        obtain⟨⟨n,kd⟩,hy,he⟩:=mem_map.mp (lZ e3');by_cases hcc:(kd==dI&&X.env.scope.kind==.function&&X.env.kindOf n==some .cell)=true
        . simp only[hcc,A9]at he;cases he
        . simp only[hcc,M6]at he;cases he;exact B.apart x hxN (x,.local) hy rfl rfl
      . exact kW (env:=X.env) B.Af e3
     have hv:QW X.env.scope x:=.inr (B.Y7 _ hm rfl);have e1':X.N[i-bs.length]? = some x:=(B.Yw _ x e1').resolve_right λz=>z _ hm rfl
     obtain⟨m0,_,hl⟩:=I.loc;obtain⟨u,r,l⟩:=hl _ x v e1' e2 hv;refine⟨u,r,?_⟩;have hkx:(W4 X bs nb scope cl C fp s H pins).env.kindOf x=some .cell\/(W4 X bs nb scope cl C fp s H pins).env.kindOf x=some .free:=by
      rcases e3 with e3|e3
      . exfalso;have e3':((scope.names.map λ(n,k)=>if (k==dI&&X.env.scope.kind==.function&&X.env.kindOf n==some .cell)then(n,lK)else(n,k))).lookup x=some .local:=e3
        obtain⟨⟨n,kd⟩,hy,he⟩:=mem_map.mp (lZ e3');by_cases hcc:(kd==dI&&X.env.scope.kind==.function&&X.env.kindOf n==some .cell)=true
        . simp only[hcc,A9]at he;cases he
        . simp only[hcc,M6]at he;cases he;exact B.apart x hxN (x,.local) hy rfl rfl
      . exact e3
     rcases l with ⟨hk,_⟩|⟨_,c,hc,hcell⟩
     . exfalso;have hk':X.env.scope.names.lookup x=some .local:=hk;rcases B.Y7 _ hm rfl with z|z
       . rw[show X.env.scope.names.lookup x=some .cell from z]at hk';cases hk'
       . rw[show X.env.scope.names.lookup x=some .free from z]at hk';cases hk'
     . obtain⟨c',hc'⟩:=Option.isSome_iff_exists.mp (c2 _ hm rfl);have:c'=c:=ar ((c1 _ _ hc').symm.trans hc);subst this;obtain⟨o,ho,hd⟩:=hcell;exact .inr ⟨hkx,c',hc',o,k _ _ ho,hd⟩
 . obtain⟨v,o,ho,hd⟩:=I.cell x c (c1 x c e);exact⟨v,o,k _ _ ho,hd⟩
 . have hp':p∈X.pn++pins:=by simpa [W4]using hp
   obtain⟨e,n,ne,nf,d⟩:=I.pin p hp';refine⟨k _ _ e,n,U7 (O1 (A7 e) hC),λz=>?_,d⟩
   rcases List.mem_cons.mp (I.pX _ z)with z|z
   . exact ne z
   . exact nf z
 . unfold dC;show _=(bs++nb).length
   rw[iU,iU,wC,I.len,B.len]
theorem Inv.FV{D:Addr}{o:HO}(I:Inv X pins σ H s)(hn:H D=none)(hL:D≠X.env.locals)(h1:D∈X.ex\/X.P9.heap.objs.size<=D)(h2:∀x c,X.env.cells.lookup x=some c->c≠D)(h3:∀p∈X.pn++pins,p.1≠D)
  (new:X6 X.prog X.w (upd H D o) s.heap D o):Inv X pins σ (upd H D o) s:=by
 have hup:∀b u,H b=some u->upd H D o b=some u:=λb u e=>by rw[C3 (X3 e hn)];exact e
 have:=I.step (H':=upd H D o) (h':=s.heap) (g':=s.gens) (d':=s.drawn) (t':=s.toks) (ch:=[D]) (λb hb=>?_) (λb ob _ _ _ e _=>e) (λb ob _ _ _ e _=>⟨ob.slots,e⟩) (λb ob hc e n=>?_) (λb ob _ e=>⟨ob,e⟩)
  (λb xs e=>hup b _ e) (λb ob u e=>hup b _ e) (λb ps e=>⟨#[],by rw[hup b _ e];simp⟩) (λm hm=>hm) (λb u e=>?_) I.bare
 . exact this
 . have e:b=D:=by simpa using hb
   subst e;exact⟨h1,hL,h2,h3⟩
 . rw[C3 (by simpa using hc)];exact n
 . by_cases hb:b=D
   . subst hb;rw[M3]at e;cases e;exact new
   . rw[C3 hb]at e;exact(I.B6 b u e).pY (λ_ _ _ q=>q) (λc q=>hup c _ q) λc xs q=>hup c _ q
end
def ud(X:Cx)(ifs:List Expr)(t:TT):Prop :=
 ∀(pins:List (Addr×Obj)) (s:i5) (σ:St) (H:Hp) (Q:Bool->Hp->Prop) (E:e8->i5->Prop),(∀e s',X.xe e s'->E e s')->Inv X pins σ H s->t σ H Q ->
  wpAny (model X.prog X.w) X.A (forIn ifs true λc r=>if r=true then do let ok <- isTrue c X.env (eval c X.env);pure (jE ok)else pure (jE r)) (TP X pins σ Q) E s
def Qf:TT:=λ_ H Q=>Q true H
theorem NK:ud X [] Qf:=λ_ _ _ H _ _ _ I h=>wpAny_tests_nil ⟨H,I,h⟩
theorem NJ{c:Expr}{t:TT}(h:PT X c t):ud X [c] t:=λpins s σ H Q E hE I q=>wpAny_tests_one (ck (h pins s σ H Q I q) (λ_ _ z=>z) hE)
section
variable{prog:A6}{w:t7}{A:A5}{R:Result->i5->Prop}{s:i5}
theorem DK{pos:Pos}(I:Nat->i5->Prop)
  (turn:∀n s,I n s->wpAny (model prog w) A (jq it) (λr s₁=>match r with
   |none=>R (.ok .next) s₁
   |some v=>wpAny (model prog w) A (vZ target it v) (λ_ P9=>wpAny (model prog w) A (assign target env v) (λ_ s₂ =>
     wpAny (model prog w) A (forIn ifs true λc r=>if r=true then do let ok <- isTrue c env (eval c env);pure (jE ok)else pure (jE r)) (λok s₃ =>
      if ok=true then wpAny (model prog w) A (eval elt env) (λx s₄ =>
       wpAny (model prog w) A (call (.builtin "list.append") [acc,x]) (λ_ s₅=>∃m,m<n/\I m s₅) (gI (model prog w) A env λe s'=>R (.error e) s') s₄) (gI (model prog w) A env λe s'=>R (.error e) s') s₃
      else ∃m,m<n/\I m s₃) (gI (model prog w) A env λe s'=>R (.error e) s') s₂) (gI (model prog w) A env λe s'=>R (.error e) s') P9) (gI (model prog w) A env λe s'=>R (.error e) s') s₁) (gI (model prog w) A env λe s'=>R (.error e) s') s)
  (n:Nat) (h:I n s) :
  codeAny (model prog w) A (.compLoop (.ListComp elt [⟨target,iter,ifs,0⟩] scope pos) 0 it acc env) R s:=by
 refine codeAny_loop rfl I (λn s hI=>?_) n h
 show wpAny _ A ((compTurn (.ListComp elt [⟨target,iter,ifs,0⟩] scope pos) 0 it acc env).onRaise (λx=>do noteFrame x env;theTreesLotGoes x)) _ _ s
 refine wpAny_noted ?_;rw[compTurn_list];refine wpAny_bind (BY (wpAny_bind (ck (turn n s hI) (λr s₁ h₁=>?_) λ_ _ h'=>h')))
 cases r with
 |none=>exact o5 h₁
 |some v =>
  refine wpAny_bind (ck h₁ (λ_ P9 h₀=>?_) λ_ _ h'=>h')
  refine wpAny_bind (ck h₀ (λ_ s₂ h₂=>wpAny_bind (ck h₂ (λok s₃ h₃=>?_) λ_ _ h'=>h')) λ_ _ h'=>h')
  cases ok with
  |false=>exact o5 ⟨rfl,h₃⟩
  |true =>
   exact wpAny_bind (wpAny_bind (ck h₃ (λx s₄ h₄=>wpAny_bind (ck h₄ (λ_ s₅ h₅=>o5 (o5 ⟨rfl,h₅⟩)) λ_ _ h'=>h')) λ_ _ h'=>h'))
end
def ma(n:Nat)(g:TG):Prop:=∀x σ H Q,g x σ H Q->g x σ H λσ2 H2=>Q σ2 H2/\σ2.length=σ.length/\∀j,n<=j->σ2[j]? = σ[j]?
def zm(n:Nat)(g:pM):Prop:=∀x σ H Q,g x σ H Q->g x σ H λσ2 H2=>Q σ2 H2/\σ2.length=σ.length/\∀j,n<=j->σ2[j]? = σ[j]?
theorem Kb{n i:Nat}(h:i<n:=by decide):ma n (ay i):=λx σ H Q q=>⟨q,by simp,λj hj=>by rw[fh (by lia)]⟩
theorem Ka{n:Nat}:zm n Hq:=λx σ H Q q=>⟨q.1,q.2,rfl,λ_ _=>rfl⟩
theorem uY{n i:Nat}{u:pM}(hu:zm n u)(h:i<n:=by decide):zm n (rX (ay i) u):=λx σ H Q q=>by
 obtain⟨v,r,e,q⟩:=q;refine⟨v,r,e,?_⟩;have z:=hu r (σ.set i (some v)) H Q q;have e1:∀σ2:St,(σ2.length=(σ.set i (some v)).length/\∀j,n<=j->σ2[j]? = (σ.set i (some v))[j]?)->σ2.length=σ.length/\∀j,n<=j->σ2[j]? = σ[j]?:=λσ2 ⟨a,b⟩=>by
  refine⟨by simpa using a,λj hj=>?_⟩
  have:=b j hj
  rwa [fh (by lia)]at this
 show u r (σ.set i (some v)) H λσ2 H2=>Q σ2 H2/\σ2.length=σ.length/\∀j,n<=j->σ2[j]? = σ[j]?
 have ef:(λ(σ2:St) (H2:Hp)=>Q σ2 H2/\σ2.length=(σ.set i (some v)).length/\∀j,n<=j->σ2[j]? = (σ.set i (some v))[j]?)=λσ2 H2=>Q σ2 H2/\σ2.length=σ.length/\∀j,n<=j->σ2[j]? = σ[j]?:=by
  funext σ2 H2
  apply propext;constructor
  . rintro⟨a,b⟩;exact⟨a,e1 σ2 b⟩
  . rintro⟨a,b,c⟩;refine⟨a,by simpa using b,λj hj=>?_⟩
    rw[fh (by lia)]
    exact c j hj
 rw[<-ef];exact z
theorem OJ{n:Nat}{K:i9}{m:Nat}{t:pM}(h:zm n t):ma n (AJ K m t):=λx σ H Q q=>by obtain⟨a,xs,e,hs,hl,q⟩:=q;exact⟨a,xs,e,hs,hl,h xs σ H Q q⟩
def Xv(J:It)(bs:List Str)(g:TG)(tt:TT)(te:TE)(σ:St)(Q:VK)(H1:Hp):Prop:=∃(n:Nat) (W:Nat->List V->Hp->Prop),n<=B9/\W 0 [] H1/\∀i ys H,W i ys H ->
 ((J.stop i H/\∀p,H p=none->Q (.ref p) (upd H p (.lst ys)))\/(J.go i H/\i<n/\∀x H',J.PM i H x H'->g x (dC bs σ) H' λσ2 H2=>tt σ2 H2 λb H3=>if b=true then te σ2 H3 (λy H4=>W (i+1) (ys++[y]) H4)else W (i+1) ys H3))
def kj(bs:List Str)(wi:TI)(g:TG)(tt:TT)(te:TE):TE:=λσ H Q=>wi σ H λJ H1=>Xv J bs g tt te σ Q H1
theorem Vals.snoc{xs:List V}{us:List e8}{x:V}(r:Vals xs us)(h:RelV x u):Vals (xs++[x]) (us++[u]):=r.append (.cons h .nil)
theorem DN{bs nb:List Str}{pos:Pos}{use:Option (e8->Sem Unit)}{R:e8->i5->Prop}(hc:X.calm=true)(B:kE X bs nb scope)(hi:PI X tg iter wi)
  (go:ma bs.length g) (hg:∀cl C fp s H pins,PG (W4 X bs nb scope cl C fp s H pins) tg g) (ht:∀cl C fp s H pins,ud (W4 X bs nb scope cl C fp s H pins) ifs tt) (he:∀cl C fp s H pins,PE (W4 X bs nb scope cl C fp s H pins) elt te)
  (hs:∀x,fg iter X.env x=pure x) (pins:List (Addr×Obj)) (s:i5) (σ:St) (H:Hp) (Q:VK) (I:Inv X pins σ H s) (h:kj bs wi g tt te σ H Q)
  (hfin:∀(D C:Addr) (s':i5) (H':Hp) (f:Flow),Inv X pins σ H' s'->Q (.ref D) H'->jT X pins H' C->(∃m,s'.heap.Ns C m)->qM (model X.prog X.w) X.A X.xe use R (.ref D) C (.ok f) s') :
  wpAny (model X.prog X.w) X.A (comprehension (.ListComp elt [⟨tg,iter,ifs,0⟩] scope pos) scope X.env (firstIterPos [⟨tg,iter,ifs,0⟩] pos) (newList []) (firstAsync [⟨tg,iter,ifs,0⟩]) (firstIter [⟨tg,iter,ifs,0⟩] X.env) use) R X.xe s:=by
 obtain⟨cl,hcl,c1,c2⟩:=HG (scope:=scope) (env:=X.env) (λy hy hf=>I.ok.has y.1 (B.Y7 y hy hf))
 refine wpAny_comprehension_free (use:=use) rfl hs hcl B.kind B.names (C5 (hi pins s σ H _ I h) λv s1 h1=>C5 h1 λitv s2 h2=>?_)
 obtain⟨it,fp,tn,J,H2,e,I2,T,st2,f2,n,W,hn,w0,turn⟩:=h2;subst e;have hlt:∀b∈fp,b<s2.heap.objs.size:=λb hb=>by obtain⟨o,e,_⟩:=T.obj _ _ st2 b hb;exact A7 e
 refine lW (wpAny_newFunctionEnv B.Af (by intro y hy;simp at hy) (λh₁ hns₁ hsb₁=>?_) B.kind)
 dsimp only at hns₁ hsb₁ ⊢;generalize hH2:s2.heap.push {cls:=.type "list",dict:=none,data:=.seq ([]:List e8).toArray}=G2 at hns₁ hsb₁ ⊢;have hCs:G2.objs.size=s2.heap.objs.size+1:=by rw[<-hH2,jB]
 have hDC:s2.heap.objs.size≠G2.objs.size:=by rw[hCs];exact U7 (wg _)
 have hCle:s2.heap.objs.size<=G2.objs.size:=by rw[hCs];exact vF _
 have old:∀b o,s2.heap.get? b=some o->h₁.get? b=some o:=λb o e =>
  hsb₁.extBut b o (by rw[hCs];exact U7 (Nat.lt_succ_of_lt (A7 e))) (E7 _ (hH2▸E7 _ e))
 have hacc:h₁.get? s2.heap.objs.size=some {cls:=.type "list",data:=.seq ([]:List e8).toArray 0}:=hsb₁.extBut _ _ hDC (E7 _ (hH2▸U8 _ rfl));have hDn:∀b∈fp,b≠s2.heap.objs.size:=λb hb=>U7 (hlt b hb)
 have J0:=Tj (bs:=bs) (t':=s2.toks+([]:List (Str×e8)).length) I2 B c1 c2 hCle f2 hlt old hns₁;generalize hX:W4 X bs nb scope cl G2.objs.size fp s2 H2 pins=X' at J0;have fpB:∀{H':Hp} {pl:List (Addr×Obj)},(∀b∈fp,H' b=none)->(∀p∈pl,p.1∉fp)->∀b∈fp,jT X' pl H' b:=λ{H' pl} hz hp b hb=>by
  subst hX;refine⟨hz b hb,U7 (O1 (hlt b hb) hCle),J0.ok.xA b hb,.inl hb,λx c e=>(f2 b hb).2.2.2.2.1 x c (c1 x c e),λp hq=>?_⟩
  rcases List.mem_append.mp hq with z|z
  . exact(f2 b hb).2.2.2.2.2 p z
  . intro e;exact hp p z (e▸hb)
 have Dfs:s2.heap.objs.size∉X'.fs:=λhb=>by
  subst hX;rcases List.mem_cons.mp (I2.pX _ hb)with z|z
  . exact absurd I2.lt (by rw[<-z];exact aD _)
  . exact I2.Of (o3 _) z
 have Dcell:∀x c,X.env.cells.lookup x=some c->c≠s2.heap.objs.size:=λx c e z=>by obtain⟨v,q⟩:=I2.cell x c e;exact absurd q.lt (by rw[z];exact aD _)
 have Dpin:∀p∈X.pn++pins,p.1≠s2.heap.objs.size:=λp hp=>U7 (A7 (I2.pin p hp).1)
 have Dloc:s2.heap.objs.size≠X'.env.locals:=by subst hX;exact hDC
 have pinD:∀{σ':St} {H':Hp} {s':i5} {o:Obj},Inv X' [] σ' H' s'->s'.heap.get? s2.heap.objs.size=some o->H' s2.heap.objs.size=none->(∀v,o.data≠.cell v)->Inv X' [(s2.heap.objs.size,o)] σ' H' s':=λ{σ' H' s' o} I' e hz hd =>
  I'.iu λp hp=>by
   have ep:p=(s2.heap.objs.size,o):=by simpa using hp
   subst ep;exact⟨e,hz,Dloc,Dfs,hd⟩
 have loop:∀s₃:i5,s₃={s2 with heap:=h₁,toks:=s2.toks+([]:List (Str×e8)).length} ->
   codeAny (model X.prog X.w) X.A (.compLoop (.ListComp elt [⟨tg,iter,ifs,0⟩] scope pos) 0 (.ref it) (.ref s2.heap.objs.size) (nL scope cl G2.objs.size X.env))
    (qM (model X.prog X.w) X.A X.xe use R (.ref s2.heap.objs.size) G2.objs.size) s₃:=by
  rintro s₃ rfl;refine DK (λk s'=>∃(i:Nat) (ys:List V) (us:List e8) (z:Nat) (H':Hp),k=n-i+1/\i<=n/\us.length<=i/\Vals ys us/\Inv X' [(s2.heap.objs.size,{cls:=.type "list",data:=.seq us.toArray z})] (dC bs σ) H' s'/\tn i s'.heap/\(∀b∈fp,H' b=none)/\W i ys H') ?_ (n-0+1)
   ⟨0,[],[],0,H2,rfl,cT _,o3 _,.nil,pinD J0 hacc (I2.B6.fresh (o3 _)) (λv z=>by cases z),T.keep _ _ _ st2 λb _ o e=>old b o e,λb hb=>(f2 b hb).1,w0⟩
  rintro k s3 ⟨i,ys,us,z,H3,rfl,hin,hul,rv,I3,st3,fr3,w3⟩;have npl:∀p∈([(s2.heap.objs.size,{cls:=.type "list",data:=.seq us.toArray z})]:List (Addr×Obj)),p.1∉fp:=λp hp hm=>by
   have ep:p=(s2.heap.objs.size,{cls:=.type "list",data:=.seq us.toArray z}):=by simpa using hp
   subst ep;exact hDn _ hm rfl
  have eP:X'.prog=X.prog:=(congrArg (·.prog) hX).symm
  have eW:X'.w=X.w:=(congrArg (·.w) hX).symm
  have eK:X'.K=X.K:=(congrArg (·.K) hX).symm
  have eA:X'.A=X.A:=(congrArg (·.A) hX).symm
  have eC:X'.calm=true:=by subst hX;exact hc
  rcases turn i ys H3 w3 with ⟨stop,fin⟩|⟨gon,hlt',step⟩
  . have hd:=T.done X' eP eW eK eC i _ s3 (dC bs σ) H3 (gI (model X.prog X.w) X.A (nL scope cl G2.objs.size X.env) λe s'=>qM (model X.prog X.w) X.A X.xe use R (.ref s2.heap.objs.size) G2.objs.size (.error e) s') I3 (fpB fr3 npl) st3 stop
    rw[eA]at hd;refine C5 hd λr s4 ⟨hr,I4⟩=>?_
    subst hr;obtain⟨m,hm,_⟩:=I4.loc;have pD:=I4.pin (s2.heap.objs.size,{cls:=.type "list",data:=.seq us.toArray z}) (L6 _ (mem_singleton.mpr rfl));have hCl:X'.env.locals=G2.objs.size:=(congrArg (·.env.locals) hX).symm
    have hm':s4.heap.Ns G2.objs.size m:=hCl▸hm;have hC0:H3 G2.objs.size=none:=hCl▸I4.free;have I5:Inv X pins σ H3 s4:=by
     have hos:s4.os=s2.os:=by subst hX;exact I4.os
     have hun:Un (L9 X.stack) fp H2 H3 s2.heap s4.heap:=by subst hX;exact I4.base
     have hhk:cu X.prog X.w H3 s4.heap:=by subst hX;exact I4.B6
     exact I2.Xu hos hun hhk I4.bare λb hb=>⟨(f2 b hb).2.2.2.1,(f2 b hb).2.1,(f2 b hb).2.2.2.2.1,(f2 b hb).2.2.2.2.2⟩
    have hys:ys.length<=B9:=by rw[rv.length];lia
    refine hfin s2.heap.objs.size G2.objs.size s4 _ _ (I5.FV (o:=.lst ys) pD.2.1 (nT I2.lt) (.inr I2.sz) Dcell Dpin ⟨hys,us,z,rv,pD.1⟩) (fin _ pD.2.1) ⟨?_,nT (O1 I2.lt hCle),I2.Of hCle,.inr (P5 I2.sz hCle),λx c e q=>?_,λp hp q=>?_⟩ ⟨m,hm'⟩
    . rw[C3 (gJ hDC)];exact hC0
    . obtain⟨v,q2⟩:=I2.cell x c e;exact absurd (O1 q2.lt (by rw[q];exact hCle)) (aD _)
    . exact absurd (O1 (A7 (I2.pin p hp).1) (by rw[q];exact hCle)) (aD _)
  . have hd:=T.item X' eP eW eK eC i _ s3 (dC bs σ) H3 (gI (model X.prog X.w) X.A (nL scope cl G2.objs.size X.env) λe s'=>qM (model X.prog X.w) X.A X.xe use R (.ref s2.heap.objs.size) G2.objs.size (.error e) s') I3 (fpB fr3 npl) st3 gon
    rw[eA]at hd;refine C5 hd λr s4 ⟨u,hr,h4⟩=>?_
    subst hr;refine C5 h4 λ_ s5 ⟨x,H5,I5,r5,y5,st5,fr5⟩=>?_
    have I5':=I5.pinned (fpB fr5 npl) (T.obj _ _ st5);have hq5:=go x (dC bs σ) H5 _ (step x H5 y5);have hgx:PG X' tg g:=by subst hX;exact hg _ _ _ _ _ _
    have htx:ud X' ifs tt:=by subst hX;exact ht _ _ _ _ _ _
    have hex:PE X' elt te:=by subst hX;exact he _ _ _ _ _ _
    have hxe:∀e s',X'.xe e s'->False:=λe s' q=>by subst hX;exact q
    have eE:X'.env=nL scope cl G2.objs.size X.env:=(congrArg (·.env) hX).symm
    have w6:=hgx _ s5 (dC bs σ) H5 x u _ I5' r5 hq5;rw[eP,eW,eA,eE]at w6;refine ck w6 (λ_ s6 ⟨σ6,H6,I6,q6,l6,e6⟩=>?_) λ_ _ q=>(hxe _ _ q).elim
    have w7:=htx _ s6 σ6 H6 _ (gI (model X.prog X.w) X.A (nL scope cl G2.objs.size X.env) λe s'=>qM (model X.prog X.w) X.A X.xe use R (.ref s2.heap.objs.size) G2.objs.size (.error e) s') (λ_ _ q=>(hxe _ _ q).elim) I6 q6
    rw[eP,eW,eA,eE]at w7;refine C5 w7 λok s7 ⟨H7,I7,q7⟩=>?_
    have weak:∀{pl:List (Addr×Obj)} {H':Hp} {s':i5},Inv X' pl σ6 H' s'->Inv X' pl (dC bs σ) H' s':=λ{pl H' s'} I'=>I'.weak l6.symm λj v hj=>by
     by_cases hjn:j<bs.length
     . delta dC at hj;rw[rp (by simpa using hjn),CQ,c7 hjn]at hj
       cases hj
     . rw[e6 j (Ll hjn)];exact hj
    have unp:∀{σ':St} {H':Hp} {s':i5},Inv X' ([(s2.heap.objs.size,({cls:=.type "list",data:=.seq us.toArray z}:Obj))]++qe fp s5.heap) σ' H' s' ->
      (∀b∈fp,∀o,s5.heap.get? b=some o->s'.heap.get? b=some o)/\(∀b∈fp,H' b=none)/\s'.heap.get? s2.heap.objs.size=some {cls:=.type "list",data:=.seq us.toArray z}/\H' s2.heap.objs.size=none:=λ{σ' H' s'} I'=>by
     refine⟨λb hb o e=>(I'.pin (b,o) (L6 _ (L6 _ (kn hb e)))).1,λb hb=>?_,?_,?_⟩
     . obtain⟨o,e,d⟩:=T.obj _ _ st5 b hb;exact(I'.pin (b,o) (L6 _ (L6 _ (kn hb e)))).2.1
     . exact(I'.pin (s2.heap.objs.size,{cls:=.type "list",data:=.seq us.toArray z}) (L6 _ (iV _ (mem_singleton.mpr rfl)))).1
     . exact(I'.pin (s2.heap.objs.size,{cls:=.type "list",data:=.seq us.toArray z}) (L6 _ (iV _ (mem_singleton.mpr rfl)))).2.1
    cases ok with
    |false =>
     obtain⟨k1,k2,k3,k4⟩:=unp I7;refine⟨n-(i+1)+1,by lia,i+1,ys,us,z,H7,rfl,hlt',by lia,rv,pinD (weak (I7.iu λp hp=>nomatch hp)) k3 k4 (λv q=>by cases q),T.keep _ _ _ st5 k1,k2,?_⟩
     simpa using q7
    |true =>
     have q7':te σ6 H7 λy H4=>W (i+1) (ys++[y]) H4:=by simpa using q7
     have w8:=hex _ s7 σ6 H7 _ I7 q7';rw[eP,eW,eA,eE]at w8;refine ck w8 (λuy s8 ⟨y,H8,I8,r8,q8⟩=>?_) λ_ _ q=>(hxe _ _ q).elim
     obtain⟨k1,k2,k3,k4⟩:=unp I8;refine append_at (hsz:=by rw[P6];lia) k3 λh9 sb9 g9=>?_
     have I8':Inv X' [] (dC bs σ) H8 s8:=weak (I8.iu λp hp=>nomatch hp)
     have eS:X'.P9=s2:=(congrArg (·.P9) hX).symm
     have ePn:X'.pn=X.pn++pins:=(congrArg (·.pn) hX).symm
     have eCl:X'.env.cells=cl:=(congrArg (·.env.cells) hX).symm
     have I9:Inv X' [] (dC bs σ) H8 {s8 with heap:=h9}:=I8'.turned (t':=s8.toks) (it:=s2.heap.objs.size) (λb o hb e=>sb9.extBut b o hb e) k4 Dloc (.inr (by rw[eS];exact o3 _))
      (λx c e=>Dcell x c (c1 x c (by rw[<-eCl];exact e))) (λp hp=>Dpin p (by rw[ePn]at hp;simpa using hp))
     refine⟨n-(i+1)+1,by lia,i+1,ys++[y],us++[uy],z+1,H8,rfl,hlt',by rw[iU,CH];lia,rv.snoc r8,pinD I9 ?_ k4 (λv q=>by cases q),T.keep _ _ _ st5 λb hb o e=>?_,k2,q8⟩
     . rw[g9,List.push_toArray]
     . exact sb9.extBut b o (hDn b hb) (k1 b hb o e)
 exact codeAny_compStart_list (loop _ rfl) (T.self _ 0 _ _ _ (T.keep _ _ _ st2 λb _ o e=>old b o e) (loop _ rfl))
theorem Sr{bs nb:List Str}{pos:Pos}(hc:X.calm=true)(B:kE X bs nb scope)(hi:PI X tg iter wi)
  (go:ma bs.length g) (hg:∀cl C fp s H pins,PG (W4 X bs nb scope cl C fp s H pins) tg g) (ht:∀cl C fp s H pins,ud (W4 X bs nb scope cl C fp s H pins) ifs tt) (he:∀cl C fp s H pins,PE (W4 X bs nb scope cl C fp s H pins) elt te)
  (hs:∀x,fg iter X.env x=pure x:=by intro _;rfl):PE X (.ListComp elt [⟨tg,iter,ifs,0⟩] scope pos) (kj bs wi g tt te):=by
 intro pins s σ H Q I h;rw[eval_ListComp];refine DN (use:=none) hc B hi go hg ht he hs pins s σ H Q I h λD C s' H' f I' q fc ⟨m,hm⟩=>⟨m,hm,λh'' sb=>?_⟩
 exact⟨.ref D,H',I'.turned (t':=s'.toks) (it:=C) (λb o hb e=>sb.extBut b o hb e) fc.1 fc.2.1 fc.2.2.2.1 fc.2.2.2.2.1 fc.2.2.2.2.2,rfl,q⟩
theorem Em{bs nb:List Str}{cpos pos pos':Pos}{i:Nat}{x:Str}(hN:X.N.Nodup)(hi':X.N[i]? = some x)(hx:Loc X.env.scope x)(hc:X.calm=true)(B:kE X bs nb scope)(hi:PI X tg iter wi)
  (go:ma bs.length g) (hg:∀cl C fp s H pins,PG (W4 X bs nb scope cl C fp s H pins) tg g) (ht:∀cl C fp s H pins,ud (W4 X bs nb scope cl C fp s H pins) ifs tt) (he:∀cl C fp s H pins,PE (W4 X bs nb scope cl C fp s H pins) elt te)
  (hsw:aJ (.ListComp elt [⟨tg,iter,ifs,0⟩] scope cpos) (some (.Name x pos')) pos.line X.env=pure true:=by rfl) (hf:X.fn x=true\/X.env.scope.names.lookup x=some .local:=by first|exact .inl rfl|exact .inr rfl|assumption)
  (hs:∀x,fg iter X.env x=pure x:=by intro _;rfl):PS X (.Assign [.Name x pos'] (.ListComp elt [⟨tg,iter,ifs,0⟩] scope cpos) pos) (kT (kj bs wi g tt te) (ay i)):=by
 intro pins s σ H D I h;rw[exec_Assign_Name_used _ _ _ _ hsw];refine wpAny_bind (BY ?_);rw[arm_evalThenUse_ListComp];refine wpAny_bind (wpAny_bind (C5 (DN (R:=λ_ s'=>SP X pins D .next s') (use:=some (assign (.Name x pos') X.env)) hc B hi go hg ht he hs pins s σ H _ I h λD' C s' H' f I' q fc ⟨m,hm⟩=>?_) λ_ s' hsp=>o5 (o5 hsp)))
 obtain⟨oC,es,ep,ho,hd,hr⟩:=id hm;have I2:Inv X ((C,oC)::pins) σ H' s':=I'.iu λp hp=>by
  rcases List.mem_cons.mp hp with rfl|hp
  . exact⟨ho,fc.1,fc.2.1,fc.2.2.1,λv z=>by rw[hd]at z;cases z⟩
  . exact I'.pin p (L6 _ hp)
 refine C5 (Ep (pos:=pos') hN hi' hx hf ((C,oC)::pins) s' σ H' (.ref D') (.ref D') D.nx I2 rfl q) λ_ s'' ⟨σ',H'',I3,q3⟩=>?_
 have pC:=I3.pin (C,oC) (L6 _ A2);have I4:Inv X pins σ' H'' s'':=I3.iu λp hp=>I3.pin p (L6 _ (C4 _ hp))
 refine⟨m,⟨oC,es,ep,pC.1,hd,hr⟩,λh'' sb=>⟨σ',H'',?_,q3⟩⟩
 exact I4.turned (t':=s''.toks) (it:=C) (λb o hb e=>sb.extBut b o hb e) pC.2.1 fc.2.1 fc.2.2.2.1 fc.2.2.2.2.1 fc.2.2.2.2.2
end
section
variable{kd k1 k2:Bool}{h h':Heap}{k t':Nat}{xs ys:Array e8}{it t z i1 i2 l1 l2 a:Addr}{Q:e8->i5->Prop}{X:Cx}{pins:List (Addr×Obj)}{σ:St}{H:Hp}{K:i9}
section
variable{prog:A6}{w:t7}{A:A5}{E:e8->i5->Prop}{s:i5}
def ie(kd:Bool)(h:Heap)(i l:Addr)(k:Nat):Prop:=match kd with
 |true=>h.IsTupleIter i l k
 |false=>h.IsListIter i l k
def ke(kd:Bool)(h:Heap)(i l:Addr)(k:Nat)(xs:Array e8):Prop:=match kd with
 |true=>h.IsTupleIter i l k/\h.IsTuple l xs
 |false=>h.IsListIter i l k/\h.IsList l xs
theorem ie.at{kd:Bool}{h h':Heap}{i l:Addr}{k:Nat}(x:ie kd h i l k)(e:∀o,h.get? i=some o->h'.get? i=some o):ie kd h' i l k:=by
 cases kd
 . exact Heap.IsListIter.at (show h.IsListIter i l k from x) e
 . exact Heap.IsTupleIter.at (show h.IsTupleIter i l k from x) e
theorem ie.obj{i l:Addr}(x:ie kd h i l k):∃o,h.get? i=some o/\∀v,o.data≠.cell v:=by
 cases kd
 . obtain⟨o,e,_,d⟩:=(show h.IsListIter i l k from x)
   exact⟨o,e,λv z=>by rw[d]at z;cases z⟩
 . obtain⟨o,e,_,d⟩:=(show h.IsTupleIter i l k from x)
   exact⟨o,e,λv z=>by rw[d]at z;cases z⟩
theorem ke.kept{i l:Addr}(x:ke kd h i l k xs)(e:∀b o,b=i\/b=l->h.get? b=some o->h'.get? b=some o):ke kd h' i l k xs:=by
 cases kd
 . obtain⟨x,⟨o,eo,r⟩⟩:=(show h.IsListIter i l k/\h.IsList l xs from x)
   exact⟨x.at λo q=>e i o (.inl rfl) q,⟨o,e l o (.inr rfl) eo,r⟩⟩
 . obtain⟨x,⟨o,eo,r⟩⟩:=(show h.IsTupleIter i l k/\h.IsTuple l xs from x)
   exact⟨x.at λo q=>e i o (.inl rfl) q,⟨o,e l o (.inr rfl) eo,r⟩⟩
theorem GN{i:Nat}{x:e8}(hit:s.heap.IsTupleIter it t i)(ht:s.heap.IsTuple t xs)(hx:xs[i]? = some x)
  (hQ:∀h',h'.IsTupleIter it t (i+1)->qR it s.heap h'->Q x {s with heap:=h'}):wpAny (model prog w) A (iW (.ref it)) Q E s:=by
 obtain⟨oi,ei,ci,di⟩:=id hit;obtain⟨ot,et,_,n,dt⟩:=ht;delta iW;refine wpAny_bind (pB (name:=cW "__next__") hit.typeIs wK
  (jH wK hit.typeIs Mm ?_ (Mn _)))
 show wpAny _ _ (field (.ref it) 0 >>= _) _ _ s
 refine wpAny_bind (aY ei di (x:=.ref t) rfl ?_);show wpAny _ _ (if (aA t==eJ)=true then _ else _) _ _ s
 rw[e9 (show ¬((aA t==eJ)=true)from Q7)]
 show wpAny _ _ (field (.ref it) 1 >>= _) _ _ s
 refine wpAny_bind (aY ei di (x:=.int i 0) rfl ?_);show wpAny _ _ (seqItems? (.ref t) >>= _) _ _ s
 refine wpAny_bind (jA et dt ?_);simp only[J8,hx];refine wpAny_bind (wpAny_setField ei di (by simp) (o5 ⟨x,rfl,o5 (hQ _ ?_ (LH ..))⟩))
 refine⟨_,LQ _ ei (Obj.isFreed_of_fields (Ly di _)),(Obj.cls_mapFields ..).trans ci,?_⟩;rw[Ly di];simp[jo]
theorem JA{i:Nat}{Q:e8->i5->Prop}(hh:A.handled=none)(hit:s.heap.IsTupleIter it t i)(ht:s.heap.IsTuple t xs)(hx:xs[i]? = none)
  (hE:∀h' e,Heap.ExtBut it s.heap h'->(∃o,h'.get? e=some o/\o.cls=.type "StopIteration")->E (.ref e) {s with heap:=h'}):wpAny (model prog w) A (iW (.ref it)) Q E s:=by
 obtain⟨oi,ei,ci,di⟩:=id hit;obtain⟨ot,et,_,n,dt⟩:=ht;delta iW;refine wpAny_bind (pB (name:=cW "__next__") hit.typeIs wK
  (jH wK hit.typeIs Mm ?_ (Mn _)))
 show wpAny _ _ (field (.ref it) 0 >>= _) _ _ s
 refine wpAny_bind (aY ei di (x:=.ref t) rfl ?_);show wpAny _ _ (if (aA t==eJ)=true then _ else _) _ _ s
 rw[e9 (show ¬((aA t==eJ)=true)from Q7)]
 show wpAny _ _ (field (.ref it) 1 >>= _) _ _ s
 refine wpAny_bind (aY ei di (x:=.int i 0) rfl ?_);show wpAny _ _ (seqItems? (.ref t) >>= _) _ _ s
 refine wpAny_bind (jA et dt ?_);simp only[J8,hx];refine wpAny_bind (nM (wpAny_bind (wpAny_setField ei di (by simp) ?_)))
 show wpAny _ _ (newExc (.type "StopIteration") [] >>= _) _ _ _
 refine wpAny_bind ?_;simp only[newExc,newTuple];refine wpAny_bind (lW ?_ (by size_fits))
 refine wpAny_bind (m:=firstArgMember _ _) (wpAny_of_eq (a:=eJ) (by first|rfl|(simp only[firstArgMember];rfl)) ?_)
 refine lW ?_ (by size_fits)
 simp only[raiseNew];refine wpAny_bind (wpAny_handled ?_);rw[hh];refine wpAny_throw (hE _ _ (λb o hb e=>?_) ⟨_,U8 _ rfl,rfl⟩)
 exact E7 _ (E7 _ ((LH ..).extBut b o hb e))
theorem km{l:Addr}{i:Nat}{x:e8}(h:ke kd s.heap it l i xs)(hne:l≠it)(hx:xs[i]? = some x)
  (hQ:∀h',ie kd h' it l (i+1)->qR it s.heap h'->Q x {s with heap:=h'}):wpAny (model prog w) A (iW (.ref it)) Q E s:=by
 cases kd
 . exact wpAny_nextOf_list_item h.1 h.2 hx λh' a' sb=>hQ h' a' sb
 . exact GN h.1 h.2 hx λh' a' sb=>hQ h' a' sb
theorem mz{l:Addr}{i:Nat}{Q:e8->i5->Prop}(hh:A.handled=none)(h:ke kd s.heap it l i xs)(hx:xs[i]? = none)
  (hE:∀h' e,Heap.ExtBut it s.heap h'->(∃o,h'.get? e=some o/\o.cls=.type "StopIteration")->E (.ref e) {s with heap:=h'}):wpAny (model prog w) A (iW (.ref it)) Q E s:=by
 cases kd
 . exact wpAny_nextOf_list_end hh h.1 h.2 hx hE
 . exact JA hh h.1 h.2 hx hE
theorem HQ{TI TO:Addr}{x y a b:e8}{Q:Option e8->i5->Prop}(D:ZipApart z TI TO i1 i2 l1 l2)
  (hz:bZ s.heap z TI TO .none) (sL:aH s.heap TI (.ref i1) (.ref i2)) (yy:aH s.heap TO a b) (h1:ke k1 s.heap i1 l1 k xs) (h2:ke k2 s.heap i2 l2 k ys) (hx:xs[k]? = some x) (hy:ys[k]? = some y)
  (hQ:∀h',bZ h' z TI TO (jo s.heap.objs.size)->aH h' TO x y->ie k1 h' i1 l1 (k+1)->ie k2 h' i2 l2 (k+1)->aH h' s.heap.objs.size x y ->
   (∀c o,c≠z->c≠TO->c≠i1->c≠i2->s.heap.get? c=some o->h'.get? c=some o)->Q (some (.ref s.heap.objs.size)) {s with heap:=h'}) :
  wpAny (model prog w) A (jq (.ref z)) Q E s:=by
 have hT:s.TypeIs (.ref z) "zip":=⟨_,hz,rfl⟩;delta jq;refine wpAny_bind (vM (pB (name:=cW "__next__") hT vX (jH vX hT F.entry_zip_next ?_ (F.args_zip_next_1 _))));show wpAny _ _ (field (.ref z) 2 >>= _) _ _ _
 refine wpAny_bind (aY hz rfl (x:=.bool false) rfl ?_);show wpAny _ _ (field (.ref z) 3 >>= _) _ _ _
 refine wpAny_bind (aY hz rfl (x:=.ref TI) rfl (wpAny_bind (jA sL rfl ?_)));show wpAny _ _ (zk (.ref z) >>= _) _ _ _
 refine wpAny_bind ?_;delta zk;refine wpAny_bind (aY hz rfl (x:=.none) rfl (o5 ?_));simp only[A9];refine wpAny_bind (nM (wpAny_bind (aY hz rfl (x:=.ref TO) rfl (wpAny_bind (oa hz (by simp) λg1 z1 b1=>?_)))))
 replace z1:bZ g1 z TI TO .ellipsis:=z1;refine wpAny_bind ?_;simp only[Lk,Lc,vY,BZ];refine wpAny_bind (wpAny_bind (vL ?_));show wpAny _ _ (iW (.ref i1) >>= _) _ _ _
 have q1:ke k1 g1 i1 l1 k xs:=h1.kept λc o hc e=>b1.extBut c o (by rcases hc with rfl|rfl;exact D.i1z;exact D.l1z) e
 refine wpAny_bind (km q1 D.l1i1 hx λg2 p1 b2=>o5 ?_)
 have t2:aH g2 TO a b:=b2.extBut _ _ D.TOi1 (b1.extBut _ _ D.TOz yy);refine wpAny_bind (jA t2 rfl (wpAny_bind (CF t2 λg3 t3 b3=>?_)))
 replace t3:aH g3 TO x b:=t3;refine wpAny_bind (wpAny_letGo (o5 ?_));refine wpAny_bind (wpAny_bind (vL ?_));show wpAny _ _ (iW (.ref i2) >>= _) _ _ _
 have q2:ke k2 g3 i2 l2 k ys:=h2.kept λc o hc e=>by
  have n1:c≠z:=by rcases hc with rfl|rfl;exact D.i2z;exact D.l2z
  have n2:c≠i1:=by rcases hc with rfl|rfl;exact D.i12.symm;exact D.l2i1
  have n3:c≠TO:=by rcases hc with rfl|rfl;exact D.TOi2.symm;exact D.l2TO
  exact b3.extBut c o n3 (b2.extBut c o n2 (b1.extBut c o n1 e))
 refine wpAny_bind (km q2 D.l2i2 hy λg4 p2 b4=>o5 ?_)
 have t4:aH g4 TO x b:=b4.extBut _ _ D.TOi2 t3;refine wpAny_bind (jA t4 rfl (wpAny_bind (CF t4 λg5 t5 b5=>?_)))
 replace t5:aH g5 TO x y:=t5;refine wpAny_bind (wpAny_letGo (o5 (o5 (wpAny_bind (jA t5 rfl (wpAny_bind (wpAny_newTuple ?_)))))));have sz:g5.objs.size=s.heap.objs.size:=by rw[b5.1,b4.1,b3.1,b2.1,b1.1]
 have z5:bZ g5 z TI TO .ellipsis:=b5.extBut _ _ D.TOz.symm (b4.extBut _ _ D.i2z.symm (b3.extBut _ _ D.TOz.symm (b2.extBut _ _ D.i1z.symm z1)));have k5:∀c o,c≠z->c≠TO->c≠i1->c≠i2->s.heap.get? c=some o->g5.get? c=some o:=λc o c1 c2 c3 c4 e =>
  b5.extBut _ _ c2 (b4.extBut _ _ c4 (b3.extBut _ _ c2 (b2.extBut _ _ c3 (b1.extBut _ _ c1 e))))
 have p1':ie k1 g5 i1 l1 (k+1):=p1.at λo e=>b5.extBut _ _ D.TOi1.symm (b4.extBut _ _ D.i12 (b3.extBut _ _ D.TOi1.symm e))
 have p2':ie k2 g5 i2 l2 (k+1):=p2.at λo e=>b5.extBut _ _ D.TOi2.symm e
 show wpAny _ _ (Mo (.ref z) (.ref g5.objs.size) >>= _) _ _ _
 refine wpAny_bind ?_;delta Mo;have z6:bZ (g5.push {cls:=.type "tuple",data:=.seq #[x,y]}) z TI TO .ellipsis:=E7 _ z5;refine wpAny_bind (oa z6 (by simp) λg7 z7 b7=>?_)
 replace z7:bZ g7 z TI TO (jo g5.objs.size):=z7;refine oa z7 (by simp) λg8 z8 b8=>?_
 replace z8:bZ g8 z TI TO (jo g5.objs.size):=z8;have up:∀c o,c≠z->g5.get? c=some o->g8.get? c=some o:=λc o c1 e=>b8.extBut _ _ c1 (b7.extBut _ _ c1 (E7 _ e))
 have nz:g5.objs.size≠z:=nT (A7 z5);have t8:aH g8 g5.objs.size x y:=b8.extBut _ _ nz (b7.extBut _ _ nz (U8 _ rfl));rw[sz]at z8 t8;refine o5 ⟨_,rfl,o5 ?_⟩;show Q (some (.ref g5.objs.size)) _
 rw[sz];exact hQ g8 z8 (up _ _ D.TOz t5) (p1'.at λo e=>up _ o D.i1z e) (p2'.at λo e=>up _ o D.i2z e) t8 λc o c1 c2 c3 c4 e=>up c o c1 (k5 c o c1 c2 c3 c4 e)
theorem Mq{TI TO:Addr}{a b:e8}{Q:Option e8->i5->Prop}(hh:A.handled=none)(D:ZipApart z TI TO i1 i2 l1 l2)
  (hz:bZ s.heap z TI TO .none) (sL:aH s.heap TI (.ref i1) (.ref i2)) (yy:aH s.heap TO a b) (h1:ke k1 s.heap i1 l1 k xs) (h2:ke k2 s.heap i2 l2 k ys) (hend:xs[k]? = none\/ys[k]? = none)
  (hQ:∀h',(∀c o,c≠z->c≠TO->c≠i1->c≠i2->s.heap.get? c=some o->h'.get? c=some o)->Q none {s with heap:=h'}) :
  wpAny (model prog w) A (jq (.ref z)) Q E s:=by
 have hT:s.TypeIs (.ref z) "zip":=⟨_,hz,rfl⟩;delta jq;refine wpAny_bind (vM (pB (name:=cW "__next__") hT vX (jH vX hT F.entry_zip_next ?_ (F.args_zip_next_1 _))));have fin:∀(g:Heap) (e:Addr),(∀c o,c≠z->c≠TO->c≠i1->c≠i2->s.heap.get? c=some o->g.get? c=some o)->(∃o,g.get? e=some o/\o.cls=.type "StopIteration") ->
   wpAny (model prog w) A (do if <- isInstance (.ref e) (.type "StopIteration")then pure none else throw (.ref e)) Q E {s with heap:=g}:=λg e hk ⟨o,ho,hc⟩ =>
  wpAny_bind (wpAny_isInstance (T:="StopIteration") (b:=true) ⟨o,ho,hc⟩ isSubtype_stop (o5 (hQ _ hk)))
 show wpAny _ _ (field (.ref z) 2 >>= _) _ _ _
 refine wpAny_bind (aY hz rfl (x:=.bool false) rfl ?_);show wpAny _ _ (field (.ref z) 3 >>= _) _ _ _
 refine wpAny_bind (aY hz rfl (x:=.ref TI) rfl (wpAny_bind (jA sL rfl ?_)));show wpAny _ _ (zk (.ref z) >>= _) _ _ _
 refine wpAny_bind ?_;delta zk;refine wpAny_bind (aY hz rfl (x:=.none) rfl (o5 ?_));simp only[A9];refine wpAny_bind (nM (wpAny_bind (aY hz rfl (x:=.ref TO) rfl (wpAny_bind (oa hz (by simp) λg1 z1 b1=>?_)))))
 replace z1:bZ g1 z TI TO .ellipsis:=z1;refine wpAny_bind ?_;simp only[Lk,Lc,vY,BZ];refine wpAny_bind (wpAny_bind (vL ?_));show wpAny _ _ (iW (.ref i1) >>= _) _ _ _
 have q1:ke k1 g1 i1 l1 k xs:=h1.kept λc o hc e=>b1.extBut c o (by rcases hc with rfl|rfl;exact D.i1z;exact D.l1z) e
 cases hx:xs[k]? with
 |none =>
  refine wpAny_bind (mz hh q1 hx λg2 e b2 he=>?_)
  obtain⟨oe,eo,ce⟩:=he;have z2:bZ g2 z TI TO .ellipsis:=b2 _ _ D.i1z.symm z1;have ne:e≠z:=λq=>by subst q;rw[z2]at eo;cases eo;simp at ce
  refine oa z2 (by simp) λg3 _ b3=>fin g3 e (λc o c1 _ c3 _ q=>b3.extBut _ _ c1 (b2 _ _ c3 (b1.extBut _ _ c1 q))) ⟨oe,b3.extBut _ _ ne eo,ce⟩
 |some x =>
  have hy:ys[k]? = none:=by
   rcases hend with h|h
   . rw[hx]at h;cases h
   . exact h
  refine wpAny_bind (km q1 D.l1i1 hx λg2 p1 b2=>o5 ?_)
  have t2:aH g2 TO a b:=b2.extBut _ _ D.TOi1 (b1.extBut _ _ D.TOz yy);refine wpAny_bind (jA t2 rfl (wpAny_bind (CF t2 λg3 t3 b3=>?_)))
  refine wpAny_bind (wpAny_letGo (o5 ?_));refine wpAny_bind (wpAny_bind (vL ?_));show wpAny _ _ (iW (.ref i2) >>= _) _ _ _
  have q2:ke k2 g3 i2 l2 k ys:=h2.kept λc o hc e=>by
   have n1:c≠z:=by rcases hc with rfl|rfl;exact D.i2z;exact D.l2z
   have n2:c≠i1:=by rcases hc with rfl|rfl;exact D.i12.symm;exact D.l2i1
   have n3:c≠TO:=by rcases hc with rfl|rfl;exact D.TOi2.symm;exact D.l2TO
   exact b3.extBut c o n3 (b2.extBut c o n2 (b1.extBut c o n1 e))
  refine wpAny_bind (mz hh q2 hy λg4 e b4 he=>?_)
  obtain⟨oe,eo,ce⟩:=he;have z4:bZ g4 z TI TO .ellipsis:=b4 _ _ D.i2z.symm (b3.extBut _ _ D.TOz.symm (b2.extBut _ _ D.i1z.symm z1));have ne:e≠z:=λq=>by subst q;rw[z4]at eo;cases eo;simp at ce
  refine oa z4 (by simp) λg5 _ b5=>fin g5 e (λc o c1 c2 c3 c4 q=>b5.extBut _ _ c1 (b4 _ _ c4 (b3.extBut _ _ c2 (b2.extBut _ _ c3 (b1.extBut _ _ c1 q))))) ⟨oe,b5.extBut _ _ ne eo,ce⟩
end
def KR(K:i9)(H:Hp)(a:Addr)(xs:List V):Prop:=G6 K H a xs\/N4 K H a xs
theorem KR.ne{s:i5}{b:Addr}{xs:List V}(I:Inv X pins σ H s)(h:KR X.K H a xs)(f:jT X pins H b):a≠b:=by
 have tr:∀{u:HO},Rd H a u->a≠b:=λ{u} r=>by
  rcases r with r|⟨o,r⟩
  . exact X3 r f.1
  . exact X3 r f.1
 have kk:∀{o:Obj},X.K.lookup a=some o->a≠b:=λ{o} e z=>by
  have eb:X.base.get? a=some o:=I.ok.mod.EO a o e;rcases f.2.2.2.1 with q|q
  . exact I.ok.tK a o eb (z▸q)
  . exact absurd (O1 (A7 eb) (P5 I.ok.pL (by rw[z];exact q))) (aD _)
 rcases h with (r|⟨o,_,_,e,_⟩)|(r|⟨o,_,_,e,_⟩)
 . exact tr r
 . exact kk e
 . exact tr r
 . exact kk e
theorem Ey(h1:h.IsList a xs)(h2:h.IsTuple a ys):False:=by obtain⟨o,e,c,_⟩:=h1;obtain⟨o',e',c',_⟩:=h2;rw[e]at e';cases e';rw[c]at c';exact absurd c' (by decide)
theorem Inv.MO{s:i5}{xs ys:List V}(I:Inv X pins σ H s)(h:KR X.K H a xs)(h':KR X.K H a ys):xs=ys:=by
 rcases h with h|h<;>rcases h' with h'|h'
 . exact I.Ao h h'
 . obtain⟨_,_,p,_⟩:=I.list h;obtain⟨_,_,q,_⟩:=I.tuple h';exact(Ey p.isList q).elim
 . obtain⟨_,_,p,_⟩:=I.list h';obtain⟨_,_,q,_⟩:=I.tuple h;exact(Ey p.isList q).elim
 . exact I.xT h h'
theorem Inv.rD{s:i5}{t':Nat}{ch:List Addr}(I:Inv X pins σ H s)(k:∀b o,b∉ch->s.heap.get? b=some o->h'.get? b=some o)(hn:∀b∈ch,jT X pins H b):Inv X pins σ H {s with heap:=h',toks:=t'}:=by
 have nit:∀b u,H b=some u->b∉ch:=λb u e z=>by rw[(hn b z).1]at e;cases e
 refine I.step (g':=s.gens) (d':=s.drawn) (ch:=ch) (λb hb=>?_) (λb o _ _ hc e _=>k b o hc e) (λb o _ _ hc e _=>⟨o.slots,k b o hc e⟩) (λ_ _ _ _ n=>n)
  (λb o hc e=>⟨o,k b o hc e⟩) (λ_ _ e=>e) (λ_ _ _ e=>e) (λb ps e=>⟨#[],by rw[e];simp⟩) (λm hm=>?_) (λb u e=>?_) I.bare
 . obtain⟨_,f1,_,f3,f4,f5⟩:=hn b hb;exact⟨f3,f1,f4,f5⟩
 . obtain⟨o,es,ep,ho,r⟩:=hm;exact⟨o,es,ep,k _ o (λz=>(hn _ z).2.1 rfl) ho,r⟩
 . refine(I.B6 b u e).pY (λc v hc q=>k c v ?_ q) (λ_ q=>q) λ_ _ q=>q
   rcases hc with z|z
   . rw[z];exact nit b u e
   . exact nit c _ z
def bY(kd:Bool)(K:i9)(H:Hp)(a:Addr)(xs:List V):Prop:=match kd with
 |true=>N4 K H a xs
 |false=>G6 K H a xs
theorem bY.x{xs:List V}(h:bY kd K H a xs):KR K H a xs:=by
 cases kd
 . exact .inl h
 . exact .inr h
theorem Inv.Ea{s:i5}{i:Addr}{xs:List V}(I:Inv X pins σ H s)(h:bY kd X.K H a xs)(it:ie kd s.heap i a k):∃its:List e8,Vals xs its/\ke kd s.heap i a k its.toArray:=by
 cases kd
 . obtain⟨its,rv,p,hz⟩:=I.list h;exact⟨its,rv,it,p.isList⟩
 . obtain⟨its,rv,p,hz⟩:=I.tuple h;exact⟨its,rv,it,p⟩
def XS(k1 k2:Bool)(K:i9)(a b:Addr):It :=
 ⟨λi H=>∃xs ys x y,bY k1 K H a xs/\bY k2 K H b ys/\xs[i]? = some x/\ys[i]? = some y,
  λi H v H'=>∃p,v=.ref p/\H p=none/\∃x y,H'=upd H p (.tup [x,y])/\∀xs ys,bY k1 K H a xs->bY k2 K H b ys->xs[i]? = some x/\ys[i]? = some y,
  λi H=>∃xs ys,bY k1 K H a xs/\bY k2 K H b ys/\(xs.length<=i\/ys.length<=i)⟩
structure QV(k1 k2:Bool)(z TI TO i1 i2 a b:Addr)(i:Nat)(h:Heap):Prop where
 hz:bZ h z TI TO .none
 sL:aH h TI (.ref i1) (.ref i2)
 yy:∃x y,aH h TO x y
 h1:ie k1 h i1 a i
 h2:ie k2 h i2 b i
structure Wu(z TI TO i1 i2:Addr):Prop where
 TIz:TI≠z
 TOz:TO≠z
 i1z:i1≠z
 i2z:i2≠z
 TITO:TI≠TO
 TIi1:TI≠i1
 TIi2:TI≠i2
 TOi1:TO≠i1
 TOi2:TO≠i2
 i12:i1≠i2
theorem bY.inj{s:i5}{xs ys:List V}(I:Inv X pins σ H s)(h:bY kd X.K H a xs)(h':bY kd X.K H a ys):xs=ys:=I.MO h.x h'.x
theorem Mz{P:A6}{w:t7}{es:List Expr}{pos:Pos}{TI TO b:Addr}(D:Wu z TI TO i1 i2):
  Turn P w K (.Tuple es k pos) (XS k1 k2 K a b) [z,TI,TO,i1,i2] z (λi h=>QV k1 k2 z TI TO i1 i2 a b i h) where
 mem:=by simp
 obj:=λi h st c hc=>by
  have hc':c=z\/c=TI\/c=TO\/c=i1\/c=i2:=by simpa using hc
  rcases hc' with rfl|rfl|rfl|rfl|rfl
  . exact⟨_,st.hz,λv q=>by cases q⟩
  . exact⟨_,st.sL,λv q=>by cases q⟩
  . obtain⟨x,y,e⟩:=st.yy;exact⟨_,e,λv q=>by cases q⟩
  . exact st.h1.obj
  . exact st.h2.obj
 keep:=λi h h' st kk=>by obtain⟨x,y,e⟩:=st.yy;exact⟨kk z (by simp) _ st.hz,kk TI (by simp) _ st.sL,⟨x,y,kk TO (by simp) _ e⟩,st.h1.at λo q=>kk i1 (by simp) o q,st.h2.at λo q=>kk i2 (by simp) o q⟩
 item:=by
  intro X hP hw hK hc i pins s σ H E I hf st hg;subst hP hw hK;obtain⟨xs,ys,x,y,sx,sy,ex,ey⟩:=hg;obtain⟨us,rx,ox⟩:=I.Ea sx st.h1;obtain⟨vs,ry,oy⟩:=I.Ea sy st.h2;obtain⟨u,hu,ru⟩:=rx.get ex;obtain⟨v,hv,rvv⟩:=ry.get ey;obtain⟨x0,y0,eTO⟩:=st.yy;have fz:=hf z (by simp)
  have fTO:=hf TO (by simp)
  have f1:=hf i1 (by simp)
  have f2:=hf i2 (by simp)
  have ZA:ZipApart z TI TO i1 i2 a b:=⟨D.TIz,D.TOz,D.i1z,D.i2z,D.TITO,D.TIi1,D.TIi2,D.TOi1,D.TOi2,D.i12,sx.x.ne I fz,sx.x.ne I fTO,sx.x.ne I f1,sx.x.ne I f2,sy.x.ne I fz,sy.x.ne I fTO,sy.x.ne I f1,sy.x.ne I f2⟩;refine HQ ZA st.hz st.sL eTO ox oy (x:=u) (y:=v) (by simpa using hu) (by simpa using hv) λh' g1 g2 g3 g4 g5 g6=>?_
  have hT:H s.heap.objs.size=none:=I.B6.fresh (o3 _);have I1:Inv X pins σ H {s with heap:=h'}:=I.rD (t':=s.toks) (ch:=[z,TO,i1,i2]) (λc o hc e=>g6 c o (λq=>hc (by simp[q])) (λq=>hc (by simp[q])) (λq=>hc (by simp[q])) (λq=>hc (by simp[q])) e)
   (λc hc=>hf c (by
    have hc':c=z\/c=TO\/c=i1\/c=i2:=by simpa using hc
    rcases hc' with rfl|rfl|rfl|rfl<;>simp))
  have hTloc:s.heap.objs.size≠X.env.locals:=nT I.lt;have I2:Inv X pins σ (upd H s.heap.objs.size (.tup [x,y])) {s with heap:=h'}:=I1.FV hT hTloc (.inr I.sz)
   (λn c e q=>by obtain⟨vv,q2⟩:=I.cell n c e;exact absurd q2.lt (by rw[q];exact aD _))
   (λp hp q=>absurd (A7 (I.pin p hp).1) (by rw[q];exact aD _))
   ⟨by show 2<=B9;rw[gN];decide,[u,v],.cons ru (.cons rvv .nil),⟨_,g5,rfl,_,rfl⟩⟩
  refine⟨_,rfl,wpAny_letOwnedTupleGo_zip g1 λh2 z2 b2=>?_⟩
  have zl:z<s.heap.objs.size:=A7 st.hz;have uz:∀c,c∈[z,TI,TO,i1,i2]->(upd H s.heap.objs.size (.tup [x,y])) c=none:=λc hc=>by
   have hlt:c<s.heap.objs.size:=by
    have hc':c=z\/c=TI\/c=TO\/c=i1\/c=i2:=by simpa using hc
    rcases hc' with rfl|rfl|rfl|rfl|rfl
    . exact zl
    . exact A7 st.sL
    . exact A7 eTO
    . obtain⟨o,e,_⟩:=st.h1.obj;exact A7 e
    . obtain⟨o,e,_⟩:=st.h2.obj;exact A7 e
   rw[C3 (U7 hlt)];exact(hf c hc).1
  have I3:Inv X pins σ (upd H s.heap.objs.size (.tup [x,y])) {s with heap:=h2}:=Inv.turned (s:={s with heap:=h'}) I2 (t':=s.toks) (it:=z) (λc o hc e=>b2.extBut c o hc e) (uz z (by simp)) fz.2.1 fz.2.2.2.1 fz.2.2.2.2.1 fz.2.2.2.2.2
  refine⟨.ref s.heap.objs.size,_,I3,rfl,⟨_,rfl,hT,x,y,rfl,λxs' ys' hx' hy'=>?_⟩,⟨z2,b2.extBut _ _ D.TIz (g6 _ _ D.TIz D.TITO D.TIi1 D.TIi2 st.sL),⟨_,_,b2.extBut _ _ D.TOz g2⟩,?_,?_⟩,uz⟩
  . rw[hx'.inj I sx,hy'.inj I sy];exact⟨ex,ey⟩
  . exact g3.at λo q=>b2.extBut _ _ D.i1z q
  . exact g4.at λo q=>b2.extBut _ _ D.i2z q
 done:=by
  intro X hP hw hK hc i pins s σ H E I hf st hg;subst hP hw hK;obtain⟨xs,ys,sx,sy,hend⟩:=hg;obtain⟨us,rx,ox⟩:=I.Ea sx st.h1;obtain⟨vs,ry,oy⟩:=I.Ea sy st.h2;obtain⟨x0,y0,eTO⟩:=st.yy;have fz:=hf z (by simp)
  have fTO:=hf TO (by simp)
  have f1:=hf i1 (by simp)
  have f2:=hf i2 (by simp)
  have ZA:ZipApart z TI TO i1 i2 a b:=⟨D.TIz,D.TOz,D.i1z,D.i2z,D.TITO,D.TIi1,D.TIi2,D.TOi1,D.TOi2,D.i12,sx.x.ne I fz,sx.x.ne I fTO,sx.x.ne I f1,sx.x.ne I f2,sy.x.ne I fz,sy.x.ne I fTO,sy.x.ne I f1,sy.x.ne I f2⟩;have lx:=rx.length;have ly:=ry.length;refine Mq (I.ok.hd hc) ZA st.hz st.sL eTO ox oy ?_ λh' g6=>⟨rfl,?_⟩
  . rcases hend with q|q
    . exact .inl (by simp;lia)
    . exact .inr (by simp;lia)
  . exact I.rD (t':=s.toks) (ch:=[z,TO,i1,i2]) (λc o hc e=>g6 c o (λq=>hc (by simp[q])) (λq=>hc (by simp[q])) (λq=>hc (by simp[q])) (λq=>hc (by simp[q])) e)
      (λc hc=>hf c (by
       have hc':c=z\/c=TO\/c=i1\/c=i2:=by simpa using hc
       rcases hc' with rfl|rfl|rfl|rfl<;>simp))
 self:=λ_ _ _ _ _ st h=>wpAny_pyIter_zip st.hz h
end
section
variable{tk:Tok}
def ExcAt(e C dx:Addr)(h:Heap):Prop:=∃vs,h.get? e=some {cls:=.ref C,dict:=some dx,data:=.fields vs}
def Xx(e C:Addr)(dx:Option Addr)(h:Heap):Prop:=∃t,h.get? e=some {cls:=.ref C,dict:=dx,data:=.fields #[.ref t,.none,.none,.none,.bool false,.none]}
def xB(C:Addr)(fld:Str)(d:c6):c6:=.dict [(.tuple [.int (C:Nat),.str fld],d)]
structure rA(K:i9)(C:Addr):Prop where
 ga:aq K (.ref C) "__getattribute__" = some (some (.builtin "BaseException.__getattribute__"))
 gt:aq K (.ref C) "__getattr__" = some none
 hd:qZ K C=true
 be:BV K C (.type "BaseException")=some true
 cl:aq K (.ref C) "__class__" = some (some (.builtin "object.__class__"))
 cg:Cu K (.builtin "object.__class__") "__get__" = some (some (.builtin "getset_descriptor.__get__"))
 ct:Le K (.builtin "object.__class__")=some true
 ob:BV K C (.type "object")=some true
 n1:lL K (.ref C) (.type "tuple")=some false
 n2:lL K (.ref C) (.type "list")=some false
 n3:lL K (.ref C) (.type "bool")=some false
 n4:lL K (.ref C) (.type "int")=some false
 n5:lL K (.ref C) (.type "str")=some false
def iC(n:String):Prop:=n = "tuple"\/n = "list"\/n = "bool"\/n = "int"\/n = "str"
theorem rA.iC{K:i9}{C:Addr}(T:rA K C){n:String}(h:L2.iC n):lL K (.ref C) (.type n)=some false:=by
 rcases h with rfl|rfl|rfl|rfl|rfl
 . exact T.n1
 . exact T.n2
 . exact T.n3
 . exact T.n4
 . exact T.n5
section
variable{prog:A6}{w:t7}{A:A5}{E:e8->i5->Prop}{s:i5}{K:i9}{x C:Addr}{ox:Obj}{od:Option Obj}{name:Str}
theorem Kn{R:Result->i5->Prop}(T:rA K C)(X:K.In s.heap)(I:vQ s.heap x ox C od)(hf:Cd K C od "__class__" = some (.bind (.builtin "getset_descriptor.__get__") (.builtin "object.__class__")))
  (h:R (.ok (.ret (.ref C))) s) :
  codeAny (model prog w) A (.call (.builtin "BaseException.__getattribute__") ⟨[.ref x,.str "__class__" tk],[]⟩) R s:=by
 obtain⟨hh,g,d,t,os⟩:=s;refine codeAny_call_builtin F.excAttr_ValueError.ga.plain F.entry_bexc_ga ?_;have L0:=I.type (M:=model prog w);have L1:=PySem.W.looks_find (M:=model prog w) X I hf;have L2:=PySem.W.looks_mroIn (M:=model prog w) X T.be;have hk:builtinKind "BaseException.__getattribute__" = some .slot:=by decide +kernel
 have hsplit:splitId "BaseException.__getattribute__" = some ("BaseException","__getattribute__"):=by decide +kernel
 have ha:=F.args_bexc_ga (.ref x) (.str "__class__" tk);simp only[checkBuiltinCall,hk,hsplit];refine wpAny_bind ?_;delta isInstance;refine wpAny_bind (L0.at (L2.at ?_));repeat (first|wp_step)
 refine wpAny_loadPart_at I.at_ ?_;rw[I.cls];refine o5 (wpAny_bind (L1.at ?_));dsimp only;repeat (any_goals (first|assumption|wp_step))
 refine PySem.W.class_get (s:=⟨hh,g,d,t,os⟩) X I T.ob ?_;repeat (any_goals (first|assumption|wp_step))
theorem SX{fill expr:Bool}{Q:e8->i5->Prop}(T:rA K C)(X:K.In s.heap)(I:vQ s.heap x ox C od)(hf:Cd K C od "__class__" = some (.bind (.builtin "getset_descriptor.__get__") (.builtin "object.__class__")))(h:Q (.ref C) s):
  wpAny (model prog w) A (getAttrBy (.ref x) (.str "__class__" tk) fill expr) Q E s:=by
 obtain⟨hp,g,d,t,os⟩:=s;have L0:=I.type (M:=model prog w);have L1:=CG (M:=model prog w) X T.ga;have L2:=CG (M:=model prog w) X T.gt;have f3:=F.excAttr_ValueError.ga.bind (.ref x);have hx0:(expr&&onTheHeap (qS "BaseException.__getattribute__"))=false:=by cases expr<;>rfl
 have hx2:(qS "BaseException.__getattribute__"==qS "object.__getattribute__")=false:=by decide +kernel
 have hx1:(onTheHeap (aA C)&&qS "BaseException.__getattribute__"==qS "object.__getattribute__")=false:=by rw[hx2];rfl
 delta getAttrBy;refine jz (wpAny_bind (L0.at (wpAny_bind (L1.at ?_))));dsimp only;rw[e9 (by rw[hx1];decide)]
 delta getAttrByItsOwn;repeat (any_goals (first|assumption|(with_reducible refine L2.at ?_)|wp_step))
 refine Kn (s:=⟨hp,g,d,t,os⟩) T X I hf ?_;dsimp only;rw[PySem.W.handedOut_of rfl];exact o5 h
theorem Km{Q:Option e8->i5->Prop}{o:Obj}(T:rA K C)(X:K.In s.heap)(I:vQ s.heap x ox C (some o))(h:Q (some (.ref C)) {s with toks:=s.toks+1}):wpAny (model prog w) A (getAttr? (.ref x) "__class__") Q E s:=by
 have hf:Cd K C (some o) "__class__" = some (.bind (.builtin "getset_descriptor.__get__") (.builtin "object.__class__")):=PySem.W.findObj_data (by obtain⟨cd,hc,_⟩:=wj T.hd;rw[hc];rfl) T.cl T.cg T.ct
 delta getAttr? getAttrBy?
 refine wpAny_bind (wpAny_mkText (wpAny_bind (vM (SX (s:={s with toks:=s.toks+1}) T X I hf ?_))))
 exact o5 h
theorem OF{dx:Addr}(T:rA K C):PySem.W.KitX K (.ref x) (.ref C) (λh=>ExcAt x C dx h/\∃o,h.get? dx=some o) where
 ty:=λ_ _ _ I=>by obtain⟨⟨vs,h1⟩,_⟩:=I;exact(PySem.W.Looks.ld h1).andThen .now
 it:=λ_ _ X _=>by
  obtain⟨cdD,hcD,_⟩:=wj T.hd;delta PySem.W.clsIn at hcD;split at hcD
  . rename_i c' d' cd' sl' ho;intro A' Q' E' s' k q;delta isType loadHead;exact wpAny_bind (wpAny_loadPart (k _ _ (X _ _ ho)) (o5 q))
  . cases hcD
 ne:=λh tp dd its n sl X htp=>by
  obtain⟨cdD,hcD,_⟩:=wj T.hd;refine Bool.eq_false_iff.mpr λq=>?_
  have e:C=tp:=Value.ref.inj (beq_iff_eq.mp q);subst e;delta PySem.W.clsIn at hcD;split at hcD
  . rename_i c' d' cd' sl' ho;have z:=(X _ _ ho).symm.trans htp;cases z
  . cases hcD
 ca:=λX I k=>by obtain⟨⟨vs,h1⟩,o,h2⟩:=I;exact Km T X (ox:=_) (o:=o) ⟨h1,rfl,rfl,h2⟩ k
end
end
section
variable{kd k1 k2:Bool}{E Q:e8->i5->Prop}{H H':Hp}{m:Nat}{j:Int}
def nA(kd:Bool)(l:Addr):Obj:=match kd with
 |true=>{cls:=.type "tuple_iterator",data:=.fields #[.ref l,.int 0 0]}
 |false=>{cls:=.type "list_iterator",data:=.fields #[.ref l,.int 0 0]}
def fG(kd:Bool)(h:Heap)(l:Addr)(xs:Array e8):Prop:=match kd with
 |true=>h.IsTuple l xs
 |false=>h.IsList l xs
theorem fG.push{kd:Bool}{h:Heap}{l:Addr}{xs:Array e8}(x:fG kd h l xs)(o:Obj):fG kd (h.push o) l xs:=by
 cases kd
 . exact Heap.IsList.push (show h.IsList l xs from x) o
 . exact Heap.IsTuple.push (show h.IsTuple l xs from x) o
theorem ie.new{h:Heap}{i l:Addr}(e:h.get? i=some (nA kd l)):ie kd h i l 0:=by
 cases kd
 . exact⟨_,e,rfl,rfl⟩
 . exact⟨_,e,rfl,rfl⟩
theorem rT{prog:A6}{w:t7}{A:A5}{E:e8->i5->Prop}{s:i5}{l:Addr}{xs:Array e8}(x:fG kd s.heap l xs)
  (hQ:Q (.ref s.heap.objs.size) {s with heap:=s.heap.push (nA kd l)}):wpAny (model prog w) A (pyIter (.ref l)) Q E s:=by
 cases kd
 . exact Cs (show s.heap.IsList l xs from x) hQ
 . exact wpAny_pyIter_tuple (show s.heap.IsTuple l xs from x) hQ
abbrev PL(k1:Bool)(h:Heap)(a:Addr):Heap:=h.push (nA k1 a)
abbrev PK(k1 k2:Bool)(h:Heap)(a b:Addr):Heap:=(PL k1 h a).push (nA k2 b)
abbrev PJ(k1 k2:Bool)(h:Heap)(a b:Addr):Heap:=(PK k1 k2 h a b).push {cls:=.type "tuple",data:=.seq #[.ref h.objs.size,.ref (PL k1 h a).objs.size]}
abbrev PH(k1 k2:Bool)(h:Heap)(a b:Addr):Heap:=(PJ k1 k2 h a b).push {cls:=.type "tuple",data:=.seq #[.none,.none]}
abbrev DM(k1 k2:Bool)(h:Heap)(a b:Addr):Heap:=(PH k1 k2 h a b).push {cls:=.type "zip",data:=.fields #[.none,.bool false,.bool false,.ref (PK k1 k2 h a b).objs.size,.ref (PJ k1 k2 h a b).objs.size]}
theorem GQ(k1 k2:Bool)(a b:Addr)(xs ys:Array e8):
  Meets (Builtin.«zip.__new__» ⟨[.type "zip",.ref a,.ref b],[]⟩) (λ_ R s=>fG k1 s.heap a xs/\fG k2 s.heap b ys /\
   R (.ok (.ret (.ref (PH k1 k2 s.heap a b).objs.size))) {s with heap:=DM k1 k2 s.heap a b}) :=
 .of_wp λprog w A R s h=>by
  obtain⟨hp,g,d,tk,os⟩:=s;obtain⟨x1,x2,h⟩:=h;have hsub:=sub_zip;have y1:fG k1 (BJ ⟨hp,g,d,tk,os⟩) a xs:=x1;have y2:fG k2 (BJ ⟨hp.push (nA k1 a),g,d,tk,os⟩) b ys:=fG.push x2 _
  wp_walk using rT y1,rT y2
  exact⟨_,rfl,h⟩
section
variable{prog:A6}{w:t7}{A:A5}{E:e8->i5->Prop}{s:i5}
theorem KH{a b:Addr}{xs ys:Array e8}(x1:fG k1 s.heap a xs)(x2:fG k2 s.heap b ys)
  (h:∀h',QV k1 k2 (s.heap.objs.size+4) (s.heap.objs.size+2) (s.heap.objs.size+3) s.heap.objs.size (s.heap.objs.size+1) a b 0 h' ->
   (∀c o,s.heap.get? c=some o->h'.get? c=some o)->Q (.ref (s.heap.objs.size+4)) {s with heap:=h'}) :
  wpAny (model prog w) A (call (.type "zip") [.ref a,.ref b]) Q E s:=by
 refine callType_new F.called_zip (by decide) (F.typeCall_zip_2 _ _) (F.newCall_zip_2 _ _) (λobj=>F.args_object_init_3 obj _ _) F.entry_zip_new (GQ k1 k2 a b xs ys) ⟨x1,x2,?_⟩
 have z1:(PL k1 s.heap a).objs.size=s.heap.objs.size+1:=jB ..;have z2:(PK k1 k2 s.heap a b).objs.size=s.heap.objs.size+2:=by rw[jB,z1]
 have z3:(PJ k1 k2 s.heap a b).objs.size=s.heap.objs.size+3:=by rw[jB,z2]
 have z4:(PH k1 k2 s.heap a b).objs.size=s.heap.objs.size+4:=by rw[jB,z3]
 have g5:(DM k1 k2 s.heap a b).get? (PH k1 k2 s.heap a b).objs.size=some _:=U8 _ rfl;have g4:(DM k1 k2 s.heap a b).get? (PJ k1 k2 s.heap a b).objs.size=some _:=E7 _ (U8 _ rfl);have g3:(DM k1 k2 s.heap a b).get? (PK k1 k2 s.heap a b).objs.size=some _:=E7 _ (E7 _ (U8 _ rfl));have f2:(nA k2 b).isFreed=false:=by cases k2<;>rfl
 have f1:(nA k1 a).isFreed=false:=by cases k1<;>rfl
 have g2:(DM k1 k2 s.heap a b).get? (PL k1 s.heap a).objs.size=some _:=E7 _ (E7 _ (E7 _ (U8 _ f2)));have g1:(DM k1 k2 s.heap a b).get? s.heap.objs.size=some _:=E7 _ (E7 _ (E7 _ (E7 _ (U8 _ f1))));show _/\_
 rw[z2,z3,z4]at g5;rw[z1,z2]at g3;rw[z3]at g4;rw[z1]at g2;rw[z4];exact⟨⟨_,g5,rfl⟩,h _ ⟨g5,g3,⟨_,_,g4⟩,.new g1,.new g2⟩ λc o x =>
  E7 _ (E7 _ (E7 _ (E7 _ (E7 _ x))))⟩
end
theorem Mr(n:Nat):Wu (n+4) (n+2) (n+3) n (n+1):=by constructor<;>(show @Ne Nat _ _)<;>lia
section
variable{X:Cx}{es:List Expr}{k:Nat}{tp:Pos}
theorem Inv.Z6{pins:List (Addr×Obj)}{σ:St}{s:i5}{a:Addr}{xs:List V}(I:Inv X pins σ H s)(h:bY kd X.K H a xs):∃its:List e8,fG kd s.heap a its.toArray:=by
 cases kd
 . obtain⟨its,_,p,_⟩:=I.list h;exact⟨its,p.isList⟩
 . obtain⟨its,_,p,_⟩:=I.tuple h;exact⟨its,p⟩
end
section
variable{bs:List Str}{g:TG}{te:TE}{σ:St}{H:Hp}{Q:VK}
end
section
variable{X:Cx}
theorem zu:∀{bs:List Bool} {us:List e8},Vals (bs.map V.bl) us->us=bs.map lG
 | [],_,.nil=>rfl
 |b::r,_,.cons h t=>by rw[zu t];cases h;rfl
theorem nk:∀(bs:List Bool) (d:Bool),(A4 bs.length).all (λi=>bs.getD i d)=bs.all id
 | [],_=>rfl
 |b::r,d=>by rw[O0,LS,nU,List.all_map,nU];have:=nk r d;simp only[List.getD_cons_zero,Function.comp_def,List.getD_cons_succ,id];rw[this]
theorem Pu:V0 X (.builtin "all") (λxs H Q=>∃(p:Addr) (bs:List Bool),xs=[.ref p]/\G6 X.K H p (bs.map V.bl)/\X.A.handled=none/\Q (.bl (bs.all id)) H):=by
 intro pins s σ H xs us Q I r h;obtain⟨p,bs,rfl,hq,hh,q⟩:=h;obtain⟨u,rfl,ru⟩:=vals1 r;cases ru;obtain⟨its,rv,pl,hz⟩:=I.list hq;have ei:its=bs.map lG:=zu rv;refine call_all_walk (Cs pl.isList ?_);have lt:p<s.heap.objs.size:=by obtain⟨o,e,_⟩:=pl.isList;exact A7 e
 refine⟨s.heap.objs.size,_,_,_,_,_,λi=>bs.getD i false,rfl,Walks.list (A:=X.A.in1) hh s.heap.objs.size p (U7 lt) its.toArray,⟨⟨_,U8 _ rfl,rfl,rfl⟩,pl.isList.push _⟩,?_,λh' tk kk=>?_⟩
 . intro i v s' Q' E' hv hq';have e:(bs.map lG)[i]? = some v:=by rw[<-ei];simpa using hv
   rw[Q6]at e;cases eb:bs[i]? with
   |none=>rw[eb]at e;cases e
   |some b =>
    rw[eb]at e;cases e;have:bs.getD i false=b:=by rw[P8,eb];rfl
    have hq2:Q' b s':=by rw[<-this];exact hq'
    exact nZ hq2
 . have el:its.toArray.size=bs.length:=by rw[ei];simp
   rw[el,nk];refine⟨.bl (bs.all id),H,?_,rfl,q⟩;have I1:Inv X pins σ H {s with heap:=s.heap.push {cls:=.type "list_iterator",data:=.fields #[.ref p,.int 0 0]}}:=I.kept (t':=s.toks) λb o e=>E7 _ e
   have f:=I.xx (o3 _) (I.B6.fresh (o3 s.heap.objs.size));exact Inv.turned (s:={s with heap:=s.heap.push {cls:=.type "list_iterator",data:=.fields #[.ref p,.int 0 0]}}) I1 (it:=s.heap.objs.size) (λb o hb e=>kk b o (by simpa using hb) e) f.1 f.2.1 f.2.2.2.1 f.2.2.2.2.1 f.2.2.2.2.2
end
structure Bt(m:Nat)(i:Int):Prop where
 lt:i.natAbs<2 ^ m
theorem Bt.mono{n:Nat}{i:Int}(h:Bt m i)(hl:m<=n):Bt n i:=⟨O1 h.lt (Nat.pow_le_pow_right (by decide) hl)⟩
theorem Bt.of_le{i:Int}(h:Bt m j)(hl:i.natAbs<=j.natAbs):Bt m i:=⟨Cz hl h.lt⟩
theorem Bt.neg{i:Int}(h:Bt m i):Bt m (-i):=h.of_le (by lia)
theorem Bt.mul{n:Nat}{i:Int}(h:Bt m i)(h':Bt n j):Bt (m+n) (i*j):=⟨by
 rw[aE,BI];exact Nat.mul_lt_mul'' h.lt h'.lt⟩
theorem Bt.add{i:Int}(h:Bt m i)(h':Bt m j):Bt (m+1) (i+j):=⟨by
 rw[qQ];have:=Cr i j;have:=h.lt;have:=h'.lt;lia⟩
theorem Bt.sub{i:Int}(h:Bt m i)(h':Bt m j):Bt (m+1) (i-j):=by rw[Int.sub_eq_add_neg];exact h.add h'.neg
theorem Bt.fdiv{m:Nat}{i j:Int}(h:Bt m i):Bt m (i.fdiv j):=h.of_le (LN i j)
theorem Bt.small{i:Int}(h1 : -(2 ^ 62)<i)(h2:i<2 ^ 62):Bt 62 i:=⟨by lia⟩
theorem Bt.Xn{n:Nat}{i:Int}(h:Bt m i)(h':Bt n j)(hm:m+n<=134217728):IntMulOk i j:=IntMulOk.of_le (intBits_le_iff.mpr h.lt) (intBits_le_iff.mpr h'.lt) hm
section
variable{X:Cx}
theorem Sy:O9 X (ak .Mult) (rI (λi j=>Bt 60000 i/\Bt 60000 j) λi j=>.int (i*j)):=Jf λi j _ _ _ _ _ hc q=>mul_int q (hc.1.Xn hc.2 (by decide))
theorem NX:O9 X (ak .FloorDiv) (rI (λ_ j=>j≠0/\Bt 8000 j) λi j=>.int (i.fdiv j)):=Jf λi j _ _ _ _ _ hc q=>floordiv_int hc.1 q (.inl (PyProof.noPylong_of_log2 (by
 have h:=hc.2.lt;have h0:j.natAbs≠0:=by have:=hc.1;lia
 have:=(Nat.log2_lt h0).mpr h;lia)))
def QG(nm:Str):c6:=.dict [(.str nm,.none)]
def Yl:Str:=⟨#[0]⟩
def iN:c6->Bool
 | .dict [(.str _,.none)]=>true
 | .dict [(.tuple [.str _,.list _],.tuple _)]=>true
 | .dict [(.list _,.tuple _)]=>true
 |_=>false
def qw(nm:Str)(ns:List Str)(l:List c6):c6:=.dict [(.tuple [.str nm,.list (ns.map .str)],.tuple l)]
def xH(ks:List Str)(l:List c6):c6:=.dict [(.list (ks.map .str),.tuple l)]
mutual
inductive Dt(K:i9)(H:Hp):V->c6->Prop
 |non:Dt K H .non .none
 |bl (b):Dt K H (.bl b) (.bool b)
 |int (i):Dt K H (.int i) (.int i)
 |str (x):Dt K H (.str x) (.str x)
 |tup {a xs ds}:N4 K H a xs->q4 K H xs ds->Dt K H (.ref a) (.tuple ds)
 |lst {a xs ds}:G6 K H a xs->q4 K H xs ds->Dt K H (.ref a) (.list ds)
 |exc {ea C dx fld v d}:rA K C->aq K (.ref C) fld=some none->H ea=some (.ext (ExcAt ea C dx))->H dx=some (.xd [(fld,v)])->Dt K H v d->Dt K H (.ref ea) (xB C fld d)
 |fn {f nm}:(cV K S9 nm=some (some (.ref f))\/nm=Yl)->Dt K H (.ref f) (QG nm)
 |ins {a C dx fv nm ns vs l}:cV K S9 nm=some (some (.ref C))->H a=some (.ins C dx fv)->fv=ns.zip vs->q4 K H vs l->Dt K H (.ref a) (qw nm ns l)
 |dct {a kvs ks vs l}:H a=some (.dK kvs)->kvs=(ks.map gL).zip vs->q4 K H vs l->Dt K H (.ref a) (xH ks l)
inductive q4(K:i9)(H:Hp):List V->List c6->Prop
 |nil:q4 K H [] []
 |cons {x xs d ds}:Dt K H x d->q4 K H xs ds->q4 K H (x::xs) (d::ds)
end
theorem i8.cy{K:i9}{a:Addr}{xs:List V}(e:i8 H H')(h:N4 K H a xs):N4 K H' a xs:=by
 rcases h with (h|⟨o,h⟩)|h
 . exact .inl (.inl (e _ _ h))
 . exact .inl (.inr ⟨o,e _ _ h⟩)
 . exact .inr h
theorem i8.new{p:Addr}{o:HO}(h:H p=none):i8 H (upd H p o):=λb u e=>by rw[C3 (X3 e h)];exact e
mutual
theorem Dt.same{K:i9}{H H':Hp}(e:i8 H H'){x:V}{d:c6}(h:Dt K H x d):Dt K H' x d:=by
 cases h with
 |non=>exact .non
 |bl b=>exact .bl b
 |int i=>exact .int i
 |str x=>exact .str x
 |tup h t=>exact .tup (e.cy h) (q4.same e t)
 |lst h t=>exact .lst (e.seq h) (q4.same e t)
 |exc c n h1 h2 t=>exact .exc c n (e _ _ h1) (e _ _ h2) (Dt.same e t)
 |fn h=>exact .fn h
 |ins h1 h2 h3 t=>exact .ins h1 (e _ _ h2) h3 (q4.same e t)
 |dct h1 h2 t=>exact .dct (e _ _ h1) h2 (q4.same e t)
theorem q4.same{K:i9}{H H':Hp}(e:i8 H H'){xs:List V}{ds:List c6}(h:q4 K H xs ds):q4 K H' xs ds:=by
 cases h with
 |nil=>exact .nil
 |cons h t=>exact .cons (Dt.same e h) (q4.same e t)
end
theorem q4.length{K:i9}{H:Hp}:∀{xs:List V} {ds:List c6},q4 K H xs ds->xs.length=ds.length
 |_,_,.nil=>rfl
 |_,_,.cons _ t=>by rw[O0,O0,q4.length t]
theorem q4.get{K:i9}{H:Hp}:∀{xs:List V} {ds:List c6} {i:Nat} {d:c6},q4 K H xs ds->ds[i]? = some d->∃x,xs[i]? = some x/\Dt K H x d
 |_,_,_,_,.nil,e=>by simp at e
 |_,_,0,_,.cons h _,e=>by simp at e;subst e;exact⟨_,rfl,h⟩
 |_,_,i+1,d,.cons _ t,e=>by
  obtain⟨x,h1,h2⟩:=q4.get (i:=i) (d:=d) t (by simpa using e)
  exact⟨x,by simpa using h1,h2⟩
mutual
theorem Inv.reads{pins:List (Addr×Obj)}{σ:St}{H:Hp}{s:i5}(I:Inv X pins σ H s){x:V}{u:e8}{d:c6}(h:Dt X.K H x d)(r:RelV x u)(hc:d.canLay0=true):∃as,Reads s.heap u d as:=by
 cases h with
 |non=>cases r;exact⟨_,.none⟩
 |bl b=>cases r;exact⟨_,.bool b⟩
 |int i=>obtain⟨t,rfl⟩:=r;exact⟨_,.int i t⟩
 |str y=>obtain⟨t,rfl⟩:=r;exact⟨_,.str y t⟩
 |tup h t =>
  cases r;obtain⟨its,rv,⟨o,e,c,n,dd⟩,_⟩:=I.tuple h;obtain⟨as,ra⟩:=Inv.readsAll I t rv (by rw[bO]at hc;exact hc)
  exact⟨_,.tuple e c dd (by simpa using ra)⟩
 |lst h t =>
  cases r;obtain⟨its,rv,pl,_⟩:=I.list h;obtain⟨o,e,c,n,dd⟩:=pl.isList;obtain⟨as,ra⟩:=Inv.readsAll I t rv (by rw[bO]at hc;exact hc)
  exact⟨_,.list e c dd (by simpa using ra)⟩
 |exc _ _ _ _ _=>rw[xB,bO]at hc;cases hc
 |fn _=>rw[QG,bO]at hc;cases hc
 |ins _ _ _ _=>rw[qw,bO]at hc;cases hc
 |dct _ _ _=>rw[xH,bO]at hc;cases hc
theorem Inv.readsAll{pins:List (Addr×Obj)}{σ:St}{H:Hp}{s:i5}(I:Inv X pins σ H s){xs:List V}{us:List e8}{ds:List c6}(h:q4 X.K H xs ds)(r:Vals xs us)(hc:kA ds=true):∃as,ReadsAll s.heap us ds as:=by
 cases h with
 |nil=>cases r;exact⟨_,.nil⟩
 |cons h t =>
  cases r with
  |cons r rr =>
   rw[kA,iT]at hc;obtain⟨as,ra⟩:=Inv.reads I h r hc.1;obtain⟨bs,rb⟩:=Inv.readsAll I t rr hc.2;exact⟨_,.cons ra rb⟩
end
theorem Vx(hu:X.A.units+64<cLine):O9 X (S8 .Eq) (λx y H Q=>∃d e,Dt X.K H x d/\Dt X.K H y e/\J7 d=true/\J7 e=true/\Q (.bl (X7 d e)) H):=by intro pins s σ H x y v u Q I rx ry h;obtain⟨d,e,h1,h2,s1,s2,q⟩:=h;obtain⟨as,ra⟩:=I.reads h1 rx (wD s1);obtain⟨bs,rb⟩:=I.reads h2 ry (wD s2);exact eq_dataH ra rb s1 s2 hu ⟨.bl _,H,I,rfl,q⟩
theorem Vt(hu:X.A.units+64<cLine):O9 X (S8 .NotEq) (λx y H Q=>∃d e,Dt X.K H x d/\Dt X.K H y e/\J7 d=true/\J7 e=true/\Q (.bl (!PyData.eqv d e)) H):=by intro pins s σ H x y v u Q I rx ry h;obtain⟨d,e,h1,h2,s1,s2,q⟩:=h;obtain⟨as,ra⟩:=I.reads h1 rx (wD s1);obtain⟨bs,rb⟩:=I.reads h2 ry (wD s2);exact ne_dataH ra rb s1 s2 hu ⟨.bl _,H,I,rfl,q⟩
end
end
section
variable{t sl:Addr}{Q:e8->i5->Prop}
def FP:c6->String
 | .none=>"NoneType"
 | .bool _=>"bool"
 | .int _=>"int"
 | .str _=>"str"
 | .tuple _=>"tuple"
 | .list _=>"list"
 |_=>"dict"
def yu(d:c6)(n:String):Bool:=FP d==n||(FP d=="bool"&&n=="int")
theorem iA{K:i9}:∀{t n:String},(t = "NoneType"\/t = "bool"\/t = "int"\/t = "str"\/t = "tuple"\/t = "list")->iC n->lL K (.type t) (.type n)=some (t==n||(t=="bool"&&n=="int")):=by intro t n ht hn;rcases ht with rfl|rfl|rfl|rfl|rfl|rfl<;>rcases hn with rfl|rfl|rfl|rfl|rfl<;>first|rfl|decide +kernel
section
variable{X:Cx}
theorem Pt:V0 X (.builtin "isinstance") (λxs H Q=>∃x n d,xs=[x,.ty n]/\Dt X.K H x d/\iN d=false/\iC n/\Q (.bl (yu d n)) H):=by
 intro pins s σ H xs us Q I r h;obtain⟨x,n,d,rfl,hd,hfn,hn,q⟩:=h;obtain⟨u,c,rfl,rx,rc⟩:=vals2 r;cases rc;have fin:∀tk,EP X pins σ Q (.bool (yu d n)) {s with toks:=tk}:=λtk=>⟨.bl _,H,I.tok tk,rfl,q⟩
 cases hd with
 |non=>cases rx;exact lM PySem.W.kitx_none I.dZ cj (iA (by simp) hn) (λz=>nomatch z) fin
 |bl b=>cases rx;exact lM PySem.W.kitx_bool I.dZ cj (iA (by simp) hn) (λz=>nomatch z) fin
 |int i=>obtain⟨t,rfl⟩:=rx;exact lM PySem.W.kitx_int I.dZ cj (iA (by simp) hn) (λz=>nomatch z) fin
 |str y=>obtain⟨t,rfl⟩:=rx;exact lM PySem.W.kitx_str I.dZ cj (iA (by simp) hn) (λz=>nomatch z) fin
 |tup h t =>
  cases rx;obtain⟨its,rv,⟨o,e,c,n,dd⟩,_⟩:=I.tuple h;exact lM PySem.W.kitx_tuple I.dZ ⟨o,e,c⟩ (iA (by simp) hn) (λz=>nomatch z) fin
 |lst h t =>
  cases rx;obtain⟨its,rv,pl,_⟩:=I.list h;obtain⟨o,e,c,n,dd⟩:=pl.isList;exact lM PySem.W.kitx_list I.dZ ⟨o,e,c⟩ (iA (by simp) hn) (λz=>nomatch z) fin
 |exc c nf h1 h2 t =>
  rename_i ea C dx fld v d;cases rx;obtain⟨mA,⟨ob,es,ep,ho,_⟩,_⟩:=I.B6 _ _ h2;have e0:yu (xB C fld d) n=false:=by rcases hn with rfl|rfl|rfl|rfl|rfl<;>rfl
  rw[e0]at fin;exact lM (OF c) I.dZ ⟨(I.B6 _ _ h1).1,ob,ho⟩ (c.iC hn) (λz=>nomatch z) fin
 |fn _=>cases hfn
 |ins _ _ _ _=>cases hfn
 |dct _ _ _=>cases hfn
end
section
variable{prog:A6}{w:t7}{A:A5}{E:e8->i5->Prop}{s:i5}
theorem yY{items:Array e8}{vl vu:e8}{lo hi:Option Int}(ht:eu s.heap t items)(hs:s.heap.IsSliceOf sl vl vu .none)(pl:eI vl lo)(pu:eI vu hi)
  (hw:HT.E3 items.size 0 lo=0/\HT.E3 items.size items.size hi=items.size) (h:Q (.ref t) s):wpAny (model prog w) A (lD (.ref t) (.ref sl)) Q E s:=by
 obtain⟨os,hos,hcs,hds⟩:=id hs;have hTs:s.TypeIs (.ref sl) "slice":=⟨os,hos,hcs⟩;delta lD;try with_reducible refine jz ?_
 first|refine wpAny_bind (o5 ?_)|skip
 refine wpAny_bind (wpAny_sequenceKey ht.typeIs (by decide) ?_)
 refine wpAny_bind (pB (name:=cW "__getitem__") ht.typeIs wN (jH wN ht.typeIs entry_tuple_getitem ?_ (args_tuple_getitem _ _)));show wpAny _ _ (Mh (.ref t) >>= _) _ _ s
 refine wpAny_bind (tupleItemsOf_ ht (wpAny_bind (BL hTs ?_)));rw[c7 (by decide)]
 refine wpAny_bind (HT.kU hs pl pu ?_);rw[hw.1,hw.2];show wpAny _ _ (if ((((0:Nat):Int))==0&&(1:Int)==1&&(items.size-0)==items.size)=true then _ else _) _ _ s
 rw[c7 (by simp)]
 show wpAny _ _ (Mg (.ref t) >>= _) _ _ s
 delta Mg;refine wpAny_bind (wpAny_bind (BL ht.typeIs (o5 ?_)));rw[c7 (by decide)]
 first
  |exact wpAny_bind (nM (wpAny_bind (o5 ⟨_,rfl,o5 h⟩)))
  |exact wpAny_bind (nM (o5 ⟨_,rfl,o5 h⟩))
  |exact wpAny_bind (nM (wpAny_bind (o5 (o5 ⟨_,rfl,o5 h⟩))))
theorem Ti{b:Addr}{vs ws:List e8}(ht:eu s.heap t vs.toArray)(hb:eu s.heap b ws.toArray)(hv:vs=[])(h:Q (.ref b) s):wpAny (model prog w) A (ak .Add (.ref t) (.ref b)) Q E s:=by
 obtain⟨⟨cls,dd,data,sl⟩,ho,hc,n,hd⟩:=id ht;obtain⟨⟨cls2,dd2,data2,sl2⟩,ho2,hc2,n2,hd2⟩:=id hb;simp only at hc hd hc2 hd2;subst hc hd hc2 hd2;exact vH ⟨_,ho,rfl⟩ ⟨_,ho2,rfl⟩ Cp BU CM CP (CU _ _)
  (tuple_addW0 t b vs.toArray ws.toArray n n2 dd dd2 sl sl2 (by simp[hv])) ⟨ho,ho2,h⟩
end
section
variable{X:Cx}
end
end
section
variable{H H' h8:Hp}{as as' vb va:As}{O O' rg rg':List Addr}{o p f:Addr}{K:i9}{r:R2}{op:CmpOp}{vs:List V}{E:XK}
inductive PF where
 |dat (d:c6)
 |own (l:List c6)
 |dct (es:List (Str×c6))
inductive OD where
 |dct (es:List (Str×c6))
 |ins (nm:Str) (fs:List (Str×PF))
inductive PV where
 |dat (d:c6)
 |own (l:List c6)
 |ob (w:Option Addr) (c:OD)
def PF.d:PF->c6
 | .dat d=>d
 | .own l=>.list l
 | .dct es=>xH (es.map (·.1)) (es.map (·.2))
def OD.d:OD->c6
 | .dct es=>xH (es.map (·.1)) (es.map (·.2))
 | .ins nm fs=>qw nm (fs.map (·.1)) (fs.map λf=>f.2.d)
def PV.d:PV->c6
 | .dat d=>d
 | .own l=>.list l
 | .ob _ c=>c.d
@[simp] theorem PV.gF(d:c6):(PV.dat d).d=d:=rfl
@[simp] theorem PV.ku(l:List c6):(PV.own l).d=.list l:=rfl
abbrev Ds:=List (Option PV)
abbrev As:=List (Option Addr)
def n6(H:Hp)(as:As)(O:List Addr):Hp:=λb=>if b∈O\/some b∈as then none else H b
theorem F4{b:Addr}{o:HO}:n6 H as O b=some o↔(b∉O/\some b∉as/\H b=some o):=by
 delta n6;split
 . rename_i h;constructor
   . intro z;cases z
   . rintro⟨h1,h2,_⟩;exact(h.elim h1 h2).elim
 . rename_i h;constructor
   . intro z;exact⟨λq=>h (.inl q),λq=>h (.inr q),z⟩
   . rintro⟨_,_,z⟩;exact z
theorem eh(e:∀b o,b∉O->some b∉as->H b=some o->b∉O'/\some b∉as'/\H' b=some o):i8 (n6 H as O) (n6 H' as' O'):=λb o h=>by obtain⟨h1,h2,h3⟩:=F4.mp h;exact F4.mpr (e b o h1 h2 h3)
theorem T7(e:i8 H H'):i8 (n6 H as O) (n6 H' as O):=eh λb o h1 h2 h3=>⟨h1,h2,e b o h3⟩
theorem Y9(e:i8 H H')(h:∀b,some b∈as'->some b∈as):i8 (n6 H as O) (n6 H' as' O):=eh λb o h1 h2 h3=>⟨h1,λz=>h2 (h b z),e b o h3⟩
theorem o9:i8 (n6 H as O) H:=λb o h=>(F4.mp h).2.2
theorem nD{bs:As}:n6 H (bs++as) O=n6 H bs (O++as.filterMap id):=by
 funext b
 delta n6;have:(b∈O\/some b∈bs++as)↔(b∈O++as.filterMap id\/some b∈bs):=by
  simp only[jD,wm,id];constructor
  . rintro(h|h|h)
    . exact .inl (.inl h)
    . exact .inr h
    . exact .inl (.inr ⟨_,h,rfl⟩)
  . rintro((h|⟨x,h,e⟩)|h)
    . exact .inl h
    . subst e;exact .inr (.inr h)
    . exact .inr (.inl h)
 by_cases c:b∈O\/some b∈bs++as
 . rw[c7 c,c7 (this.mp c)]
 . rw[e9 c,e9 (λz=>c (this.mpr z))]
def Cell(u:HO):Prop:=(∃xs,u=.lst xs)\/(∃kvs,u=.dK kvs)\/∃C dx fv,u=.ins C dx fv
abbrev Cl:={u:HO // Cell u}
def Cl.l(xs:List V):Cl:=⟨.lst xs,.inl ⟨xs,rfl⟩⟩
def Cl.d(kvs:List (Key×V)):Cl:=⟨.dK kvs,.inr (.inl ⟨kvs,rfl⟩)⟩
def Cl.i(C dx:Addr)(fv:List (Str×V)):Cl:=⟨.ins C dx fv,.inr (.inr ⟨C,dx,fv,rfl⟩)⟩
def wO(K:i9)(Hv:Hp):List (Key×V)->List (Str×c6)->Prop:=Paired λ(p:Key×V) (q:Str×c6)=>p.1=.inr q.1/\Dt K Hv p.2 q.2
theorem wO.same{K:i9}{H H':Hp}{kvs:List (Key×V)}{es:List (Str×c6)}(e:i8 H H')(h:wO K H kvs es):wO K H' kvs es:=by
 delta wO at *;induction h with
 |nil=>exact .nil
 |cons h t ih=>exact .cons ⟨h.1,h.2.same e⟩ ih
inductive V9(K:i9)(Hv H:Hp):List (Str×V)->List (Str×PF)->List Addr->Prop
 |nil:V9 K Hv H [] [] []
 |dat {n x d fv fs R}:Dt K Hv x d->V9 K Hv H fv fs R->V9 K Hv H ((n,x)::fv) ((n,.dat d)::fs) R
 |own {n a xs l fv fs R}:H a=some (.lst xs)->q4 K Hv xs l->a∉R->V9 K Hv H fv fs R->V9 K Hv H ((n,.ref a)::fv) ((n,.own l)::fs) (a::R)
 |dct {n a kvs es fv fs R}:H a=some (.dK kvs)->wO K Hv kvs es->a∉R->V9 K Hv H fv fs R->V9 K Hv H ((n,.ref a)::fv) ((n,.dct es)::fs) (a::R)
def jS(K:i9)(Hv H:Hp)(v:Addr)(R:List Addr):OD->Prop
 | .dct es=>∃kvs,R=[v]/\H v=some (.dK kvs)/\wO K Hv kvs es
 | .ins nm fs=>∃C dx fv R',R=v::R'/\cV K S9 nm=some (some (.ref C))/\H v=some (.ins C dx fv)/\V9 K Hv H fv fs R'
section
variable{K:i9}{Hv Hv' H H':Hp}{v:Addr}{R:List Addr}{c:OD}{fv:List (Str×V)}{fs:List (Str×PF)}
theorem V9.same(e:i8 Hv Hv')(h:V9 K Hv H fv fs R):(∀b∈R,∀o,H b=some o->H' b=some o)->V9 K Hv' H' fv fs R:=by
 induction h with
 |nil=>exact λ_=>.nil
 |dat hd t ih=>exact λe2=>.dat (hd.same e) (ih e2)
 |own h1 h2 h3 t ih=>exact λe2=>.own (e2 _ A2 _ h1) (h2.same e) h3 (ih λb hb=>e2 b (C4 _ hb))
 |dct h1 h2 h3 t ih=>exact λe2=>.dct (e2 _ A2 _ h1) (h2.same e) h3 (ih λb hb=>e2 b (C4 _ hb))
theorem V9.at(h:V9 K Hv H fv fs R):∀b∈R,∃u:HO,((∃xs,u=.lst xs)\/∃kvs,u=.dK kvs)/\H b=some u:=by
 induction h with
 |nil=>exact λb hb=>absurd hb (by simp)
 |dat hd t ih=>exact ih
 |own h1 h2 h3 t ih =>
  intro b hb;rcases List.mem_cons.mp hb with rfl|hb
  . exact⟨_,.inl ⟨_,rfl⟩,h1⟩
  . exact ih b hb
 |dct h1 h2 h3 t ih =>
  intro b hb;rcases List.mem_cons.mp hb with rfl|hb
  . exact⟨_,.inr ⟨_,rfl⟩,h1⟩
  . exact ih b hb
theorem jS.same(e:i8 Hv Hv')(e2:∀b∈R,∀o,H b=some o->H' b=some o)(h:jS K Hv H v R c):jS K Hv' H' v R c:=by
 cases c with
 |dct es=>obtain⟨kvs,rfl,h2,h3⟩:=h;exact⟨kvs,rfl,e2 _ A2 _ h2,h3.same e⟩
 |ins nm fs =>
  obtain⟨C,dx,fv,R',rfl,h1,h2,h3⟩:=h;exact⟨C,dx,fv,R',rfl,h1,e2 _ A2 _ h2,h3.same e λb hb=>e2 b (C4 _ hb)⟩
theorem jS.at(h:jS K Hv H v R c):∀b∈R,∃u:Cl,H b=some u.1:=by
 cases c with
 |dct es =>
  obtain⟨kvs,rfl,h2,h3⟩:=h;intro b hb;rw[mem_singleton.mp hb];exact⟨Cl.d kvs,h2⟩
 |ins nm fs =>
  obtain⟨C,dx,fv,R',rfl,h1,h2,h3⟩:=h;intro b hb;rcases List.mem_cons.mp hb with rfl|hb
  . exact⟨Cl.i C dx fv,h2⟩
  . obtain⟨u,h|h,e⟩:=h3.at b hb
    . exact⟨⟨u,.inl h⟩,e⟩
    . exact⟨⟨u,.inr (.inl h)⟩,e⟩
theorem EM{kvs:List (Key×V)}{es:List (Str×c6)}(h:wO K Hv kvs es):kvs=((es.map (·.1)).map gL).zip (kvs.map (·.2))/\q4 K Hv (kvs.map (·.2)) (es.map (·.2)):=by
 delta wO at h;induction h with
 |nil=>exact⟨rfl,.nil⟩
 | @cons p q ps qs h t ih =>
  refine⟨?_,.cons h.2 ih.2⟩;rw[o6,o6,o6,mM,<-ih.1,<-h.1]
theorem V9.Yy(h:V9 K Hv H fv fs R)(e:i8 Hv Hv')(e2:∀b∈R,∀o,H b=some o->Hv' b=some o):fv=(fs.map (·.1)).zip (fv.map (·.2))/\q4 K Hv' (fv.map (·.2)) (fs.map λf=>f.2.d):=by
 induction h with
 |nil=>exact⟨rfl,.nil⟩
 |dat hd t ih =>
  obtain⟨i1,i2⟩:=ih e2;refine⟨?_,.cons (hd.same e) i2⟩;rw[o6,o6,mM,<-i1]
 |own h1 h2 h3 t ih =>
  obtain⟨i1,i2⟩:=ih λb hb=>e2 b (C4 _ hb)
  refine⟨?_,.cons (.lst (G6.of (e2 _ A2 _ h1)) (h2.same e)) i2⟩;rw[o6,o6,mM,<-i1]
 |dct h1 h2 h3 t ih =>
  obtain⟨i1,i2⟩:=ih λb hb=>e2 b (C4 _ hb)
  obtain⟨k1,k2⟩:=EM h2;refine⟨?_,.cons (.dct (e2 _ A2 _ h1) k1 (k2.same e)) i2⟩;rw[o6,o6,mM,<-i1]
theorem jS.dt(h:jS K Hv H v R c)(e:i8 Hv Hv')(e2:∀b∈R,∀o,H b=some o->Hv' b=some o):Dt K Hv' (.ref v) c.d:=by
 cases c with
 |dct es =>
  obtain⟨kvs,rfl,h2,h3⟩:=h;obtain⟨k1,k2⟩:=EM h3;exact .dct (e2 _ A2 _ h2) k1 (k2.same e)
 |ins nm fs =>
  obtain⟨C,dx,fv,R',rfl,h1,h2,h3⟩:=h;obtain⟨k1,k2⟩:=h3.Yy e λb hb=>e2 b (C4 _ hb)
  exact .ins h1 (e2 _ A2 _ h2) k1 k2
end
def az(K:i9)(O:List Addr)(as:As)(H:Hp)(si:Option (Option V))(rg:List Addr):PV->Prop
 | .dat d=>∃v,si=some (some v)/\Dt K (n6 H as O) v d
 | .own l=>∃a xs,si=some (some (.ref a))/\a∈rg/\H a=some (.lst xs)/\q4 K (n6 H as O) xs l
 | .ob w c=>∃v R,si=some (some (.ref v))/\(w=none\/w=some v)/\(∀b∈R,b∈rg)/\jS K (n6 H as O) H v R c
structure DS(K:i9)(O:List Addr)(h8:Hp)(as:As)(σ:St)(H:Hp)(ds:Ds):Prop where
 ls:σ.length=ds.length
 same:i8 h8 H
 new:∀a,some a∈as->h8 a=none/\∃u:Cl,H a=some u.1
 cL:∀a∈O,∃o,h8 a=some o
 gx:∃rg:Nat->List Addr,(∀i b,b∈rg i->some b∈as)/\(∀i j b,b∈rg i->b∈rg j->i=j)/\∀(i:Nat) (pv:PV),ds[i]? = some (some pv)->az K O as H σ[i]? (rg i) pv
def HL(K:i9)(O:List Addr)(as:As)(H:Hp)(si:Option (Option V)):PV->Prop
 | .dat d=>∃v,si=some (some v)/\Dt K (n6 H as O) v d
 | .own l=>∃a xs,si=some (some (.ref a))/\some a∈as/\H a=some (.lst xs)/\q4 K (n6 H as O) xs l
 | .ob w c=>∃v R,si=some (some (.ref v))/\(w=none\/w=some v)/\(∀b∈R,some b∈as)/\jS K (n6 H as O) H v R c
theorem DS.slot{σ:St}{ds:Ds}(S:DS K O h8 as σ H ds)(i:Nat)(pv:PV)(h:ds[i]? = some (some pv)):HL K O as H σ[i]? pv:=by
 obtain⟨rg,r1,r2,r3⟩:=S.gx;have z:=r3 i pv h;cases pv with
 |dat d=>exact z
 |own l=>obtain⟨a,xs,z1,z2,z3⟩:=z;exact⟨a,xs,z1,r1 i a z2,z3⟩
 |ob w c=>obtain⟨v,R,z1,z2,z3,z4⟩:=z;exact⟨v,R,z1,z2,λb hb=>r1 i b (z3 b hb),z4⟩
theorem az.yf{bs:As}{si:Option (Option V)}{pv:PV}(h:az K O as H si rg pv)(e:i8 (n6 H as O) (n6 H' bs O))(e2:∀b∈rg,∀o,H b=some o->H' b=some o)(hr:∀b∈rg,b∈rg'):az K O bs H' si rg' pv:=by
 cases pv with
 |dat d=>obtain⟨v,z1,z⟩:=h;exact⟨v,z1,z.same e⟩
 |own l=>obtain⟨a,xs,z1,z2,z3,z⟩:=h;exact⟨a,xs,z1,hr a z2,e2 a z2 _ z3,z.same e⟩
 |ob w c=>obtain⟨v,R,z1,z2,z3,z⟩:=h;exact⟨v,R,z1,z2,λb hb=>hr b (z3 b hb),z.same e λb hb=>e2 b (z3 b hb)⟩
def Y7(fr:Bool)(as:As):As:=if fr=true then as else[]
theorem rC{fr:Bool}{b:Addr}(h:some b∈Y7 fr as):some b∈as:=by
 delta Y7 at h;split at h
 . exact h
 . simp at h
def RX(K:i9)(O:List Addr)(va:As)(H H':Hp)(v:V):PV->Prop
 | .dat d=>Dt K (n6 H' va O) v d
 | .own l=>∃a xs,v=.ref a/\H a=none/\H' a=some (.lst xs)/\q4 K (n6 H' (some a::va) O) xs l
 | .ob w c=>∃o R,v=.ref o/\(w=none\/w=some o)/\(∀b∈R,H b=none)/\jS K (n6 H' (R.map some++va) O) H' o R c
structure oj(H:Hp)(va:As)(O:List Addr):Prop where
 o:∀a∈O,∃u,H a=some u
 a:∀a,some a∈va->∃u,H a=some u
section
variable{K:i9}{O:List Addr}{h8 H H' H2:Hp}{as va:As}{σ:St}{ds:Ds}{v:V}{pv:PV}{fr:Bool}
theorem oj.same(D:oj H va O)(e:i8 H H'):oj H' va O:=⟨λa h=>let ⟨u,z⟩:=D.o a h;⟨u,e _ _ z⟩,λa h=>let ⟨u,z⟩:=D.a a h;⟨u,e _ _ z⟩⟩
theorem DS.dm(S:DS K O h8 as σ H ds):oj H (Y7 fr as) O:=⟨λa h=>let ⟨u,z⟩:=S.cL a h;⟨u,S.same _ _ z⟩,λa h=>let ⟨_,z⟩:=(S.new a (rC h)).2;⟨_,z⟩⟩
theorem DS.nO(S:DS K O h8 as σ H ds){a:Addr}(h:some a∈as):a∉O:=λz=>by obtain⟨o,e⟩:=S.cL a z;rw[(S.new a h).1]at e;cases e
theorem DS.grow(S:DS K O h8 as σ H ds)(e:i8 H H'):DS K O h8 as σ H' ds :=
 ⟨S.ls,S.same.trans e,λa h=>⟨(S.new a h).1,let ⟨o,z⟩:=(S.new a h).2;⟨o,e _ _ z⟩⟩,S.cL,let ⟨rg,r1,r2,r3⟩:=S.gx;⟨rg,r1,r2,λi pv h=>(r3 i pv h).yf (T7 e) (λb _ o z=>e _ _ z) λ_ z=>z⟩⟩
theorem RX.grow(h:RX K O va H H' v pv)(e:i8 H' H2):RX K O va H H2 v pv:=by
 cases pv with
 |dat d=>exact Dt.same (T7 e) h
 |own l=>obtain⟨a,xs,e1,e2,e3,h⟩:=h;exact⟨a,xs,e1,e2,e _ _ e3,h.same (T7 e)⟩
 |ob w c=>obtain⟨o,R,e1,e2,e3,h⟩:=h;exact⟨o,R,e1,e2,e3,h.same (T7 e) λb _ u z=>e _ _ z⟩
theorem RX.back(h:RX K O va H H' v pv)(e:i8 H2 H):RX K O va H2 H' v pv:=by
 cases pv with
 |dat d=>exact h
 |own l=>obtain⟨a,xs,e1,e2,e3,h⟩:=h;exact⟨a,xs,e1,e.free e2,e3,h⟩
 |ob w c=>obtain⟨o,R,e1,e2,e3,h⟩:=h;exact⟨o,R,e1,e2,λb hb=>e.free (e3 b hb),h⟩
theorem jS.Y7{R:List Addr}{c:OD}(h:jS K (n6 H' (R.map some++va) O) H' o R c)(n:∀b∈R,b∉O/\some b∉va):Dt K (n6 H' va O) (.ref o) c.d :=
 h.dt (Y9 (i8.refl _) λb z=>L6 _ z) λb hb u z=>F4.mpr ⟨(n b hb).1,(n b hb).2,z⟩
theorem RX.dt(h:RX K O va H H' v pv)(D:oj H va O):Dt K (n6 H' va O) v pv.d:=by
 have nw:∀a,H a=none->a∉O/\some a∉va:=λa e2=>by
  refine⟨λz=>?_,λz=>?_⟩
  . obtain⟨u,z⟩:=D.o a z;rw[e2]at z;cases z
  . obtain⟨u,z⟩:=D.a a z;rw[e2]at z;cases z
 cases pv with
 |dat d=>exact h
 |ob w c=>obtain⟨o,R,rfl,_,e3,h⟩:=h;exact h.Y7 λb hb=>nw b (e3 b hb)
 |own l =>
  obtain⟨a,xs,rfl,e2,e3,h⟩:=h;exact .lst (G6.of (F4.mpr ⟨(nw a e2).1,(nw a e2).2,e3⟩)) (h.same (Y9 (i8.refl _) λb z=>C4 _ z))
theorem RX.less(h:RX K O va H H' v pv)(s:∀b,some b∈vb->some b∈va):RX K O vb H H' v pv:=by
 cases pv with
 |dat d=>exact Dt.same (Y9 (i8.refl _) s) h
 |ob w c =>
  obtain⟨o,R,rfl,e2,e3,h⟩:=h;refine⟨o,R,rfl,e2,e3,h.same (Y9 (i8.refl _) λb z=>?_) (λ_ _ _ z=>z)⟩
  rcases List.mem_append.mp z with z|z
  . exact iV _ z
  . exact L6 _ (s b z)
 |own l =>
  obtain⟨a,xs,rfl,e2,e3,h⟩:=h;refine⟨a,xs,rfl,e2,e3,h.same (Y9 (i8.refl _) λb z=>?_)⟩
  rcases List.mem_cons.mp z with z|z
  . rw[z];exact A2
  . exact C4 _ (s b z)
theorem kK:i8 (n6 H as O) (n6 H (Y7 fr as) O):=Y9 (i8.refl _) λ_ h=>rC h
def Flat:c6->Bool
 | .none=>true
 | .bool _=>true
 | .int _=>true
 | .str _=>true
 |_=>false
theorem q4.append:∀{xs ys:List V} {ds es:List c6},q4 K H xs ds->q4 K H ys es->q4 K H (xs++ys) (ds++es)
 |_,_,_,_,.nil,h=>h
 |_,_,_,_,.cons a t,h=>.cons a (q4.append t h)
theorem q4.get':∀{xs:List V} {ds:List c6} {i:Nat} {x:V},q4 K H xs ds->xs[i]? = some x->∃d,ds[i]? = some d/\Dt K H x d
 |_,_,_,_,.nil,e=>by simp at e
 |_,_,0,_,.cons h _,e=>by simp at e;subst e;exact⟨_,rfl,h⟩
 |_,_,i+1,d,.cons _ t,e=>by
  obtain⟨x,h1,h2⟩:=q4.get' (i:=i) (x:=d) t (by simpa using e)
  exact⟨x,by simpa using h1,h2⟩
theorem q4.take:∀{xs:List V} {ds:List c6} (n:Nat),q4 K H xs ds->q4 K H (xs.take n) (ds.take n)
 |_,_,0,_=>by simp;exact .nil
 |_,_,_+1,.nil=>by simp;exact .nil
 |_,_,n+1,.cons h t=>by simp only[List.take_succ_cons];exact .cons h (q4.take n t)
theorem q4.drop:∀{xs:List V} {ds:List c6} (n:Nat),q4 K H xs ds->q4 K H (xs.drop n) (ds.drop n)
 |_,_,0,h=>by simpa using h
 |_,_,_+1,.nil=>by simp;exact .nil
 |_,_,n+1,.cons h t=>by simp only[List.drop_succ_cons];exact q4.drop n t
theorem q4.set:∀{xs:List V} {ds:List c6} (i:Nat) {x:V} {d:c6},q4 K H xs ds->Dt K H x d->q4 K H (xs.set i x) (ds.set i d)
 |_,_,_,_,_,.nil,_=>by simp;exact .nil
 |_,_,0,_,_,.cons _ t,h=>by simp only[W5];exact .cons h t
 |_,_,i+1,_,_,.cons a t,h=>by simp only[rh];exact .cons a (q4.set i t h)
end
def TX(K:i9)(fr:Bool)(te:TE)(F:Ds->Option PV):Prop :=
 ∀(O:List Addr) (h8:Hp) (as:As) (σ:St) (H:Hp) (ds:Ds) (pv:PV) (Q:VK),DS K O h8 as σ H ds->F ds=some pv->(∀v H',i8 H H'->RX K O (Y7 fr as) H H' v pv->Q v H')->te σ H Q
structure PX(X:Cx)(fr:Bool)(e:Expr)(te:TE)(F:Ds->Option PV):Prop where
 p:PE X e te
 t:TX X.K fr te F
def nK(K:i9)(tt:TT)(F:Ds->Option Bool):Prop :=
 ∀(O:List Addr) (h8:Hp) (as:As) (σ:St) (H:Hp) (ds:Ds) (b:Bool) (Q:Bool->Hp->Prop),DS K O h8 as σ H ds->F ds=some b->(∀H',i8 H H'->Q b H')->tt σ H Q
structure bF(X:Cx)(e:Expr)(tt:TT)(F:Ds->Option Bool):Prop where
 p:PT X e tt
 t:nK X.K tt F
structure mK(X:Cx)(e:Expr)(tt:TT)(F:Ds->Option Bool):Prop where
 p:PW X e tt
 t:nK X.K tt F
def YD(K:i9)(fr:Bool)(t:TA)(F:Ds->Option (List c6)):Prop :=
 ∀(O:List Addr) (h8:Hp) (as:As) (σ:St) (H:Hp) (ds:Ds) (l:List c6) (Q:List V->Hp->Prop),DS K O h8 as σ H ds->F ds=some l->(∀vs H',i8 H H'->q4 K (n6 H' (Y7 fr as) O) vs l->Q vs H')->t σ H Q
structure ek(X:Cx)(fr:Bool)(es:List Expr)(t:TA)(F:Ds->Option (List c6)):Prop where
 p:PA X es t
 t:YD X.K fr t F
def bE(K:i9)(r:R2)(f:c6->c6->Option PV):Prop :=
 ∀(O:List Addr) (va:As) (H:Hp) (x y:V) (d e:c6) (pv:PV) (Q:VK),oj H va O->Dt K (n6 H va O) x d->Dt K (n6 H va O) y e->f d e=some pv->(∀v H',i8 H H'->RX K O va H H' v pv->Q v H')->r x y H Q
def Wy(K:i9)(r:V->Hp->VK->Prop)(f:c6->Option PV):Prop :=
 ∀(O:List Addr) (va:As) (H:Hp) (x:V) (d:c6) (pv:PV) (Q:VK),oj H va O->Dt K (n6 H va O) x d->f d=some pv->(∀v H',i8 H H'->RX K O va H H' v pv->Q v H')->r x H Q
def mJ(K:i9)(r:List V->Hp->VK->Prop)(f:List c6->Option PV):Prop :=
 ∀(O:List Addr) (va:As) (H:Hp) (xs:List V) (ds:List c6) (pv:PV) (Q:VK),oj H va O->q4 K (n6 H va O) xs ds->f ds=some pv->(∀v H',i8 H H'->RX K O va H H' v pv->Q v H')->r xs H Q
noncomputable def b9(i:Nat):Ds->Option PV:=λds=>match ds[i]? with
 |some (some (.dat d))=>some (.dat d)
 |_=>none
noncomputable def K8(i:Nat):Ds->Option PV:=λds=>match ds[i]? with
 |some (some pv)=>some (.dat pv.d)
 |_=>none
noncomputable def fC(d:c6):Ds->Option PV:=λ_=>some (.dat d)
section
variable{X:Cx}{fr:Bool}{e a b c:Expr}{es rest:List Expr}{te ta tb tc:TE}{tt tu:TT}{t:TA}{Fa Fb Fc F:Ds->Option PV}{Ft Fu:Ds->Option Bool}{Fl:Ds->Option (List c6)}{pos:Pos}
theorem UI(i:Nat)(h:PE X e (O2 i)):PX X fr e (O2 i) (b9 i):=⟨h,by
 intro O h8 as σ H ds pv Q S hf q;delta b9 at hf;split at hf
 . rename_i d hd;cases hf;obtain⟨v,e1,h⟩:=S.slot i _ hd;exact⟨v,e1,q v H (i8.refl H) (h.same kK)⟩
 . cases hf⟩
theorem RH(i:Nat)(h:PE X e (O2 i)):PX X false e (O2 i) (K8 i):=⟨h,by
 intro O h8 as σ H ds pv Q S hf q;delta K8 at hf;split at hf
 . rename_i d hd;cases hf;have sl:=S.slot i _ hd;cases d with
   |dat d =>
    obtain⟨v,e1,h⟩:=sl;exact⟨v,e1,q v H (i8.refl H) (h.same kK)⟩
   |own l =>
    obtain⟨a,xs,e1,e2,e3,h⟩:=sl;exact⟨_,e1,q _ H (i8.refl H) (Dt.lst (G6.of (F4.mpr ⟨S.nO e2,by simp[Y7],e3⟩)) (h.same kK))⟩
   |ob w c =>
    obtain⟨o,R,e1,_,e2,h⟩:=sl;exact⟨_,e1,q _ H (i8.refl H) (h.dt kK λb hb u z=>F4.mpr ⟨S.nO (e2 b hb),by simp[Y7],z⟩)⟩
 . cases hf⟩
theorem zQ{v:V}{d:c6}(h:PE X e (tC v))(hd:∀H,Dt X.K H v d):PX X fr e (tC v) (fC d):=⟨h,by intro O h8 as σ H ds pv Q S hf q;cases hf;exact q v H (i8.refl H) (hd _)⟩
theorem UQ{i:Int}{j}:PX X fr (.Constant (.int i) j pos) (tC (.int i)) (fC (.int i)):=zQ Vn λ_=>.int i
theorem Xc{i:Bool}{j}:PX X fr (.Constant (.bool i) j pos) (tC (.bl i)) (fC (.bool i)):=zQ Xh λ_=>.bl i
theorem UK{i:Str}{j}:PX X fr (.Constant (.str i) j pos) (tC (.str i)) (fC (.str i)):=zQ Vi λ_=>.str i
theorem UO{j}:PX X fr (.Constant .none j pos) (tC .non) (fC .none):=zQ Vl λ_=>.non
def QK(F:Ds->Option PV):Ds->Option PV:=λds=>(F ds).bind λpv=>if Flat pv.d=true then some (.dat pv.d)else none
noncomputable def c9(f:c6->c6->Option PV)(Fa Fb:Ds->Option PV):Ds->Option PV:=λds=>(Fa ds).bind λx=>(Fb ds).bind λy=>f x.d y.d
theorem zb{f:c6->c6->Option PV}(hr:bE X.K r f)(ha:PX X fr a ta Fa)(hb:PX X fr b tb Fb):TX X.K fr (pV r ta tb) (c9 f Fa Fb):=by
 intro O h8 as σ H ds pv Q S hf q;delta c9 at hf;cases h1:Fa ds with
 |none=>rw[h1]at hf;cases hf
 |some x =>
  rw[h1]at hf;simp only[j4]at hf;cases h2:Fb ds with
  |none=>rw[h2]at hf;cases hf
  |some y =>
   rw[h2]at hf;simp only[j4]at hf;refine ha.t O h8 as σ H ds x _ S h1 λv H1 e1 r1=>?_
   refine hb.t O h8 as σ H1 ds y _ (S.grow e1) h2 λu H2 e2 r2=>?_
   have S2:=(S.grow e1).grow e2;refine hr O (Y7 fr as) H2 v u x.d y.d pv Q S2.dm ((r1.grow e2).dt S.dm) (r2.dt (S.grow e1).dm) hf λw H3 e3 r3=>?_
   exact q w H3 ((e1.trans e2).trans e3) (r3.back (e1.trans e2))
theorem mw{op:Operator}{f:c6->c6->Option PV}(ho:O9 X (ak op) r)(hr:bE X.K r f)(ha:PX X fr a ta Fa)(hb:PX X fr b tb Fb):PX X fr (.BinOp a op b pos) (pV r ta tb) (c9 f Fa Fb) :=
 ⟨Xg ho ha.p hb.p,zb hr ha hb⟩
theorem uB{f:c6->c6->Option PV}(ho:O9 X (S8 op) r)(hr:bE X.K r f)(hm:nV op b=false)(ha:PX X fr a ta Fa)(hb:PX X fr b tb Fb):PX X fr (.Compare a [op] [b] pos) (pV r ta tb) (c9 f Fa Fb) :=
 ⟨Ss ho ha.p hb.p hm,zb hr ha hb⟩
theorem Xa{f:c6->c6->Option PV}(ho:sV X r)(hr:bE X.K r f)(ha:PX X fr a ta Fa)(hb:PX X fr b tb Fb)(hs:sh b):PX X fr (.Subscript a b pos) (pV r ta tb) (c9 f Fa Fb) :=
 ⟨Qo ho ha.p hb.p hs,zb hr ha hb⟩
noncomputable def aa(f:c6->Option PV)(Fa:Ds->Option PV):Ds->Option PV:=λds=>(Fa ds).bind λx=>f x.d
theorem WY{op:UnaryOp}{r:V->Hp->VK->Prop}{f:c6->Option PV}(ho:QX X (unaryOp op) r)(hr:Wy X.K r f)(ha:PX X fr a ta Fa):PX X fr (.UnaryOp op a pos) (Xz r ta) (aa f Fa):=⟨Xe ho ha.p,by
 intro O h8 as σ H ds pv Q S hf q;delta aa at hf;cases h1:Fa ds with
 |none=>rw[h1]at hf;cases hf
 |some x =>
  rw[h1]at hf;simp only[j4]at hf;refine ha.t O h8 as σ H ds x _ S h1 λv H1 e1 r1=>?_
  refine hr O (Y7 fr as) H1 v x.d pv Q (S.grow e1).dm (r1.dt S.dm) hf λw H3 e3 r3=>?_
  exact q w H3 (e1.trans e3) (r3.back e1)⟩
def QU:c6->Option Bool
 | .bool b=>some b
 |_=>none
noncomputable def j8(F:Ds->Option PV):Ds->Option Bool:=λds=>(F ds).bind λx=>QU x.d
theorem uj{te:TE}(h:TX X.K fr te F):nK X.K (tB te) (j8 F):=by
 intro O h8 as σ H ds b Q S hf q;delta j8 at hf;cases h1:F ds with
 |none=>rw[h1]at hf;cases hf
 |some x =>
  rw[h1]at hf;simp only[j4]at hf;refine h O h8 as σ H ds x _ S h1 λv H1 e1 r1=>?_
  have d:=r1.dt S.dm;generalize x.d=z at d hf;cases z with
  |bool c=>cases hf;cases d;exact⟨_,rfl,q H1 e1⟩
  |_=>cases hf
theorem RS(h:PX X fr e te F)(he:∀whole,isTrue e X.env whole=(do let v <- whole;cc e.pos;holding [v] (truthy v)):=by intro _;rfl):bF X e (tB te) (j8 F):=⟨UX h.p he,uj h.t⟩
theorem df{f:c6->c6->Option PV}(ho:O9 X (S8 op) r)(hr:bE X.K r f)(hm:nV op b=false)(ha:PX X fr a ta Fa)(hb:PX X fr b tb Fb):bF X (.Compare a [op] [b] pos) (PZ (pV r ta tb)) (j8 (c9 f Fa Fb)) :=
 ⟨RY ho ha.p hb.p hm,uj (zb hr ha hb)⟩
noncomputable def cO(F:Ds->Option Bool):Ds->Option Bool:=λds=>(F ds).bind λb=>some (!b)
noncomputable def fE(F G:Ds->Option Bool):Ds->Option Bool:=λds=>(F ds).bind λb=>if b=true then G ds else some false
noncomputable def dR(F G:Ds->Option Bool):Ds->Option Bool:=λds=>(F ds).bind λb=>if b=true then some true else G ds
theorem Ro(h:nK X.K tt Ft):nK X.K (MG tt) (cO Ft):=by
 intro O h8 as σ H ds b Q S hf q;delta cO at hf;cases h1:Ft ds with
 |none=>rw[h1]at hf;cases hf
 |some x =>
  rw[h1]at hf;cases hf;exact h O h8 as σ H ds x _ S h1 q
theorem Rp(h:nK X.K tt Ft)(k:nK X.K tu Fu):nK X.K (MI tt tu) (fE Ft Fu):=by
 intro O h8 as σ H ds b Q S hf q;delta fE at hf;cases h1:Ft ds with
 |none=>rw[h1]at hf;cases hf
 |some x =>
  rw[h1]at hf;simp only[j4]at hf;refine h O h8 as σ H ds x _ S h1 λH1 e1=>?_
  cases x with
  |true=>exact k O h8 as σ H1 ds b Q (S.grow e1) hf λH2 e2=>q H2 (e1.trans e2)
  |false=>cases hf;exact q H1 e1
theorem TV(h:nK X.K tt Ft)(k:nK X.K tu Fu):nK X.K (Uh tt tu) (dR Ft Fu):=by
 intro O h8 as σ H ds b Q S hf q;delta dR at hf;cases h1:Ft ds with
 |none=>rw[h1]at hf;cases hf
 |some x =>
  rw[h1]at hf;simp only[j4]at hf;refine h O h8 as σ H ds x _ S h1 λH1 e1=>?_
  cases x with
  |false=>exact k O h8 as σ H1 ds b Q (S.grow e1) hf λH2 e2=>q H2 (e1.trans e2)
  |true=>cases hf;exact q H1 e1
theorem RU(h:bF X a tt Ft):bF X (.UnaryOp .Not a pos) (MG tt) (cO Ft):=⟨UY h.p,Ro h.t⟩
theorem Np(h:bF X a tt Ft):mK X (.BoolOp .And [a] pos) tt Ft:=⟨pw_and1 h.p,h.t⟩
theorem RQ(h:bF X a tt Ft):mK X (.BoolOp .Or [a] pos) tt Ft:=⟨pw_or1 h.p,h.t⟩
theorem RR(h:bF X a tt Ft)(k:mK X (.BoolOp .And (b::rest) pos) tu Fu):mK X (.BoolOp .And (a::b::rest) pos) (MI tt tu) (fE Ft Fu):=⟨pw_and h.p k.p,Rp h.t k.t⟩
theorem UU(h:bF X a tt Ft)(k:mK X (.BoolOp .Or (b::rest) pos) tu Fu):mK X (.BoolOp .Or (a::b::rest) pos) (Uh tt tu) (dR Ft Fu):=⟨pw_or h.p k.p,TV h.t k.t⟩
theorem mK.pt(h:mK X a tt Ft):bF X a tt Ft:=⟨PW.pt h.p,h.t⟩
noncomputable def iF(Fa Fb:Ds->Option PV):Ds->Option PV:=λds=>(j8 Fa ds).bind λb=>if b=true then Fb ds else some (.dat (.bool false))
noncomputable def Fn(Fa Fb:Ds->Option PV):Ds->Option PV:=λds=>(j8 Fa ds).bind λb=>if b=true then some (.dat (.bool true))else Fb ds
noncomputable def qA(Fa:Ds->Option PV):Ds->Option PV:=λds=>(j8 Fa ds).bind λb=>some (.dat (.bool !b))
theorem UL{op}(h:PX X fr a ta Fa):PX X fr (.BoolOp op [a] pos) ta Fa:=⟨Vj h.p,h.t⟩
theorem UT(h:PX X fr a ta Fa)(k:PX X fr (.BoolOp .And (b::rest) pos) tb Fb):PX X fr (.BoolOp .And (a::b::rest) pos) (Qh ta tb) (iF Fa Fb):=⟨Vo h.p k.p,by
 intro O h8 as σ H ds pv Q S hf q;delta iF at hf;cases h1:j8 Fa ds with
 |none=>rw[h1]at hf;cases hf
 |some x =>
  rw[h1]at hf;simp only[j4]at hf;refine uj h.t O h8 as σ H ds x _ S h1 λH1 e1=>?_
  cases x with
  |true=>exact k.t O h8 as σ H1 ds pv Q (S.grow e1) hf λv H2 e2 r=>q v H2 (e1.trans e2) (r.back e1)
  |false=>cases hf;exact q _ H1 e1 (Dt.bl _)⟩
theorem WZ(h:PX X fr a ta Fa)(k:PX X fr (.BoolOp .Or (b::rest) pos) tb Fb):PX X fr (.BoolOp .Or (a::b::rest) pos) (Ug ta tb) (Fn Fa Fb):=⟨Xf h.p k.p,by
 intro O h8 as σ H ds pv Q S hf q;delta Fn at hf;cases h1:j8 Fa ds with
 |none=>rw[h1]at hf;cases hf
 |some x =>
  rw[h1]at hf;simp only[j4]at hf;refine uj h.t O h8 as σ H ds x _ S h1 λH1 e1=>?_
  cases x with
  |false=>exact k.t O h8 as σ H1 ds pv Q (S.grow e1) hf λv H2 e2 r=>q v H2 (e1.trans e2) (r.back e1)
  |true=>cases hf;exact q _ H1 e1 (Dt.bl _)⟩
theorem UN(h:PX X fr a ta Fa):PX X fr (.UnaryOp .Not a pos) (Qc ta) (qA Fa):=⟨Vk h.p,by
 intro O h8 as σ H ds pv Q S hf q;delta qA at hf;cases h1:j8 Fa ds with
 |none=>rw[h1]at hf;cases hf
 |some x =>
  rw[h1]at hf;cases hf;exact uj h.t O h8 as σ H ds x _ S h1 λH1 e1=>q _ H1 e1 (Dt.bl _)⟩
noncomputable def jl(Ft:Ds->Option Bool)(Fa Fb:Ds->Option PV):Ds->Option PV:=λds=>(Ft ds).bind λb=>if b=true then Fa ds else Fb ds
theorem Xb(hc:bF X c tt Ft)(h:PX X fr a ta Fa)(k:PX X fr b tb Fb):PX X fr (.IfExp c a b pos) (XB tt ta tb) (jl Ft Fa Fb):=⟨NR hc.p h.p k.p,by
 intro O h8 as σ H ds pv Q S hf q;delta jl at hf;cases h1:Ft ds with
 |none=>rw[h1]at hf;cases hf
 |some x =>
  rw[h1]at hf;simp only[j4]at hf;refine hc.t O h8 as σ H ds x _ S h1 λH1 e1=>?_
  cases x with
  |true=>exact h.t O h8 as σ H1 ds pv Q (S.grow e1) hf λv H2 e2 r=>q v H2 (e1.trans e2) (r.back e1)
  |false=>exact k.t O h8 as σ H1 ds pv Q (S.grow e1) hf λv H2 e2 r=>q v H2 (e1.trans e2) (r.back e1)⟩
def Kl(f g:c6->c6->Option PV)(Fa Fb Fc:Ds->Option PV):Ds->Option PV:=λds=>(Fa ds).bind λx=>(Fb ds).bind λy=>(f x.d y.d).bind λr=>(QU r.d).bind λk =>
 if k=true then(Fc ds).bind λz=>g y.d z.d else some (.dat (.bool false))
noncomputable def c8:Ds->Option (List c6):=λ_=>some []
noncomputable def c5(F:Ds->Option PV)(G:Ds->Option (List c6)):Ds->Option (List c6):=λds=>(F ds).bind λx=>(G ds).bind λl=>some (x.d::l)
theorem Et:ek X fr [] mT c8:=⟨qg,by intro O h8 as σ H ds l Q S hf q;cases hf;exact q [] H (i8.refl H) .nil⟩
theorem NS(h:PX X fr e te F)(k:ek X fr es t Fl)(hs:j6 (e::es) X.env=(false,eval e X.env)::j6 es X.env:=by rfl):ek X fr (e::es) (iK te t) (c5 F Fl):=⟨iw h.p k.p hs,by
 intro O h8 as σ H ds l Q S hf q;delta c5 at hf;cases h1:F ds with
 |none=>rw[h1]at hf;cases hf
 |some x =>
  cases h2:Fl ds with
  |none=>rw[h1,h2]at hf;cases hf
  |some m =>
   rw[h1,h2]at hf;cases hf;refine h.t O h8 as σ H ds x _ S h1 λv H1 e1 r1=>?_
   refine k.t O h8 as σ H1 ds m _ (S.grow e1) h2 λvs H2 e2 r2=>?_
   exact q (v::vs) H2 (e1.trans e2) (.cons ((r1.grow e2).dt S.dm) r2)⟩
theorem oj.fresh(D:oj H va O)(h:H p=none):p∉O/\some p∉va:=by
 refine⟨λz=>?_,λz=>?_⟩
 . obtain⟨u,z⟩:=D.o p z;rw[h]at z;cases z
 . obtain⟨u,z⟩:=D.a p z;rw[h]at z;cases z
theorem uu{l:List c6}(D:oj H va O)(h:H p=none)(hd:q4 K (n6 H va O) vs l):RX K O va H (upd H p (.tup vs)) (.ref p) (.dat (.tuple l)):=by obtain⟨h1,h2⟩:=D.fresh h;exact Dt.tup (N4.of (F4.mpr ⟨h1,h2,M3⟩)) (hd.same (T7 (i8.new h)))
theorem gu{l:List c6}(h:H p=none)(hd:q4 K (n6 H va O) vs l):RX K O va H (upd H p (.lst vs)) (.ref p) (.own l):=by
 refine⟨p,vs,rfl,h,M3,hd.same (eh λb o h1 h2 h3=>⟨h1,λz=>?_,?_⟩)⟩
 . rcases List.mem_cons.mp z with z|z
   . cases z;rw[h]at h3;cases h3
   . exact h2 z
 . exact i8.new h _ _ h3
noncomputable def C2(Fl:Ds->Option (List c6)):Ds->Option PV:=λds=>(Fl ds).bind λl=>if l.length<=1000000 then some (.dat (.tuple l))else none
noncomputable def K9(Fl:Ds->Option (List c6)):Ds->Option PV:=λds=>(Fl ds).bind λl=>if l.length<=1000000 then some (.own l)else none
theorem pW{n:Nat}(h:n<=1000000):n<=B9:=P5 h (by rw[gN];decide)
theorem UJ{x1}(h:ek X fr es t Fl):PX X fr (.Tuple es x1 pos) (Ud t) (C2 Fl):=⟨Vh h.p,by
 intro O h8 as σ H ds pv Q S hf q;delta C2 at hf;cases h1:Fl ds with
 |none=>rw[h1]at hf;cases hf
 |some l =>
  rw[h1]at hf;simp only[j4]at hf;split at hf
  . rename_i hl;cases hf;refine h.t O h8 as σ H ds l _ S h1 λvs H1 e1 r1=>⟨by rw[r1.length];exact pW hl,λp hp=>?_⟩
    exact q _ _ (e1.trans (i8.new hp)) (RX.back (uu (S.grow e1).dm hp r1) e1)
  . cases hf⟩
theorem UP(h:ek X fr es t Fl):PX X fr (.List es pos) (Ui t) (K9 Fl):=⟨Vm h.p,by
 intro O h8 as σ H ds pv Q S hf q;delta K9 at hf;cases h1:Fl ds with
 |none=>rw[h1]at hf;cases hf
 |some l =>
  rw[h1]at hf;simp only[j4]at hf;split at hf
  . rename_i hl;cases hf;refine h.t O h8 as σ H ds l _ S h1 λvs H1 e1 r1=>⟨by rw[r1.length];exact pW hl,λp hp=>?_⟩
    exact q _ _ (e1.trans (i8.new hp)) (RX.back (gu hp r1) e1)
  . cases hf⟩
noncomputable def g0(F:List c6->Option PV)(Fl:Ds->Option (List c6)):Ds->Option PV:=λds=>(Fl ds).bind F
theorem PQ{r:List V->Hp->VK->Prop}{f:List c6->Option PV}(hr:mJ X.K r f)(h:ek X fr es t Fl):TX X.K fr (zD r t) (g0 f Fl):=by
 intro O h8 as σ H ds pv Q S hf q;delta g0 at hf;cases h1:Fl ds with
 |none=>rw[h1]at hf;cases hf
 |some l =>
  rw[h1]at hf;simp only[j4]at hf;refine h.t O h8 as σ H ds l _ S h1 λvs H1 e1 r1=>?_
  refine hr O (Y7 fr as) H1 vs l pv Q (S.grow e1).dm r1 hf λw H3 e3 r3=>?_
  exact q w H3 (e1.trans e3) (r3.back e1)
theorem kX{id:String}{x:Str}{p:Pos}{r:List V->Hp->VK->Prop}{f:List c6->Option PV}(hc:V0 X (.builtin id) r)(hr:mJ X.K r f)(hg:Gl X x)(hm:X.mg x=none)(hv:cX x=some (.builtin id))(ha:ek X fr (e::es) t Fl)(hn:x ≠ "__name__":=by decide)(hdb:(x==("__debug__" : Str))=false:=by decide)
  (he:j6 (e::es) X.env=(false,eval e X.env)::j6 es X.env:=by rfl) (hpl:(C9 pos (j6 es X.env)).any (·.1)=false:=by rfl):PX X fr (.Call (.Name x p) (e::es) [] pos) (zD r t) (g0 f Fl):=⟨zX hc hg hm hv ha.p hn hdb he hpl,PQ hr ha⟩
theorem qd{T:String}{x:Str}{p:Pos}{r:List V->Hp->VK->Prop}{f:List c6->Option PV}(hc:V0 X (.type T) r)(hr:mJ X.K r f)(hg:Gl X x)(hm:X.mg x=none)(hv:cX x=some (.type T))(ha:ek X fr (e::es) t Fl)(hn:x ≠ "__name__":=by decide)(hdb:(x==("__debug__" : Str))=false:=by decide)
  (he:j6 (e::es) X.env=(false,eval e X.env)::j6 es X.env:=by rfl) (hpl:(C9 pos (j6 es X.env)).any (·.1)=false:=by rfl):PX X fr (.Call (.Name x p) (e::es) [] pos) (zD r t) (g0 f Fl):=⟨Ja hc hg hm hv ha.p hn hdb he hpl,PQ hr ha⟩
def A8(K:i9)(F:List c6->Option PV):Sp:=λvs H Q _=>∃(O:List Addr) (ds:List c6) (pv:PV),(∀a∈O,∃u,H a=some u)/\q4 K (n6 H [] O) vs ds/\F ds=some pv/\∀v H',i8 H H'->RX K O [] H H' v pv->Q v H'
theorem Rm{f:List c6->Option PV}(h:ek X fr es t Fl):TX X.K fr (ow (A8 X.K f) [] E t) (g0 f Fl):=by
 intro O h8 as σ H ds pv Q S hf q;delta g0 at hf;cases h1:Fl ds with
 |none=>rw[h1]at hf;cases hf
 |some l =>
  rw[h1]at hf;simp only[j4]at hf;refine h.t O h8 as σ H ds l _ S h1 λvs H1 e1 r1=>?_
  have D:=(S.grow e1).dm (fr:=fr);rw[dJ];have hh:∀H,n6 H (Y7 fr as) O=n6 H [] (O++(Y7 fr as).filterMap id):=λH=>nD (bs:=[])
  refine⟨O++(Y7 fr as).filterMap id,l,pv,λa ha=>?_,by rw[<-hh];exact r1,hf,λv H2 e2 r2=>q v H2 (e1.trans e2) ?_⟩
  . rcases List.mem_append.mp ha with ha|ha
    . exact D.o a ha
    . obtain⟨x,hx,e⟩:=List.mem_filterMap.mp ha;have e':x=some a:=e;subst e';exact D.a a hx
  . cases pv with
    |dat d =>
     have r2':Dt X.K (n6 H2 [] (O++(Y7 fr as).filterMap id)) v d:=r2;rw[<-hh]at r2';exact r2'
    |own l =>
     obtain⟨a,xs,e3,e4,e5,r3⟩:=r2;refine⟨a,xs,e3,e1.free e4,e5,?_⟩;rw[show(some a::Y7 fr as:As)=[some a]++Y7 fr as from rfl,nD]
     exact r3
    |ob w c =>
     obtain⟨o,R,e3,e4,e5,r3⟩:=r2;refine⟨o,R,e3,e4,λb hb=>e1.free (e5 b hb),?_⟩
     rw[nD];rw[dJ]at r3;exact r3
theorem RP{CX:mO}{k:Nat}{fd:M7}{ps:List Str}{x:Str}{p:Pos}{f':List c6->Option PV}(G:Y0 X.prog X.w X.K X.mg X.base CX k f fd ps (A8 X.K f'))(hr:G7 k X.A)(hg:Gl X x)(hm:X.mg x=some (.ref f))(hk:iR X.K (.ref f)=true)(hb:Binds X.K fd ps [])(hx:Passes CX X E)
  (ha:ek X fr (e::es) t Fl) (hdb:(x==("__debug__" : Str))=false:=by decide) (he:j6 (e::es) X.env=(false,eval e X.env)::j6 es X.env:=by rfl) (hpl:(C9 pos (j6 es X.env)).any (·.1)=false:=by rfl) :
  PX X fr (.Call (.Name x p) (e::es) [] pos) (ow (A8 X.K f') [] E t) (g0 f' Fl):=⟨Es G hr hg hm hk hb .nil hx ha.p hdb he hpl,Rm ha⟩
end
end
section
variable{H H1 H' H'' Hb h8:Hp}{O rg:List Addr}{X:Cx}{tg elt iter:Expr}{tl te:TE}{K:i9}{va vb as:As}{es ifs:List Expr}{k:Nat}{tp:Pos}{xs vs:List V}{t tt:TT}{F Fc:Ds->Option Bool}
def bD(ds:Ds):Ds:=ds.map (Option.map λpv=>.dat pv.d)
theorem ij{b:Addr}{n:Nat}:some b∉(v9 n none:As):=λz=>by simp[Cy]at z
theorem SU{n:Nat}:n6 H (v9 n none) O=n6 H [] O:=by
 funext b
 delta n6;have h1:=ij (b:=b) (n:=n);by_cases c:b∈O
 . rw[c7 (.inl c),c7 (.inl c)]
 . rw[e9 (λz=>z.elim c h1),e9 (λz=>z.elim c (by simp))]
section
variable{K:i9}{O:List Addr}{h8 H H':Hp}{as:As}{σ:St}{ds:Ds}{v:V}{pv:PV}{fr:Bool}
theorem HL.bD{si:Option (Option V)}{bs:As}(S:DS K O h8 as σ H ds)(h:HL K O as H si pv)(hb:∀b,some b∈bs->some b∈as)(ho:∀b,(match pv with | .own _=>si=some (some (.ref b)) | .ob _ _=>some b∈as|_=>False)->some b∉bs):az K O bs H si rg (.dat pv.d):=by
 cases pv with
 |dat d=>obtain⟨v,e1,h⟩:=h;exact⟨v,e1,h.same (Y9 (i8.refl _) hb)⟩
 |own l =>
  obtain⟨a,xs,e1,e2,e3,h⟩:=h;exact⟨_,e1,.lst (G6.of (F4.mpr ⟨S.nO e2,ho a e1,e3⟩)) (h.same (Y9 (i8.refl _) hb))⟩
 |ob w c=>obtain⟨v,R,e1,_,e2,h⟩:=h;exact⟨_,e1,h.dt (Y9 (i8.refl _) hb) λb hb u z=>F4.mpr ⟨S.nO (e2 b hb),ho b (e2 b hb),z⟩⟩
theorem DS.bD(S:DS K O h8 as σ H ds):DS K O h8 (v9 ds.length none) σ H (bD ds) where
 ls:=by simp[L2.bD,S.ls]
 same:=S.same
 new:=λa h=>absurd h ij
 cL:=S.cL
 gx:=⟨λ_=>[],λi b z=>absurd z (by simp),λi j b z=>absurd z (by simp),λi pv h=>by
  delta L2.bD at h;rw[Q6]at h;cases hd:ds[i]? with
  |none=>rw[hd]at h;cases h
  |some x =>
   cases x with
   |none=>rw[hd]at h;cases h
   |some w =>
    rw[hd]at h;cases h;exact(S.slot i w hd).bD S (λb z=>absurd z ij) (λa _=>ij)⟩
def qy(i:Nat)(ds:Ds):Ds:=match ds[i]? with
 |some (some (.own l))=>ds.set i (some (.dat (.list l)))
 |_=>ds
theorem DS.qy(S:DS K O h8 as σ H ds)(i:Nat):∃as',DS K O h8 as' σ H (qy i ds):=by
 delta L2.qy;split
 . rename_i l hd;obtain⟨rg,r1,r2,r3⟩:=S.gx;refine⟨as.filter λx=>decide (∀b∈rg i,x≠some b),?_⟩
   have sub:∀b,some b∈as.filter (λx=>decide (∀b∈rg i,x≠some b))->some b∈as/\b∉rg i:=λb z=>by obtain⟨z1,z2⟩:=List.mem_filter.mp z;exact⟨z1,λq=>qY z2 b q rfl⟩
   have sm:i8 (n6 H as O) (n6 H (as.filter λx=>decide (∀b∈rg i,x≠some b)) O):=Y9 (i8.refl _) λb z=>(sub b z).1
   refine⟨by simp[S.ls],S.same,λa h=>S.new a (sub a h).1,S.cL,λj=>if j=i then[]else rg j,λj b hb=>?_,λj k b h1 h2=>?_,λj pv h=>?_⟩
   . dsimp only at hb;split at hb
     . simp at hb
     . rename_i hj;exact List.mem_filter.mpr ⟨r1 j b hb,decide_eq_true λb' q e=>hj (r2 j i b hb (by cases e;exact q))⟩
   . dsimp only at h1 h2;split at h1
     . simp at h1
     . split at h2
       . simp at h2
       . exact r2 j k b h1 h2
   . rw[qX]at h;by_cases hij:i=j
     . subst hij;rw[c7 rfl]at h;split at h
       . cases h;obtain⟨a,xs,e1,e2,e3,h⟩:=r3 i _ hd;exact⟨_,e1,.lst (G6.of (F4.mpr ⟨S.nO (r1 i a e2),λz=>(sub a z).2 e2,e3⟩)) (h.same sm)⟩
       . cases h
     . rw[e9 hij]at h;dsimp only;rw[e9 (λz=>hij z.symm)]
       exact(r3 j pv h).yf sm (λb _ o z=>z) λb z=>z
 . exact⟨as,S⟩
end
section
variable{X:Cx}{fr:Bool}{e:Expr}{te:TE}{F:Ds->Option PV}
noncomputable def oV(F:Ds->Option PV):Ds->Option PV:=λds=>F (bD ds)
theorem US(h:PX X true e te F):PX X false e te (oV F):=⟨h.p,by
 intro O h8 as σ H ds pv Q S hf q;refine h.t O h8 _ σ H _ pv Q S.bD hf λv H' e r=>q v H' e ?_
 exact r.less λb z=>by simp[Y7]at z⟩
end
def HM(K:i9)(O:List Addr)(Hb:Hp)(J:It)(items:List c6):Prop :=
 ∀H',i8 Hb H'->∀i,(i<items.length->J.go i H')/\(items.length<=i->J.stop i H') /\
  ∀x H'',J.PM i H' x H''->i<items.length->i8 H' H''/\∃d,items[i]? = some d/\∀vb:As,(∀b,some b∈vb->Hb b=none/\∃o,H' b=some o)->(∀b∈O,∃o,Hb b=some o)->Dt K (n6 H'' vb O) x d
def YC(K:i9)(fr:Bool)(wi:TI)(Fi:Ds->Option (List c6)):Prop :=
 ∀(O:List Addr) (h8:Hp) (as:As) (σ:St) (H:Hp) (ds:Ds) (items:List c6) (R:It->Hp->Prop),DS K O h8 as σ H ds->Fi ds=some items->(∀J H1,i8 H H1->HM K O (n6 H1 (Y7 fr as) []) J items->R J H1)->wi σ H R
structure jZ(X:Cx)(fr:Bool)(tg e:Expr)(wi:TI)(Fi:Ds->Option (List c6)):Prop where
 p:PI X tg e wi
 t:YC X.K fr wi Fi
def Wb(K:i9)(tl:TE):TI:=λσ H R=>tl σ H λx H1=>∃a,x=.ref a/\(((∃xs,G6 K H1 a xs)/\R (XU K a) H1)\/((∃xs,N4 K H1 a xs)/\R (XT K a) H1))
theorem Ve{l:Expr}(hl:PE X l tl):PI X tg l (Wb X.K tl):=by
 intro pins s σ H R I h;refine C5 (hl pins s σ H _ I h) λv s1 ⟨x,H1,I1,r1,q1⟩=>?_
 obtain⟨a,e,(⟨⟨xs,hq⟩,q⟩|⟨⟨xs,hq⟩,q⟩)⟩:=q1
 . subst e;cases r1;obtain⟨its,rv,p,hz⟩:=I1.list hq;refine Cs p.isList ?_;refine⟨s1.heap.objs.size,[s1.heap.objs.size],_,_,H1,rfl,I1.kept (t':=s1.toks) λb o e=>E7 _ e,HZ a _,⟨_,U8 _ rfl,rfl,rfl⟩,λb hb=>?_,q⟩
   have e:b=s1.heap.objs.size:=by simpa using hb
   subst e;exact I1.xx (o3 _) (I1.B6.fresh (o3 _))
 . subst e;cases r1;obtain⟨its,rv,p,hz⟩:=I1.tuple hq;refine wpAny_pyIter_tuple (show s1.heap.IsTuple a its.toArray from p) ?_
   refine⟨s1.heap.objs.size,[s1.heap.objs.size],_,_,H1,rfl,I1.kept (t':=s1.toks) λb o e=>E7 _ e,FR a _,⟨_,U8 _ rfl,rfl,rfl⟩,λb hb=>?_,q⟩
   have e:b=s1.heap.objs.size:=by simpa using hb
   subst e;exact I1.xx (o3 _) (I1.B6.fresh (o3 _))
noncomputable def aT:c6->Option (List c6)
 | .list l=>some l
 | .tuple l=>some l
 |_=>none
noncomputable def L8(F:Ds->Option PV):Ds->Option (List c6):=λds=>(F ds).bind λpv=>aT pv.d
theorem qu{x:V}{d:c6}(h:Dt K (n6 H1 va O) x d)(e:i8 (n6 H1 va []) H')(e2:i8 H' H'')(hv:∀b,some b∈vb->n6 H1 va [] b=none/\∃o,H' b=some o):Dt K (n6 H'' vb O) x d :=
 h.same (eh λb o h1 h2 h3=>by
  have hb:n6 H1 va [] b=some o:=F4.mpr ⟨by simp,h2,h3⟩
  refine⟨h1,λz=>?_,e2 _ _ (e _ _ hb)⟩
  rw[(hv b z).1]at hb;cases hb)
theorem uX:i8 (n6 H1 va O) (n6 H1 va []):=eh λb o _ h2 h3=>⟨by simp,h2,h3⟩
section
variable{X:Cx}{fr:Bool}{tg e a b:Expr}{te:TE}{ta:TA}{F:Ds->Option PV}{Fl:Ds->Option (List c6)}{p pos:Pos}
theorem Sl(h:PX X fr e te F):jZ X fr tg e (Wb X.K te) (L8 F):=⟨Ve h.p,by
 intro O h8 as σ H ds items R S hf q;delta L8 at hf;cases h1:F ds with
 |none=>rw[h1]at hf;cases hf
 |some pv =>
  rw[h1]at hf;simp only[j4]at hf;refine h.t O h8 as σ H ds pv _ S h1 λv H1 e1 r1=>?_
  have d:=r1.dt S.dm;generalize pv.d=z at d hf;cases d with
  |lst hs ht =>
   rename_i a xs l;cases hf;have hl:=ht.length;refine⟨a,rfl,.inl ⟨⟨xs,o9.seq hs⟩,q _ H1 e1 λH' e' i=>?_⟩⟩
   have hs':G6 X.K H' a xs:=e'.seq (uX.seq hs);refine⟨λhi=>⟨xs,xs[i]'(by lia),hs',J3 _⟩,λhi=>⟨xs,hs',by lia⟩,λx H'' y hi=>?_⟩
   obtain⟨e3,y⟩:=y;subst e3;obtain⟨d,ed,dd⟩:=ht.get' (y xs hs');exact⟨i8.refl _,d,ed,λvb hv _=>qu dd e' (i8.refl _) hv⟩
  |tup hs ht =>
   rename_i a xs l;cases hf;have hl:=ht.length;refine⟨a,rfl,.inr ⟨⟨xs,o9.cy hs⟩,q _ H1 e1 λH' e' i=>?_⟩⟩
   have hs':N4 X.K H' a xs:=e'.cy (uX.cy hs);refine⟨λhi=>⟨xs,xs[i]'(by lia),hs',J3 _⟩,λhi=>⟨xs,hs',by lia⟩,λx H'' y hi=>?_⟩
   obtain⟨e3,y⟩:=y;subst e3;obtain⟨d,ed,dd⟩:=ht.get' (y xs hs');exact⟨i8.refl _,d,ed,λvb hv _=>qu dd e' (i8.refl _) hv⟩
  |_=>cases hf⟩
def V3(lo:Int)(n:Nat):List c6:=(A4 n).map λk=>.int (lo+(k:Nat))
theorem VZ{lo:Int}{n:Nat}:HM K O Hb (Rc lo n) (V3 lo n):=by
 intro H' e i;have hl:(V3 lo n).length=n:=by simp[V3]
 refine⟨λhi=>(by rw[hl]at hi;exact hi),λhi=>(by rw[hl]at hi;exact hi),λx H'' y hi=>?_⟩
 obtain⟨e1,e2⟩:=y;subst e1;subst e2;rw[hl]at hi;refine⟨i8.refl _,.int (lo+i),?_,λvb _ _=>.int _⟩
 simp[V3,lY hi]
def I0:List c6->Option (List c6)
 | [.int j]=>@ite _ (-(4611686018427387904)<=j/\j<4611686018427387904) (LY _) (some (V3 0 j.toNat)) none
 |_=>none
noncomputable def D7(f:List c6->Option (List c6))(Fl:Ds->Option (List c6)):Ds->Option (List c6):=λds=>(Fl ds).bind f
theorem Gu(hg:Gl X "range")(hm:X.mg "range" = none)(ha:ek X fr [a] ta Fl)(hs:j6 [a] X.env=[(false,eval a X.env)]:=by rfl):jZ X fr tg (.Call (.Name "range" p) [a] [] pos) (Qw ta) (D7 I0 Fl):=⟨IY hg hm ha.p hs,by
 intro O h8 as σ H ds items R S hf q;delta D7 at hf;cases h1:Fl ds with
 |none=>rw[h1]at hf;cases hf
 |some l =>
  rw[h1]at hf;simp only[j4]at hf;refine ha.t O h8 as σ H ds l _ S h1 λvs H1 e1 r1=>?_
  delta I0 at hf;split at hf
  . rename_i j;split at hf
    . rename_i hj;cases hf;cases r1 with
      |cons r rr =>
       cases r;cases rr;exact⟨j,rfl,hj.1,hj.2,q _ H1 e1 VZ⟩
    . cases hf
  . cases hf⟩
def Qv(K:i9)(ta:TA):TI:=λσ H R=>ta σ H λvs H1=>∃a b k1 k2,vs=[.ref a,.ref b]/\(∃xs,bY k1 K H1 a xs)/\(∃ys,bY k2 K H1 b ys)/\R (XS k1 k2 K a b) H1
theorem Sm(hg:Gl X "zip")(hm:X.mg "zip" = none)(ha:PA X [a,b] ta)(hs:j6 [a,b] X.env=[(false,eval a X.env),(false,eval b X.env)]:=by rfl)(hs2:j6 [b] X.env=[(false,eval b X.env)]:=by rfl):
  PI X (.Tuple es k tp) (.Call (.Name "zip" p) [a,b] [] pos) (Qv X.K ta):=by
 intro pins s σ H R I h;refine Call_ (ny I hg hm boot_zip (wM (C5 (ha pos pins s σ H _ I h) λus s1 ⟨vs,H1,I1,r1,q1⟩=>?_) (by rw[hs,hs2]) (by rw[hs2];rfl)))
 obtain⟨x,y,k1,k2,e,⟨xs,hx⟩,⟨ys,hy⟩,q⟩:=q1;subst e;obtain⟨u,v,e,r2,r3⟩:=vals2 r1;subst e;cases r2;cases r3;obtain⟨us,sx⟩:=I1.Z6 hx;obtain⟨vs,sy⟩:=I1.Z6 hy;refine KH sx sy λh' Z kk=>?_
 refine wpAny_pyIter_zip Z.hz ?_;have I2:Inv X pins σ H1 {s1 with heap:=h'}:=I1.kept (t':=s1.toks) kk
 refine⟨s1.heap.objs.size+4,_,_,_,H1,rfl,I2,Mz (Mr _),Z,λb hb=>?_,q⟩
 have hb':b=s1.heap.objs.size+4\/b=s1.heap.objs.size+2\/b=s1.heap.objs.size+3\/b=s1.heap.objs.size\/b=s1.heap.objs.size+1:=by simpa using hb
 have hge:s1.heap.objs.size<=b:=by
  rcases hb' with e|e|e|e|e<;>rw[e]
  . exact qV _ _
  . exact qV _ _
  . exact qV _ _
  . exact o3 _
  . exact qV _ _
 exact I1.xx hge (I1.B6.fresh hge)
theorem i8.Z6{kd:Bool}{a:Addr}(e:i8 H H')(h:bY kd K H a xs):bY kd K H' a xs:=by
 cases kd
 . exact e.seq h
 . exact e.cy h
theorem Dt.Z6{v:V}{d:c6}{l:List c6}(h:Dt K H v d)(hd:aT d=some l):∃a kd xs,v=.ref a/\bY kd K H a xs/\q4 K H xs l:=by
 cases h with
 |lst hs ht=>cases hd;exact⟨_,false,_,rfl,hs,ht⟩
 |tup hs ht=>cases hd;exact⟨_,true,_,rfl,hs,ht⟩
 |_=>cases hd
noncomputable def cD:List c6->Option (List c6)
 | [d,e]=>(aT d).bind λl=>(aT e).bind λm=>some (List.zipWith (λx y=>.tuple [x,y]) l m)
 |_=>none
theorem Sk(hg:Gl X "zip")(hm:X.mg "zip" = none)(ha:ek X fr [a,b] ta Fl)(hs:j6 [a,b] X.env=[(false,eval a X.env),(false,eval b X.env)]:=by rfl)(hs2:j6 [b] X.env=[(false,eval b X.env)]:=by rfl):
  jZ X fr (.Tuple es k tp) (.Call (.Name "zip" p) [a,b] [] pos) (Qv X.K ta) (D7 cD Fl):=⟨Sm hg hm ha.p hs hs2,by
 intro O h8 as σ H ds items R S hf q;delta D7 at hf;cases h1:Fl ds with
 |none=>rw[h1]at hf;cases hf
 |some l =>
  rw[h1]at hf;simp only[j4]at hf;refine ha.t O h8 as σ H ds l _ S h1 λvs H1 e1 r1=>?_
  delta cD at hf;split at hf
  . rename_i d1 d2;cases hl:aT d1 with
    |none=>rw[hl]at hf;cases hf
    |some l1 =>
     cases hl2:aT d2 with
     |none=>rw[hl,hl2]at hf;cases hf
     |some l2 =>
      rw[hl,hl2]at hf;cases hf;cases r1 with
      |cons r rr =>
       cases rr with
       |cons r' rr =>
        cases rr;obtain⟨a,k1,xs,rfl,s1,t1⟩:=r.Z6 hl;obtain⟨b,k2,ys,rfl,s2,t2⟩:=r'.Z6 hl2;refine⟨a,b,k1,k2,rfl,⟨xs,o9.Z6 s1⟩,⟨ys,o9.Z6 s2⟩,q _ H1 e1 λH' e' i=>?_⟩
        have s1':bY k1 X.K H' a xs:=e'.Z6 (uX.Z6 s1);have s2':bY k2 X.K H' b ys:=e'.Z6 (uX.Z6 s2);have g1:=t1.length;have g2:=t2.length;rw[List.length_zipWith];refine⟨λhi=>⟨xs,ys,xs[i]'(by lia),ys[i]'(by lia),s1',s2',J3 _,J3 _⟩,λhi=>⟨xs,ys,s1',s2',by lia⟩,λx H'' y hi=>?_⟩
        obtain⟨pp,z1,z2,x',y',z3,z4⟩:=y;obtain⟨z5,z6⟩:=z4 xs ys s1' s2';subst z1;subst z3;obtain⟨dx,ex,hx⟩:=t1.get' z5;obtain⟨dy,ey,hy⟩:=t2.get' z6;refine⟨i8.new z2,.tuple [dx,dy],by rw[List.getElem?_zipWith,ex,ey],λvb hv hO=>?_⟩
        refine .tup (N4.of (F4.mpr ⟨λz=>?_,λz=>?_,M3⟩)) (.cons (qu hx e' (i8.new z2) hv) (.cons (qu hy e' (i8.new z2) hv) .nil))
        . obtain⟨o,z⟩:=hO _ z;rw[e' _ _ z]at z2;cases z2
        . obtain⟨_,o,z⟩:=hv _ z;rw[z]at z2;cases z2
  . cases hf⟩
end
def yP(K:i9)(n:Nat)(g:TG)(gt:c6->Option (List c6)):Prop :=
 ∀(O:List Addr) (va:As) (H:Hp) (v:V) (d:c6) (σ:St) (bs:List c6) (Q:St->Hp->Prop),Dt K (n6 H va O) v d->gt d=some bs->(∀vs,q4 K (n6 H va O) vs bs->vs.length=n->Q (vs.map some++σ) H)->g v (v9 n none++σ) H Q
def m7:c6->Option (List c6):=λd=>some [d]
def N7(n:Nat):c6->Option (List c6)
 | .tuple l=>if l.length=n then some l else none
 |_=>none
theorem ME:yP K 1 (ay 0) m7:=by intro O va H v d σ bs Q hd hg q;cases hg;exact q [v] (.cons hd .nil) rfl
theorem Yj{α:Type}:∀{l:List α},l.length=2->∃x y,l=[x,y]
 | [x,y],_=>⟨x,y,rfl⟩
theorem MD:yP K 2 (AJ K 2 (rX (ay 0) (rX (ay 1) Hq))) (N7 2):=by
 intro O va H v d σ bs Q hd hg q;cases hd with
 |tup hs ht =>
  rename_i a xs l;have hg':(if l.length=2 then some l else none)=some bs:=hg
  split at hg'
  . rename_i hl;have e:l=bs:=ar hg';rw[e]at ht hl;have hx:xs.length=2:=ht.length.trans hl;obtain⟨x,y,rfl⟩:=Yj hx;exact⟨a,[x,y],rfl,o9.cy hs,rfl,x,[y],rfl,y,[],rfl,rfl,q [x,y] ht rfl⟩
  . cases hg'
 |_=>cases hg
def L4(l:List c6):Ds:=l.map λd=>some (.dat d)
@[simp] theorem lq:L4 []=[]:=rfl
@[simp] theorem jn(d:c6)(l:List c6):L4 (d::l)=some (.dat d)::L4 l:=rfl
theorem q4.slots{l:List c6}(h:q4 K H vs l){i:Nat}{pv:PV}(e:(L4 l)[i]? = some (some pv)):∃d v,pv=.dat d/\vs[i]? = some v/\Dt K H v d:=by
 delta L4 at e;rw[Q6]at e;cases hd:l[i]? with
 |none=>rw[hd]at e;cases e
 |some d =>
  rw[hd]at e;cases e;obtain⟨x,h1,h2⟩:=h.get hd;exact⟨d,x,rfl,h1,h2⟩
theorem xv{n:Nat}:n6 H (v9 n none++as) O=n6 H as O:=by
 funext b
 delta n6;have:some b∈v9 n none++as↔some b∈as:=by rw[jD];exact⟨λz=>z.elim (λz=>absurd z ij) id,.inr⟩
 by_cases c:b∈O\/some b∈as
 . rw[c7 (c.imp id this.mpr),c7 c]
 . rw[e9 (λz=>c (z.imp id this.mp)),e9 c]
theorem DS.pre{σ:St}{ds:Ds}{l:List c6}(S:DS K O h8 as σ H ds)(h:q4 K (n6 H as O) vs l):
  DS K O h8 (v9 l.length none++as) (vs.map some++σ) H (L4 l++ds) where
 ls:=by simp[L4,S.ls,h.length]
 same:=S.same
 new:=λa z=>S.new a ((List.mem_append.mp z).elim (λz=>absurd z ij) id)
 cL:=S.cL
 gx:=by
  obtain⟨rg,r1,r2,r3⟩:=S.gx;have hl:=h.length;have ld:(L4 l).length=l.length:=by simp[L4]
  refine⟨λi=>if i<l.length then[]else rg (i-l.length),λi b z=>?_,λi j b h1 h2=>?_,λi pv e=>?_⟩
  . dsimp only at z;split at z
    . simp at z
    . exact L6 _ (r1 _ b z)
  . dsimp only at h1 h2;split at h1
    . simp at h1
    . split at h2
      . simp at h2
      . have:=r2 _ _ b h1 h2;lia
  . rw[CD]at e;split at e
    . rename_i hi;rw[ld]at hi;obtain⟨d,v,rfl,h1,h2⟩:=h.slots e;refine⟨v,?_,by rw[xv];exact h2⟩
      rw[rp (by simp;lia),Q6,h1]
      rfl
    . rename_i hi;rw[ld]at hi e;dsimp only;rw[e9 hi,wL (by simp;lia)]
      simp only[N9,hl];exact(r3 _ pv e).yf (by rw[xv];exact i8.refl _) (λb _ o z=>z) λb z=>z
def D6(gt:c6->Option (List c6))(Fc:Ds->Option Bool)(Fe:Ds->Option PV)(ds:Ds):List c6->Option (List c6)
 | []=>some []
 |x::r=>(gt x).bind λbs=>(Fc (L4 bs++ds)).bind λb=>if b=true then(Fe (L4 bs++ds)).bind λy=>(D6 gt Fc Fe ds r).bind λl=>some (y.d::l)else D6 gt Fc Fe ds r
noncomputable def m9(Fi:Ds->Option (List c6))(gt:c6->Option (List c6))(Fc:Ds->Option Bool)(Fe:Ds->Option PV):Ds->Option PV:=λds=>(Fi ds).bind λitems=>if items.length<=1000000 then(D6 gt Fc Fe ds items).bind λl=>some (.own l)else none
structure ky(X:Cx)(ifs:List Expr)(t:TT)(F:Ds->Option Bool):Prop where
 p:ud X ifs t
 t:nK X.K t F
noncomputable def m6:Ds->Option Bool:=λ_=>some true
theorem IX:ky X [] Qf m6:=⟨NK,by intro O h8 as σ H ds b Q S hf q;cases hf;exact q H (i8.refl H)⟩
theorem IW{c:Expr}(h:bF X c t F):ky X [c] t F:=⟨NJ h.p,h.t⟩
theorem wZ{bs nb:List Str}{scope:ag}{pos:Pos}{wi:TI}{g:TG}{Fi:Ds->Option (List c6)}{gt:c6->Option (List c6)}{Fe:Ds->Option PV}
  (hc:X.calm=true) (B:kE X bs nb scope) (hi:jZ X true tg iter wi Fi) (go:ma bs.length g) (hg:∀cl C fp s H pins,PG (W4 X bs nb scope cl C fp s H pins) tg g) (hgt:yP X.K bs.length g gt) (ht:∀cl C fp s H pins,ky (W4 X bs nb scope cl C fp s H pins) ifs tt Fc) (he:∀cl C fp s H pins,PX (W4 X bs nb scope cl C fp s H pins) true elt te Fe)
  (hs:∀x,fg iter X.env x=pure x:=by intro _;rfl):PX X true (.ListComp elt [⟨tg,iter,ifs,0⟩] scope pos) (kj bs wi g tt te) (m9 Fi gt Fc Fe):=⟨Sr hc B hi.p go hg (λ_ _ _ _ _ _=>(ht _ _ _ _ _ _).p) (λ_ _ _ _ _ _=>(he _ _ _ _ _ _).p) hs,by
 intro O h8 as σ H ds pv Q S hf q;have tE:TX X.K true te Fe:=(he [] 0 [] X.P9 X.h8 []).t;have tC:nK X.K tt Fc:=(ht [] 0 [] X.P9 X.h8 []).t;unfold m9 at hf;cases h1:Fi ds with
 |none=>rw[h1]at hf;cases hf
 |some items =>
  rw[h1]at hf;simp only[j4]at hf;split at hf
  . rename_i hn;cases h2:D6 gt Fc Fe ds items with
    |none=>rw[h2]at hf;cases hf
    |some l =>
     rw[h2]at hf;cases hf;refine hi.t O h8 as σ H ds items _ S h1 λJ H1 e1 it=>?_
     have S1:=S.grow e1;have it':HM X.K O (n6 H1 as []) J items:=it;refine⟨items.length,λi ys H'=>i<=items.length/\i8 H1 H'/\∃l1 l2,q4 X.K (n6 H' as O) ys l1/\D6 gt Fc Fe ds (items.drop i)=some l2/\l1++l2=l,pW hn,⟨cT _,i8.refl _,[],l,.nil,h2,rfl⟩,?_⟩
     rintro i ys H' ⟨hi',e2,l1,l2,d1,c2,el⟩;have S2:=S1.grow e2;obtain⟨go',st',yl'⟩:=it' H' (o9.trans e2) i;by_cases hlt:i<items.length
     . refine .inr ⟨go' hlt,hlt,λx H'' y=>?_⟩
       obtain⟨e3,d,ed,dt⟩:=yl' x H'' y hlt;have S3:=S2.grow e3;have dx:Dt X.K (n6 H'' as O) x d:=dt as (λb hb=>⟨by unfold n6;rw[c7 (.inr hb)],let ⟨_,z⟩:=(S2.new b hb).2;⟨_,z⟩⟩) λb hb=>by
        obtain⟨o,z⟩:=S.cL b hb;refine⟨o,F4.mpr ⟨by simp,λz2=>?_,S1.same _ _ z⟩⟩
        rw[(S.new b z2).1]at z;cases z
       have ed':items.drop i=d::items.drop (i+1):=by
        rw[sk hlt];have:items[i]=d:=by have z:=J3 hlt;rw[ed]at z;exact(ar z).symm
        rw[this]
       rw[ed']at c2;unfold D6 at c2;cases h3:gt d with
       |none=>rw[h3]at c2;cases c2
       |some bs' =>
        rw[h3]at c2;simp only[j4]at c2;cases h4:Fc (L4 bs'++ds)with
        |none=>rw[h4]at c2;cases c2
        |some b =>
         rw[h4]at c2;simp only[j4]at c2;refine hgt O as H'' x d σ bs' _ dx h3 λvs dv lv=>?_
         have S4:=S3.pre dv;refine tC O h8 _ _ H'' _ b _ S4 h4 λH5 e5=>?_
         cases b with
         |false =>
          rw[e9 (by decide)]at c2
          rw[e9 (by decide)]
          exact⟨hlt,(e2.trans e3).trans e5,l1,l2,d1.same (T7 (e3.trans e5)),c2,el⟩
         |true =>
          rw[c7 rfl]at c2;rw[c7 rfl];cases h5:Fe (L4 bs'++ds)with
          |none=>rw[h5]at c2;cases c2
          |some yv =>
           rw[h5]at c2;simp only[j4]at c2;cases h6:D6 gt Fc Fe ds (items.drop (i+1))with
           |none=>rw[h6]at c2;cases c2
           |some l3 =>
            rw[h6]at c2;cases c2;refine tE O h8 _ _ H5 _ yv _ (S4.grow e5) h5 λu H6 e6 r6=>?_
            have d6:=r6.dt (S4.grow e5).dm;have d7:Dt X.K (n6 H6 as O) u yv.d:=by have z:Dt X.K (n6 H6 (v9 bs'.length none++as) O) u yv.d:=d6;rw[xv]at z;exact z
            exact⟨hlt,((e2.trans e3).trans e5).trans e6,l1++[yv.d],l3,(d1.same (T7 ((e3.trans e5).trans e6))).append (.cons d7 .nil),h6,by rw[<-el];simp⟩
     . have hi2:i=items.length:=by lia
       subst hi2;rw[Cn]at c2;cases c2;rw[dJ]at el;subst el;exact .inl ⟨st' (o3 _),λp hp=>q _ _ ((e1.trans e2).trans (i8.new hp)) (RX.back (gu hp d1) (e1.trans e2))⟩
  . cases hf⟩
end
section
variable{H H1 h8 Hb:Hp}{as:As}{O R:List Addr}{K:i9}{σ:St}{ds:Ds}{pos':Pos}{a f:Addr}{g:pM}{r:List c6->Ds->Option Ds}
inductive Out where
 |next (ds:Ds)
 |ret (pv:PV)
 |brk (ds:Ds)
 |cont (ds:Ds)
 |up (x:c6)
 |retO (pv:PV) (ds:Ds)
def Yn(K:i9)(O:List Addr)(H:Hp)(ea:Addr)(x:c6):Prop:=∃C dx fld v d,x=xB C fld d/\rA K C/\aq K (.ref C) fld=some none/\H ea=some (.ext (Xx ea C (some dx)))/\H dx=some (.xd [(fld,v)])/\dx∉O/\Dt K (n6 H [] (ea::O)) v d
def wR(X:Cx)(O:List Addr)(h8:Hp)(D:Ends):Out->Prop
 | .next ds=>∀as σ H,DS X.K O h8 as σ H ds->D.nx σ H
 | .brk ds=>∀as σ H,DS X.K O h8 as σ H ds->D.bk σ H
 | .cont ds=>∀as σ H,DS X.K O h8 as σ H ds->D.ct σ H
 | .ret pv=>∀v H,i8 h8 H->RX X.K O [] h8 H v pv->D.rt v H
 | .up x=>∀ea H,i8 h8 H->h8 ea=none->Yn X.K O H ea x->∀pins σ s,Inv X pins σ H s->X.xe (.ref ea) s
 | .retO pv ds=>∀as σ Hm H v,DS X.K O h8 as σ Hm ds->i8 Hm H->RX X.K O as Hm H v pv->D.rt v H
def XM(X:Cx)(t:TS)(G:Ds->Option Out):Prop :=
 ∀(O:List Addr) (h8:Hp) (as:As) (σ:St) (H:Hp) (ds:Ds) (D:Ends) (o:Out),DS X.K O h8 as σ H ds->G ds=some o->wR X O h8 D o->t D σ H
structure M5(X:Cx)(st:Stmt)(t:TS)(G:Ds->Option Out):Prop where
 p:PS X st t
 t:XM X t G
structure fH(X:Cx)(st:List Stmt)(t:TS)(G:Ds->Option Out):Prop where
 p:mL X st t
 t:XM X t G
noncomputable def t9:Ds->Option Out:=λds=>some (.next ds)
noncomputable def i6(G1 G2:Ds->Option Out):Ds->Option Out:=λds=>(G1 ds).bind λo=>match o with
 | .next ds'=>G2 ds'
 |o=>some o
section
variable{X:Cx}{st:Stmt}{rest sa sb:List Stmt}{t u:TS}{G G1 G2:Ds->Option Out}{fr:Bool}{e c:Expr}{te:TE}{tt:TT}{F:Ds->Option PV}{Ft:Ds->Option Bool}{pos:Pos}
theorem NA:fH X [] Qd t9:=⟨Sf,by intro O h8 as σ H ds D o S hf q;cases hf;exact q as σ H S⟩
theorem Nz(h:M5 X st t G):fH X [st] t G:=⟨Se h.p,h.t⟩
theorem IP(h1:M5 X st t G1)(h2:fH X rest u G2):fH X (st::rest) (Ue t u) (i6 G1 G2):=⟨NB h1.p h2.p,by
 intro O h8 as σ H ds D o S hf q;delta i6 at hf;cases e1:G1 ds with
 |none=>rw[e1]at hf;cases hf
 |some o1 =>
  rw[e1]at hf;simp only[j4]at hf;refine h1.t O h8 as σ H ds {D with nx:=u D} o1 S e1 ?_
  cases o1 with
  |next ds1=>exact λas' σ' H' S'=>h2.t O h8 as' σ' H' ds1 D o S' hf q
  |ret pv=>cases hf;exact q
  |brk ds1=>cases hf;exact q
  |cont ds1=>cases hf;exact q
  |up x=>cases hf;exact q
  |retO pv ds1=>cases hf;exact q⟩
noncomputable def iO(i:Nat)(G:Ds->Option Out):Ds->Option Out:=λds=>G (qy i ds)
theorem Nx(i:Nat)(h:M5 X st t G):M5 X st t (iO i G):=⟨h.p,by intro O h8 as σ H ds D o S hf q;obtain⟨as',S'⟩:=S.qy i;exact h.t O h8 as' σ H _ D o S' hf q⟩
theorem DS.set{K:i9}{O:List Addr}{h8 H:Hp}{as:As}{σ:St}{ds:Ds}{v:V}{d:c6}(S:DS K O h8 as σ H ds)(i:Nat)(h:Dt K (n6 H as O) v d):DS K O h8 as (σ.set i (some v)) H (ds.set i (some (.dat d))):=by
 obtain⟨rg,r1,r2,r3⟩:=S.gx;refine⟨by simp[S.ls],S.same,S.new,S.cL,rg,r1,r2,λj pv hj=>?_⟩
 by_cases hij:i=j
 . subst hij;rw[qX]at hj;rw[c7 rfl]at hj;split at hj
   . rename_i hl;cases hj;exact⟨v,by rw[rm (by rw[S.ls];exact hl)],h⟩
   . cases hj
 . rw[fh hij]at hj;rw[fh hij];exact r3 j pv hj
theorem mE(e1:i8 H H1)(e2:∀b∈R,H b=none):i8 (n6 H as O) (n6 H1 (R.map some++as) O):=eh λb o h1 h2 h3=>⟨h1,λz=>by
 rcases List.mem_append.mp z with z|z
 . obtain⟨b',z1,z2⟩:=mem_map.mp z;cases z2;rw[e2 b z1]at h3;cases h3
 . exact h2 z,e1 _ _ h3⟩
theorem DS.store{v:V}{pv:PV}(S:DS K O h8 as σ H ds)(e1:i8 H H1)(i:Nat)(r:RX K O as H H1 v pv):∃as',DS K O h8 as' (σ.set i (some v)) H1 (ds.set i (some pv)):=by
 have S1:=S.grow e1;have nw:∀R:List Addr,(∀b∈R,H b=none)->(∀b∈R,∃u:Cl,H1 b=some u.1)->DS K O h8 (R.map some++as) σ H1 ds/\∀b∈R,h8 b=none/\some b∉as/\∃u:Cl,H1 b=some u.1:=λR hR hC=>by
  have hn:∀b∈R,some b∉as:=λb hb z=>by obtain⟨_,o,z⟩:=S.new b z;rw[hR b hb]at z;cases z
  have hh:∀b∈R,h8 b=none/\some b∉as/\∃u:Cl,H1 b=some u.1:=λb hb=>⟨S.same.free (hR b hb),hn b hb,hC b hb⟩
  obtain⟨rg,r1,r2,r3⟩:=S.gx;refine⟨⟨S.ls,S1.same,λb hb=>?_,S.cL,rg,λi b z=>L6 _ (r1 i b z),r2,λj pv hj=>(r3 j pv hj).yf (mE e1 hR) (λb _ o z=>e1 _ _ z) λb z=>z⟩,hh⟩
  rcases List.mem_append.mp hb with z|z
  . obtain⟨b',z1,z2⟩:=mem_map.mp z;cases z2;exact⟨(hh b z1).1,(hh b z1).2.2⟩
  . exact S1.new b z
 have go:∀R:List Addr,(∀b∈R,H b=none)->(∀b∈R,∃u:Cl,H1 b=some u.1)->az K O (R.map some++as) H1 (some (some v)) R pv->∃as',DS K O h8 as' (σ.set i (some v)) H1 (ds.set i (some pv)):=λR hR hC hs=>by
  obtain⟨S2,hh⟩:=nw R hR hC;obtain⟨rg,r1,r2,r3⟩:=S.gx;refine⟨_,by simp[S.ls],S1.same,S2.new,S.cL,λj=>if j=i then R else rg j,λj b hb=>?_,λj k b h1 h2=>?_,λj pv hj=>?_⟩
  . dsimp only at hb;split at hb
    . exact iV _ (mem_map.mpr ⟨b,hb,rfl⟩)
    . exact L6 _ (r1 j b hb)
  . dsimp only at h1 h2;split at h1
    . split at h2
      . rename_i z1 z2;rw[z1,z2]
      . exact absurd (r1 k b h2) (hh b h1).2.1
    . split at h2
      . exact absurd (r1 j b h1) (hh b h2).2.1
      . exact r2 j k b h1 h2
  . by_cases hij:i=j
    . subst hij;rw[qX]at hj;rw[c7 rfl]at hj;split at hj
      . rename_i hl;cases hj;dsimp only;rw[c7 rfl,rm (by rw[S.ls];exact hl)]
        exact hs
      . cases hj
    . rw[fh hij]at hj;dsimp only;rw[e9 (λz=>hij z.symm),fh hij]
      exact(r3 j pv hj).yf (mE e1 hR) (λb _ o z=>e1 _ _ z) λb z=>z
 cases pv with
 |dat d=>exact⟨_,S1.set i r⟩
 |ob w c =>
  obtain⟨o,R,rfl,e2,e3,h⟩:=r;exact go R e3 h.at ⟨o,R,rfl,e2,λb z=>z,h⟩
 |own l =>
  obtain⟨a,xs,rfl,e2,e3,h⟩:=r;refine go [a] (λb hb=>?_) (λb hb=>?_) ⟨a,xs,rfl,A2,e3,h⟩
  . rw[mem_singleton.mp hb];exact e2
  . rw[mem_singleton.mp hb];exact⟨Cl.l xs,e3⟩
noncomputable def R8(i:Nat)(F:Ds->Option PV):Ds->Option Out:=λds=>(F ds).bind λpv=>some (.next (ds.set i (some pv)))
noncomputable def i7(i:Nat)(F:Ds->Option PV):Ds->Option Out:=λds=>(F ds).bind λpv=>some (.next (ds.set i (some (.dat pv.d))))
theorem RZ{i:Nat}{x:Str}(hN:X.N.Nodup)(hi:X.N[i]? = some x)(hx:Loc X.env.scope x)(he:PX X true e te F)(hs:aJ e (some (.Name x pos')) pos.line X.env=pure false:=by rfl)(hf:X.fn x=true\/X.env.scope.names.lookup x=some .local:=by first|exact .inl rfl|exact .inr rfl|assumption):
  M5 X (.Assign [.Name x pos'] e pos) (kT te (ay i)) (R8 i F):=⟨IQ hN hi hx he.p hs hf,by
 intro O h8 as σ H ds D o S h q;delta R8 at h;cases e1:F ds with
 |none=>rw[e1]at h;cases h
 |some pv =>
  rw[e1]at h;cases h;refine he.t O h8 as σ H ds pv _ S e1 λv H1 s1 r1=>?_
  obtain⟨as',S'⟩:=S.store s1 i r1;exact q as' _ _ S'⟩
theorem Nr{i:Nat}{x:Str}(hN:X.N.Nodup)(hi:X.N[i]? = some x)(hx:Loc X.env.scope x)(he:PX X true e te F)(hs:aJ e (some (.Name x pos')) pos.line X.env=pure false:=by rfl)(hf:X.fn x=true\/X.env.scope.names.lookup x=some .local:=by first|exact .inl rfl|exact .inr rfl|assumption):
  M5 X (.Assign [.Name x pos'] e pos) (kT te (ay i)) (i7 i F):=⟨IQ hN hi hx he.p hs hf,by
 intro O h8 as σ H ds D o S h q;delta i7 at h;cases e1:F ds with
 |none=>rw[e1]at h;cases h
 |some pv =>
  rw[e1]at h;cases h;refine he.t O h8 as σ H ds pv _ S e1 λv H1 s1 r1=>?_
  exact q _ _ _ ((S.grow s1).set i (r1.dt S.dm))⟩
def Wf(i j:Nat)(Fl:Ds->Option (List c6)):Ds->Option Out:=λds=>(Fl ds).bind λl=>match l with
 | [a,b]=>some (.next ((ds.set i (some (.dat a))).set j (some (.dat b))))
 |_=>none
noncomputable def u9(F:Ds->Option PV):Ds->Option Out:=λds=>(F ds).bind λpv=>some (.ret pv)
theorem El(he:PX X fr e te F):M5 X (.Return (some e) pos) (MF te) (u9 F):=⟨IS he.p,by
 intro O h8 as σ H ds D o S h q;delta u9 at h;cases e1:F ds with
 |none=>rw[e1]at h;cases h
 |some pv =>
  rw[e1]at h;cases h;refine he.t O h8 as σ H ds pv _ S e1 λv H1 s1 r1=>?_
  exact q v H1 (S.same.trans s1) ((r1.back S.same).less λb z=>by simp at z)⟩
noncomputable def P4(i:Nat):Ds->Option Out:=λds=>match ds[i]? with
 |some (some pv)=>some (.ret pv)
 |_=>none
theorem Nt(i:Nat)(h:PE X e (O2 i)):M5 X (.Return (some e) pos) (MF (O2 i)) (P4 i):=⟨IS h,by
 intro O h8 as σ H ds D o S h q;delta P4 at h;split at h
 . rename_i pv hd;cases h;have sl:=S.slot i pv hd;cases pv with
   |dat d =>
    obtain⟨v,e1,h⟩:=sl;exact⟨v,e1,q v H S.same (Dt.same (Y9 (i8.refl _) λb z=>by simp at z) h)⟩
   |own l =>
    obtain⟨a,xs,e1,ha,e3,h⟩:=sl;refine⟨_,e1,q _ H S.same ⟨a,xs,rfl,(S.new a ha).1,e3,h.same (Y9 (i8.refl _) λb z=>?_)⟩⟩
    have z':b=a:=by simpa using z
    rw[z'];exact ha
   |ob w c =>
    obtain⟨o,R,e1,ew,hR,h⟩:=sl;refine⟨_,e1,q _ H S.same ⟨o,R,rfl,ew,λb hb=>(S.new b (hR b hb)).1,h.same (Y9 (i8.refl _) λb z=>?_) (λ_ _ _ z=>z)⟩⟩
    rw[dJ]at z;obtain⟨b',z1,z2⟩:=mem_map.mp z;cases z2;exact hR b z1
 . cases h⟩
def Qz:Ds->Option Out:=λ_=>some (.ret (.dat .none))
noncomputable def D1(Ft:Ds->Option Bool)(G1 G2:Ds->Option Out):Ds->Option Out:=λds=>(Ft ds).bind λb=>if b=true then G1 ds else G2 ds
theorem UZ(hc:bF X c tt Ft)(ha:fH X sa t G1)(hb:fH X sb u G2):M5 X (.If c sa sb pos) (Uj tt t u) (D1 Ft G1 G2):=⟨Xd hc.p ha.p hb.p,by
 intro O h8 as σ H ds D o S h q;delta D1 at h;cases e1:Ft ds with
 |none=>rw[e1]at h;cases h
 |some b =>
  rw[e1]at h;simp only[j4]at h;refine hc.t O h8 as σ H ds b _ S e1 λH1 s1=>?_
  cases b with
  |true=>exact ha.t O h8 as σ H1 ds D o (S.grow s1) h q
  |false=>exact hb.t O h8 as σ H1 ds D o (S.grow s1) h q⟩
def QA:Ds->Option Out:=λds=>some (.next ds)
def Kc:Ds->Option Out:=λds=>some (.brk ds)
def QD:Ds->Option Out:=λds=>some (.cont ds)
noncomputable def AK:Ds->Option Out:=λ_=>none
theorem IL:M5 X st Ii AK:=⟨ND,by intro O h8 as σ H ds D o S h q;cases h⟩
def QC(F:Ds->Option PV):Ds->Option Out:=λds=>(F ds).bind λ_=>some (.next ds)
end
theorem DS.FU{pv pv':PV}{u:Cl}{i:Nat}{rg:Nat->List Addr}(S:DS K O h8 as σ H ds)(hd:ds[i]? = some (some pv))(r1:∀i b,b∈rg i->some b∈as)(r2:∀i j b,b∈rg i->b∈rg j->i=j)
  (r3:∀(i:Nat) (pv:PV),ds[i]? = some (some pv)->az K O as H σ[i]? (rg i) pv) (ha:a∈rg i) (hv:i8 (n6 H as O) (n6 (upd H a u.1) as O)->az K O as (upd H a u.1) σ[i]? (rg i) pv'):DS K O h8 as σ (upd H a u.1) (ds.set i (some pv')):=by
 have sm:i8 (n6 H as O) (n6 (upd H a u.1) as O):=eh λb o h1 h2 h3=>⟨h1,h2,by rw[C3 (λz=>h2 (by rw[z];exact r1 i a ha))];exact h3⟩
 have hl:i<ds.length:=(List.getElem?_eq_some_iff.mp hd).1;refine⟨by simp[S.ls],λb o h=>?_,λb hb=>⟨(S.new b hb).1,?_⟩,S.cL,rg,r1,r2,λj pv hj=>?_⟩
 . rw[C3 (λz=>?_)]
   . exact S.same _ _ h
   . rw[z,(S.new a (r1 i a ha)).1]at h;cases h
 . by_cases z:b=a
   . exact⟨u,by rw[z];exact M3⟩
   . obtain⟨_,o,h⟩:=S.new b hb;exact⟨o,by rw[C3 z];exact h⟩
 . by_cases hij:i=j
   . subst hij;rw[rm hl]at hj;cases hj;exact hv sm
   . rw[fh hij]at hj;refine(r3 j pv hj).yf sm (λb hb o z=>?_) λb z=>z
     rw[C3 (λw=>hij (r2 i j a ha (by rw[<-w];exact hb)))]
     exact z
theorem DS.turn{l l':List c6}{xs':List V}{i:Nat}(S:DS K O h8 as σ H ds)(hd:ds[i]? = some (some (.own l)))(e1:σ[i]? = some (some (.ref a)))(hv:q4 K (n6 H as O) xs' l'):
  DS K O h8 as σ (upd H a (.lst xs')) (ds.set i (some (.own l'))):=by obtain⟨rg,r1,r2,r3⟩:=S.gx;obtain⟨a',xs,z1,z2,z3,z4⟩:=r3 i _ hd;rw[e1]at z1;cases z1;exact S.FU (u:=Cl.l xs') hd r1 r2 r3 z2 λsm=>⟨a,xs',e1,z2,M3,hv.same sm⟩
noncomputable def fB(i:Nat)(F:Ds->Option PV):Ds->Option Out:=λds=>(F ds).bind λpv=>match ds[i]? with
 |some (some (.own l))=>if l.length<1000000 then some (.next (ds.set i (some (.own (l++[pv.d])))))else none
 |_=>none
section
variable{X:Cx}{e o:Expr}{te:TE}{F:Ds->Option PV}{pos cpos apos:Pos}
theorem Sd(i:Nat)(ho:PE X o (O2 i))(he:PX X true e te F)(hst:j6 [e] X.env=(false,eval e X.env)::j6 [] X.env:=by rfl)
  (hbase:aZ o "append" X.env (eval o X.env)=eval o X.env:=by rfl)
  (hfew:((C9 cpos (j6 [e] X.env)).all (λx=>!x.1)&&(bq cpos (dH [] X.env)).all (λx=>x.1.isSome)
   && decide ([e].length+([]:List bp).length+(if ([]:List bp).isEmpty then 0 else 1)<30))=true:=by rfl)
  (hline:(apos.endLine==cpos.line)=true:=by rfl) (hplain:(C9 cpos (j6 [] X.env)).any (·.1)=false:=by rfl)
  (hs:aJ (.Call (.Attribute o "append" apos) [e] [] cpos) none pos.line X.env=pure false:=by rfl) :
  M5 X (.Expr (.Call (.Attribute o "append" apos) [e] [] cpos) pos) (zf (Qg X.K "list" wY (O2 i) (iK te mT))) (fB i F) :=
 ⟨xa (Gv CO Mb Ma yi ho (iw he.p qg hst) hbase hfew hline hst hplain) hs,by
 intro O h8 as σ H ds D o S h q;delta fB at h;cases e1:F ds with
 |none=>rw[e1]at h;cases h
 |some pv =>
  rw[e1]at h;simp only[j4]at h;split at h
  . rename_i l hd;split at h
    . rename_i hl;cases h;obtain⟨a,xs,z1,z2,z3,z4⟩:=S.slot i _ hd;refine⟨_,z1,.inl ⟨rfl,xs,G6.of z3⟩,?_⟩;refine he.t O h8 as σ H ds pv _ S e1 λv H1 s1 r1=>?_
      have hx:=z4.length;refine⟨a,xs,v,rfl,rfl,s1 _ _ z3,O1 (by lia) (pW (o3 _)),q as σ _ ?_⟩
      exact(S.grow s1).turn hd z1 ((z4.same (T7 s1)).append (.cons (r1.dt S.dm) .nil))
    . cases h
  . cases h⟩
end
theorem DS.rebase(S:DS K O h8 as σ H ds):DS K O (n6 H as []) as σ H ds where
 ls:=S.ls
 same:=o9
 new:=λa h=>⟨by delta n6;rw[c7 (.inr h)],(S.new a h).2⟩
 cL:=λa h=>by
  obtain⟨o,z⟩:=S.cL a h;refine⟨o,F4.mpr ⟨by simp,λq=>?_,S.same _ _ z⟩⟩
  rw[(S.new a q).1]at z;cases z
 gx:=S.gx
theorem DS.mZ(S:DS K O Hb as σ H ds)(e:i8 h8 Hb)(hd:∀a∈O,∃o,h8 a=some o):DS K O h8 as σ H ds :=
 ⟨S.ls,e.trans S.same,λa h=>⟨e.free (S.new a h).1,(S.new a h).2⟩,hd,S.gx⟩
theorem DS.TZ(S:DS K O h8 as σ H ds):i8 h8 (n6 H as []):=λb o h=>by
 refine F4.mpr ⟨by simp,λq=>?_,S.same _ _ h⟩
 rw[(S.new b q).1]at h;cases h
theorem wR.mZ{X:Cx}{O:List Addr}{h8 Hb:Hp}{D:Ends}{o:Out}(h:wR X O h8 D o)(e:i8 h8 Hb)(hd:∀a∈O,∃u,h8 a=some u):wR X O Hb D o:=by
 cases o with
 |next ds=>exact λas σ H S=>h as σ H (S.mZ e hd)
 |brk ds=>exact λas σ H S=>h as σ H (S.mZ e hd)
 |cont ds=>exact λas σ H S=>h as σ H (S.mZ e hd)
 |ret pv=>exact λv H s r=>h v H (e.trans s) (r.back e)
 |up x=>exact λea H s n u=>h ea H (e.trans s) (e.free n) u
 |retO pv ds=>exact λas σ Hm H v S s r=>h as σ Hm H v (S.mZ e hd) s r
def QY(K:i9)(g:TG)(gt:c6->Ds->Option Ds):Prop :=
 ∀(O:List Addr) (h8:Hp) (as:As) (σ:St) (H:Hp) (ds ds':Ds) (v:V) (d:c6) (Q:St->Hp->Prop),DS K O h8 as σ H ds->Dt K (n6 H as O) v d->gt d ds=some ds'->(∀as' σ',DS K O h8 as' σ' H ds'->Q σ' H)->g v σ H Q
def z9(i:Nat):c6->Ds->Option Ds:=λd ds=>some (ds.set i (some (.dat d)))
theorem MB{i:Nat}:QY K (ay i) (z9 i):=by intro O h8 as σ H ds ds' v d Q S h e q;cases e;exact q _ _ (S.set i h)
def HK(K:i9)(g:pM)(gt:List c6->Ds->Option Ds):Prop :=
 ∀(O:List Addr) (h8:Hp) (as:As) (σ:St) (H:Hp) (ds ds':Ds) (vs:List V) (l:List c6) (Q:St->Hp->Prop),DS K O h8 as σ H ds->q4 K (n6 H as O) vs l->gt l ds=some ds'->(∀as' σ',DS K O h8 as' σ' H ds'->Q σ' H)->g vs σ H Q
def jO:List c6->Ds->Option Ds
 | [],ds=>some ds
 |_,_=>none
def U2(i:Nat)(r:List c6->Ds->Option Ds):List c6->Ds->Option Ds
 |d::l,ds=>r l (ds.set i (some (.dat d)))
 | [],_=>none
def jN(n:Nat)(r:List c6->Ds->Option Ds):c6->Ds->Option Ds
 | .tuple l,ds=>if l.length=n then r l ds else none
 |_,_=>none
theorem MC:HK K Hq jO:=by
 intro O h8 as σ H ds ds' vs l Q S h e q;cases h with
 |nil=>cases e;exact⟨rfl,q _ _ S⟩
 |cons _ _=>cases e
theorem Ig{i:Nat}(hg:HK K g r):HK K (rX (ay i) g) (U2 i r):=by
 intro O h8 as σ H ds ds' vs l Q S h e q;cases h with
 |nil=>cases e
 |cons h t =>
  exact⟨_,_,rfl,hg O h8 _ _ H _ ds' _ _ Q (S.set i h) t e q⟩
theorem Rq{n:Nat}(hg:HK K g r):QY K (AJ K n g) (jN n r):=by
 intro O h8 as σ H ds ds' v d Q S h e q;cases h with
 |tup hs ht =>
  rename_i a xs l;have e':(if l.length=n then r l ds else none)=some ds':=e
  split at e'
  . rename_i hl;exact⟨a,xs,rfl,o9.cy hs,by rw[ht.length];exact hl,hg O h8 as σ H ds ds' xs l Q S ht e' q⟩
  . cases e'
 |_=>cases e
def K7(gt:c6->Ds->Option Ds)(G:Ds->Option Out):List c6->Ds->Option Out
 | [],ds=>some (.next ds)
 |x::r,ds=>(gt x ds).bind λds1=>(G ds1).bind λo=>match o with
  | .next ds2=>K7 gt G r ds2
  | .cont ds2=>K7 gt G r ds2
  | .brk ds2=>some (.next ds2)
  | .ret pv=>some (.ret pv)
  | .up x=>some (.up x)
  | .retO pv ds2=>some (.retO pv ds2)
noncomputable def F8(Fi:Ds->Option (List c6))(gt:c6->Ds->Option Ds)(G:Ds->Option Out):Ds->Option Out:=λds=>(Fi ds).bind λitems=>K7 gt G items ds
section
variable{X:Cx}{tg iter c:Expr}{body:List Stmt}{wi:TI}{g:TG}{tb:TS}{tt:TT}{pos:Pos}{Fi:Ds->Option (List c6)}{gt:c6->Ds->Option Ds}{G:Ds->Option Out}{Fc:Ds->Option Bool}
theorem Sa(hp:qN (model X.prog X.w) X.A X.env X.xe)(hc:X.calm=true)(hi:jZ X true tg iter wi Fi)(hg:PG X tg g)(hgt:QY X.K g gt)(hb:fH X body tb G)
  (hs:∀x,fg iter X.env x=pure x:=by intro _;rfl):M5 X (.For tg iter body [] pos) (MH wi g tb) (F8 Fi gt G):=⟨Va hp hc hi.p hg hb.p hs,by
 intro O h8 as σ H ds D o S h q;unfold F8 at h;cases e1:Fi ds with
 |none=>rw[e1]at h;cases h
 |some items =>
  rw[e1]at h;simp only[j4]at h;refine hi.t O h8 as σ H ds items _ S e1 λJ H1 s1 it=>?_
  have S1:=S.grow s1;have it':HM X.K O (n6 H1 as []) J items:=it;have Sb:=S1.rebase;have eb:=S1.TZ;have qb:=q.mZ (Hb:=n6 H1 as []) eb S.cL;refine⟨λi m σ' H'=>i<=items.length/\m=items.length-i/\∃as' ds',DS X.K O (n6 H1 as []) as' σ' H' ds'/\K7 gt G (items.drop i) ds'=some o,⟨_,cT _,rfl,as,ds,Sb,h⟩,?_⟩
  rintro i m σ2 H2 ⟨hi',em,as2,ds2,S2,f2⟩;obtain⟨go',st',yl'⟩:=it' H2 S2.same i;by_cases hlt:i<items.length
  . have ed':items.drop i=items[i]::items.drop (i+1):=sk hlt;rw[ed']at f2;unfold K7 at f2;cases e3:gt items[i] ds2 with
    |none=>rw[e3]at f2;cases f2
    |some ds3 =>
     rw[e3]at f2;simp only[j4]at f2;cases e4:G ds3 with
     |none=>rw[e4]at f2;cases f2
     |some o4 =>
      rw[e4]at f2;simp only[j4]at f2;refine .inr ⟨go' hlt,λσ' H'=>∃as' ds',DS X.K O (n6 H1 as []) as' σ' H' ds'/\K7 gt G (items.drop (i+1)) ds'=some o,λσ' H' z=>⟨items.length-(i+1),by lia,hlt,rfl,z⟩,λx H' y=>?_⟩
      obtain⟨e5,d,ed,dt⟩:=yl' x H' y hlt;have edd:items[i]=d:=by rw[J3 hlt]at ed;exact ar ed
      have S3:=S2.grow e5;have dx:Dt X.K (n6 H' as2 O) x d:=dt as2 (λb hb=>⟨(S2.new b hb).1,let ⟨_,z⟩:=(S2.new b hb).2;⟨_,z⟩⟩) S2.cL
      rw[edd]at e3;refine hgt O _ as2 σ2 H' ds2 ds3 x d _ S3 dx e3 λas4 σ4 S4=>?_
      refine hb.t O _ as4 σ4 H' ds3 _ o4 S4 e4 ?_;cases o4 with
      |next ds5=>exact λas5 σ5 H5 S5=>⟨as5,ds5,S5,f2⟩
      |cont ds5=>exact λas5 σ5 H5 S5=>⟨as5,ds5,S5,f2⟩
      |brk ds5=>cases f2;exact λas5 σ5 H5 S5=>qb as5 σ5 H5 S5
      |ret pv=>cases f2;exact qb
      |up x=>cases f2;exact qb
      |retO pv ds5=>cases f2;exact qb
  . have hi2:i=items.length:=by lia
    subst hi2;rw[Cn]at f2;cases f2;exact .inl ⟨st' (o3 _),qb as2 σ2 H2 S2⟩⟩
def E4(Fc:Ds->Option Bool)(G:Ds->Option Out):Nat->Ds->Option Out
 | 0,_=>none
 |n+1,ds=>(Fc ds).bind λb=>if b=true then(G ds).bind λo=>match o with
   | .next ds2=>E4 Fc G n ds2
   | .cont ds2=>E4 Fc G n ds2
   | .brk ds2=>some (.next ds2)
   | .ret pv=>some (.ret pv)
   | .up x=>some (.up x)
   | .retO pv ds2=>some (.retO pv ds2)
  else some (.next ds)
noncomputable def ej(μ:Ds->Nat)(Fc:Ds->Option Bool)(G:Ds->Option Out):Ds->Option Out:=λds=>E4 Fc G (μ ds) ds
theorem IH(μ:Ds->Nat)(hp:qN (model X.prog X.w) X.A X.env X.xe)(hc:bF X c tt Fc)(hb:fH X body tb G):M5 X (.While c body [] pos) (Ih tt tb) (ej μ Fc G):=⟨NC hp hc.p hb.p,by
 intro O h8 as σ H ds D o S h q;unfold ej at h;refine⟨λm σ' H'=>∃as' ds',DS X.K O h8 as' σ' H' ds'/\E4 Fc G m ds'=some o,⟨_,as,ds,S,h⟩,?_⟩
 rintro m σ2 H2 ⟨as2,ds2,S2,f2⟩;cases m with
 |zero=>cases f2
 |succ m =>
  unfold E4 at f2;cases e1:Fc ds2 with
  |none=>rw[e1]at f2;cases f2
  |some b =>
   rw[e1]at f2;simp only[j4]at f2;refine hc.t O h8 as2 σ2 H2 ds2 b _ S2 e1 λH3 s3=>?_
   cases b with
   |false =>
    cases f2;exact q as2 σ2 H3 (S2.grow s3)
   |true =>
    rw[c7 rfl]at f2;rw[c7 rfl];cases e4:G ds2 with
    |none=>rw[e4]at f2;cases f2
    |some o4 =>
     rw[e4]at f2;simp only[j4]at f2;refine⟨λσ' H'=>∃as' ds',DS X.K O h8 as' σ' H' ds'/\E4 Fc G m ds'=some o,λσ' H' z=>⟨m,wg _,z⟩,?_⟩
     refine hb.t O h8 as2 σ2 H3 ds2 _ o4 (S2.grow s3) e4 ?_;cases o4 with
     |next ds5=>exact λas5 σ5 H5 S5=>⟨as5,ds5,S5,f2⟩
     |cont ds5=>exact λas5 σ5 H5 S5=>⟨as5,ds5,S5,f2⟩
     |brk ds5=>cases f2;exact q
     |ret pv=>cases f2;exact q
     |up x=>cases f2;exact q
     |retO pv ds5=>cases f2;exact q⟩
end
def Gw:Out->Option PV
 | .ret pv=>some pv
 | .next _=>some (.dat .none)
 |_=>none
noncomputable def D2(n N:Nat)(G:Ds->Option Out):List c6->Option PV:=λl=>if l.length=n then(G (L4 l++v9 (N-n) none)).bind Gw else none
section
variable{P:A6}{w:t7}{K:i9}{mg:Str->Option e8}{base:Heap}
theorem DS.start{O:List Addr}{H:Hp}{vs:List V}{l:List c6}{N:List Str}(hO:∀a∈O,∃u,H a=some u)(h:q4 K (n6 H [] O) vs l):DS K O H (v9 (L4 l++v9 (N.length-l.length) none).length none) (start N vs) H (L4 l++v9 (N.length-l.length) none):=by
 have hl:=h.length;have S0:DS K O H (v9 (N.length-l.length) none) (v9 (N.length-l.length) none) H (v9 (N.length-l.length) none) :=
  ⟨by simp,i8.refl H,λa z=>absurd z ij,hO,λ_=>[],λi b z=>absurd z (by simp),λi j b z=>absurd z (by simp),λi pv z=>by have:=rj z;simp[Cy]at this⟩
 have S1:=S0.pre (vs:=vs) (l:=l) (by rw[SU];exact h)
 have e1:(v9 (L4 l++v9 (N.length-l.length) none).length none:As)=v9 l.length none++v9 (N.length-l.length) none:=by
  rw[List.replicate_append_replicate,iU,wC]
  congr 1
  simp[L4]
 rw[e1];delta L2.start;rw[hl];exact S1
theorem rz.Yt{x qual:Str}{st:Stmt}{fd:M7}{N ps:List Str}{k:Nat}{G:Ds->Option Out}(F:rz K x qual st f fd)(S:iI N ps (D8 st))(hN:ps.length<=N.length)
  (hbody:∀(cdv:e8) (A:A5) (outer:List Env) (s:i5) (H:Hp) (E:XK),G7 k (A.deeper (cR qual (D8 st) s.heap.objs.size f cdv)) ->
   ∃t,fH (lz om P w K mg base N qual (D8 st) f cdv A outer s H E).uH (aw st) t G):Y0 P w K mg base om (k+1) f fd ps (A8 K (D2 ps.length N.length G)):=by
 have ln:∀vs H Q E,A8 K (D2 ps.length N.length G) vs H Q E->vs.length=ps.length:=λvs H Q E h=>by
  obtain⟨O,ds,pv,h1,h2,h3,h4⟩:=h;delta D2 at h3;split at h3
  . rename_i hl;rw[h2.length];exact hl
  . cases h3
 refine F.ok S ln λcdv A outer s H vs Q E hr h=>?_
 obtain⟨O,ds,pv,h1,h2,h3,h4⟩:=h;obtain⟨t,ht⟩:=hbody cdv A outer s H E hr;refine⟨t,ht.p,?_⟩;delta D2 at h3;split at h3
 . rename_i hl;rw[<-hl]at h3;cases e1:G (L4 ds++v9 (N.length-ds.length) none)with
   |none=>rw[e1]at h3;cases h3
   |some o =>
    rw[e1]at h3;simp only[j4]at h3;refine ht.t O H _ (L2.start N vs) H _ _ o (DS.start h1 h2) e1 ?_;cases o with
    |next ds'=>cases h3;exact λas σ H' S'=>h4 _ H' S'.same Dt.non
    |ret pv'=>cases h3;exact λv H' s r=>h4 v H' s r
    |brk ds'=>cases h3
    |cont ds'=>cases h3
    |up x=>cases h3
    |retO pv ds'=>cases h3
 . cases h3
end
end
section
variable{g:Int->Int->V}{g':Int->Int->c6}{X:Cx}{H:Hp}{K K':i9}{xs:List V}{e:Expr}{te:TE}{p:Pos}
instance {m:Nat} {i:Int}:Decidable (Bt m i):=decidable_of_iff (i.natAbs<2 ^ m) ⟨λh=>⟨h⟩,λh=>h.lt⟩
instance {i j:Int}:Decidable (xN i j):=by delta xN;infer_instance
def EV(g:Int->Int->c6):c6->c6->Option PV
 | .int i,.int j=>some (.dat (g i j))
 |_,_=>none
def qx(C:Int->Int->Prop)[∀i j,Decidable (C i j)](g:Int->Int->c6):c6->c6->Option PV
 | .int i,.int j=>if C i j then some (.dat (g i j))else none
 |_,_=>none
section
variable{K:i9}
theorem uA(hg:∀i j H,Dt K H (g i j) (g' i j)):bE K (mr g) (EV g'):=by
 intro O va H x y d e pv Q D hx hy hf q;cases hx with
 |int i =>
  cases hy with
  |int j =>
   cases hf;exact⟨i,j,rfl,rfl,q _ H (i8.refl H) (hg i j _)⟩
  |_=>cases hf
 |_=>cases hf
theorem qa{C C':Int->Int->Prop}[∀i j,Decidable (C i j)](hC:∀i j,C i j->C' i j)(hg:∀i j H,Dt K H (g i j) (g' i j)):bE K (rI C' g) (qx C g'):=by
 intro O va H x y d e pv Q D hx hy hf q;cases hx with
 |int i =>
  cases hy with
  |int j =>
   have hf':(if C i j then some (PV.dat (g' i j))else none)=some pv:=hf
   split at hf'
   . rename_i hc;cases hf';exact⟨i,j,rfl,rfl,hC i j hc,q _ H (i8.refl H) (hg i j _)⟩
   . cases hf'
  |_=>cases hf
 |_=>cases hf
def oz:=EV λi j=>.int (i-j)
noncomputable def B4:=qx (λi j=>Bt 60000 i/\Bt 60000 j) λi j=>.int (i*j)
def aj:=qx (λ_ j=>j≠0/\Bt 8000 j) λi j=>.int (i.fdiv j)
def bJ:=qx (λ_ j=>j≠0) λi j=>.int (i.fmod j)
def tF:=qx xN λi j=>.int (i ^ j.toNat)
def FZ:=qx (λ_ j=>0<=j) λi j=>.int (i/2 ^ j.toNat)
def nt:=EV λi j=>.bool (decide (i<j))
def Yx:=EV λi j=>.bool (decide (i<=j))
def mF:=EV λi j=>.bool (decide (j<i))
def Qx:=EV λi j=>.bool (decide (j<=i))
theorem WD:bE K (mr λi j=>.int (i-j)) oz:=uA λi j H=>.int _
theorem WI:bE K (rI (λi j=>Bt 60000 i/\Bt 60000 j) λi j=>.int (i*j)) B4:=qa (λ_ _ h=>h) λi j H=>.int _
theorem TF:bE K (rI (λ_ j=>j≠0/\Bt 8000 j) λi j=>.int (i.fdiv j)) aj:=qa (λ_ _ h=>h) λi j H=>.int _
theorem WJ:bE K (rI (λ_ j=>j≠0) λi j=>.int (i.fmod j)) bJ:=qa (λ_ _ h=>h) λi j H=>.int _
theorem WG:bE K (rI xN λi j=>.int (i ^ j.toNat)) tF:=qa (λ_ _ h=>h) λi j H=>.int _
theorem WE:bE K (rI (λ_ j=>0<=j) λi j=>.int (i/2 ^ j.toNat)) FZ:=qa (λ_ _ h=>h) λi j H=>.int _
theorem Tz:bE K (mr λi j=>.bl (decide (i<j))) nt:=uA λi j H=>.bl _
theorem TC:bE K (mr λi j=>.bl (decide (j<i))) mF:=uA λi j H=>.bl _
theorem Yc:bE K (mr λi j=>.bl (decide (j<=i))) Qx:=uA λi j H=>.bl _
def Q3:c6->Option PV
 | .int i=>some (.dat (.int (-i)))
 |_=>none
theorem WH:Wy K (rU λi=>.int (-i)) Q3:=by
 intro O va H x d pv Q D hx hf q;cases hx with
 |int i=>cases hf;exact⟨i,rfl,q _ H (i8.refl H) (Dt.int _)⟩
 |_=>cases hf
noncomputable def O3:c6->c6->Option PV
 | .str i,.str j=>some (.dat (.bool (decide (i=j))))
 |d,e=>if J7 d=true/\J7 e=true then some (.dat (.bool (X7 d e)))else none
noncomputable def V4:c6->c6->Option PV
 | .str i,.str j=>some (.dat (.bool (!decide (i=j))))
 |d,e=>if J7 d=true/\J7 e=true then some (.dat (.bool (!PyData.eqv d e)))else none
def Gi(K:i9):R2:=λx y H Q=>XF x y H Q\/∃d e,Dt K H x d/\Dt K H y e/\J7 d=true/\J7 e=true/\Q (.bl (X7 d e)) H
def Na(K:i9):R2:=λx y H Q=>XE x y H Q\/∃d e,Dt K H x d/\Dt K H y e/\J7 d=true/\J7 e=true/\Q (.bl (!PyData.eqv d e)) H
theorem Je(hu:X.A.units+64<cLine):O9 X (S8 .Eq) (Gi X.K):=Xm.or (Vx hu)
theorem Vs(hu:X.A.units+64<cLine):O9 X (S8 .NotEq) (Na X.K):=Xk.or (Vt hu)
theorem TH:bE K (Gi K) O3:=by
 intro O va H x y d e pv Q D hx hy hf q;delta O3 at hf;split at hf
 . cases hf;cases hx;cases hy;rename_i i j;exact .inl ⟨rfl,q _ H (i8.refl H) (by rw[show decide (V.str i=V.str j)=decide (i=j) by simp];exact Dt.bl _)⟩
 . split at hf
   . rename_i hs;cases hf;exact .inr ⟨d,e,hx.same o9,hy.same o9,hs.1,hs.2,q _ H (i8.refl H) (Dt.bl _)⟩
   . cases hf
theorem XY:bE K (Na K) V4:=by
 intro O va H x y d e pv Q D hx hy hf q;delta V4 at hf;split at hf
 . cases hf;cases hx;cases hy;rename_i i j;exact .inl ⟨rfl,q _ H (i8.refl H) (by rw[show decide (V.str i=V.str j)=decide (i=j) by simp];exact Dt.bl _)⟩
 . split at hf
   . rename_i hs;cases hf;exact .inr ⟨d,e,hx.same o9,hy.same o9,hs.1,hs.2,q _ H (i8.refl H) (Dt.bl _)⟩
   . cases hf
def fU:c6->Bool
 | .none=>true
 |_=>false
theorem Dt.Ez{x:V}{d:c6}(h:Dt K H x d):decide (x=.non)=fU d:=by cases h<;>simp[fU,xB,QG,qw,xH]
def gz:c6->c6->Option PV
 |d,.none=>some (.dat (.bool (fU d)))
 |_,_=>none
def cI:c6->c6->Option PV
 |d,.none=>some (.dat (.bool (!fU d)))
 |_,_=>none
theorem Ya:bE K (λx y H Q=>y=.non/\Q (.bl (decide (x=.non))) H) gz:=by
 intro O va H x y d e pv Q D hx hy hf q;cases hy with
 |non=>cases hf;exact⟨rfl,q _ H (i8.refl H) (by rw[hx.Ez];exact Dt.bl _)⟩
 |_=>cases hf
theorem Rk:bE K (λx y H Q=>y=.non/\Q (.bl (!decide (x=.non))) H) cI:=by
 intro O va H x y d e pv Q D hx hy hf q;cases hy with
 |non=>cases hf;exact⟨rfl,q _ H (i8.refl H) (by rw[hx.Ez];exact Dt.bl _)⟩
 |_=>cases hf
noncomputable def j5:c6->c6->Option PV
 | .list l,.int i=>(K5 l i).bind λd=>some (.dat d)
 | .tuple l,.int i=>(K5 l i).bind λd=>some (.dat d)
 | .str z,.int i=>if z.length<=1000000 then(K5 z.cps.toList i).bind λc=>some (.dat (.str ⟨#[c]⟩))else none
 |_,_=>none
theorem q4.K5{H:Hp}{xs:List V}{l:List c6}{i:Int}{d:c6}(h:q4 K H xs l)(e:L2.K5 l i=some d):∃x,L2.K5 xs i=some x/\Dt K H x d:=by
 delta L2.K5 at e ⊢;rw[h.length];cases hi:fT l.length i with
 |none=>rw[hi]at e;cases e
 |some j =>
  rw[hi]at e;exact h.get e
theorem XZ:bE K (IB K) j5:=by
 intro O va H x y d e pv Q D hx hy hf q;cases hx with
 |lst hs ht =>
  cases hy with
  |int i =>
   rename_i a xs l;have hf':((L2.K5 l i).bind λd=>some (PV.dat d))=some pv:=hf
   cases h1:L2.K5 l i with
   |none=>rw[h1]at hf';cases hf'
   |some d =>
    rw[h1]at hf';cases hf';obtain⟨v,h2,h3⟩:=ht.K5 h1;exact .inl ⟨a,xs,i,v,rfl,rfl,o9.seq hs,h2,q v H (i8.refl H) h3⟩
  |_=>cases hf
 |tup hs ht =>
  cases hy with
  |int i =>
   rename_i a xs l;have hf':((L2.K5 l i).bind λd=>some (PV.dat d))=some pv:=hf
   cases h1:L2.K5 l i with
   |none=>rw[h1]at hf';cases hf'
   |some d =>
    rw[h1]at hf';cases hf';obtain⟨v,h2,h3⟩:=ht.K5 h1;exact .inr (.inl ⟨a,xs,i,v,rfl,rfl,o9.cy hs,h2,q v H (i8.refl H) h3⟩)
  |_=>cases hf
 |str z =>
  cases hy with
  |int i =>
   have hf':(if z.length<=1000000 then(L2.K5 z.cps.toList i).bind λc=>some (PV.dat (.str ⟨#[c]⟩))else none)=some pv:=hf
   split at hf'
   . rename_i hz;cases h1:L2.K5 z.cps.toList i with
     |none=>rw[h1]at hf';cases hf'
     |some c =>
      rw[h1]at hf';cases hf';exact .inr (.inr ⟨z,i,c,rfl,rfl,pW hz,h1,q _ H (i8.refl H) (Dt.str _)⟩)
   . cases hf'
  |_=>cases hf
 |_=>cases hf
end
def Ql(K:i9):R2:=λx y H Q=>∃a b xs ys,x=.ref a/\y=.ref b/\N4 K H a xs/\N4 K H b ys/\xs.length+ys.length<=B9 /\
 (xs=[]->Q (.ref b) H)/\(xs≠[]->ys=[]->Q (.ref a) H)/\(xs≠[]->ys≠[]->∀p,H p=none->Q (.ref p) (upd H p (.tup (xs++ys))))
def Qm(K:i9):R2:=λx y H Q=>∃a b xs ys,x=.ref a/\y=.ref b/\G6 K H a xs/\G6 K H b ys/\xs.length+ys.length<=B9/\∀p,H p=none->Q (.ref p) (upd H p (.lst (xs++ys)))
section
variable{X:Cx}
theorem SA:O9 X (ak .Add) (Ql X.K):=by
 intro pins s σ H x y v u Q I rx ry h;obtain⟨a,b,xs,ys,rfl,rfl,ha,hb,hz,q1,q2,q3⟩:=h;by_cases hx:xs=[]
 . subst hx;cases rx;cases ry;obtain⟨its,r1,p1,_⟩:=I.tuple ha;obtain⟨its2,r2,p2,_⟩:=I.tuple hb;exact Ti p1 p2 (r1.rO.mpr rfl) ⟨.ref b,H,I,rfl,q1 rfl⟩
 . exact SD pins s σ H (.ref a) (.ref b) v u Q I rx ry ⟨a,b,xs,ys,rfl,rfl,ha,hb,hx,hz,λe=>q2 hx e,λe p hp=>q3 hx e p hp⟩
theorem SE:O9 X (ak .Add) (Qm X.K):=by
 intro pins s σ H x y v u Q I rx ry h;obtain⟨l,b,xs,zs,rfl,rfl,hH,hB,hz,q⟩:=h;cases rx;cases ry;obtain⟨its,r,p1,z1⟩:=I.list hH;obtain⟨its2,r2,p2,z2⟩:=I.list hB;obtain⟨⟨cls,dd,data,sl⟩,ho,hc,n,hd⟩:=p1.isList;obtain⟨⟨cls2,dd2,data2,sl2⟩,ho2,hc2,n2,hd2⟩:=p2.isList;simp only at hc hd hc2 hd2;subst hc hd hc2 hd2;have e:its.toArray++its2.toArray=(its++its2).toArray:=by simp
 have h1:=r.length;have h2:=r2.length;refine vH ⟨_,ho,rfl⟩ ⟨_,ho2,rfl⟩ noFill_list_add seq_list_add PySem.F.slot_list_add PySem.F.entry_list_add (PySem.F.args_list_add_2 _ _) (list_addW l b its.toArray its2.toArray n n2 dd dd2 sl sl2 (by simp;lia)) ⟨ho,ho2,?_⟩
 rw[e];exact⟨.ref _,_,I.VJ (t':=s.toks) (r.append r2) (by rw[iU];lia),rfl,q _ I.fresh⟩
def Gk(K:i9):R2:=λx y H Q=>(mr λi j=>.int (i+j)) x y H Q\/(∃i j,x=.str i/\y=.str j/\i.length+j.length<=B9/\Q (.str (i++j)) H)\/Ql K x y H Q\/Qm K x y H Q
theorem SF:O9 X (ak .Add) (Gk X.K):=Vy.or (Gy.or (SA.or SE))
end
noncomputable def v8:c6->c6->Option PV
 | .int i,.int j=>some (.dat (.int (i+j)))
 | .str i,.str j=>if i.length+j.length<=1000000 then some (.dat (.str (i++j)))else none
 | .tuple l,.tuple m=>if l.length+m.length<=1000000 then some (.dat (.tuple (l++m)))else none
 | .list l,.list m=>if l.length+m.length<=1000000 then some (.own (l++m))else none
 |_,_=>none
theorem WO:bE K (Gk K) v8:=by
 intro O va H x y d e pv Q D hx hy hf q;cases hx with
 |int i =>
  cases hy with
  |int j=>cases hf;exact .inl ⟨i,j,rfl,rfl,q _ H (i8.refl H) (Dt.int _)⟩
  |_=>cases hf
 |str i =>
  cases hy with
  |str j =>
   have hf':(if i.length+j.length<=1000000 then some (PV.dat (.str (i++j)))else none)=some pv:=hf
   split at hf'
   . rename_i hz;cases hf';exact .inr (.inl ⟨i,j,rfl,rfl,pW hz,q _ H (i8.refl H) (Dt.str _)⟩)
   . cases hf'
  |_=>cases hf
 |tup hs ht =>
  cases hy with
  |tup hs2 ht2 =>
   rename_i a xs l b ys m;have hf':(if l.length+m.length<=1000000 then some (PV.dat (.tuple (l++m)))else none)=some pv:=hf
   split at hf'
   . rename_i hz;cases hf';have g1:=ht.length;have g2:=ht2.length;refine .inr (.inr (.inl ⟨a,b,xs,ys,rfl,rfl,o9.cy hs,o9.cy hs2,by rw[g1,g2];exact pW hz,λe=>?_,λe1 e2=>?_,λe1 e2 p hp=>?_⟩))
     . subst e;cases ht;exact q _ H (i8.refl H) (Dt.tup hs2 ht2)
     . subst e2;cases ht2;rw[dJ]at q;exact q _ H (i8.refl H) (Dt.tup hs ht)
     . exact q _ _ (i8.new hp) (uu D hp (ht.append ht2))
   . cases hf'
  |_=>cases hf
 |lst hs ht =>
  cases hy with
  |lst hs2 ht2 =>
   rename_i a xs l b ys m;have hf':(if l.length+m.length<=1000000 then some (PV.own (l++m))else none)=some pv:=hf
   split at hf'
   . rename_i hz;cases hf';have g1:=ht.length;have g2:=ht2.length;exact .inr (.inr (.inr ⟨a,b,xs,ys,rfl,rfl,o9.seq hs,o9.seq hs2,by rw[g1,g2];exact pW hz,λp hp=>q _ _ (i8.new hp) (gu hp (ht.append ht2))⟩))
   . cases hf'
  |_=>cases hf
 |_=>cases hf
def cutD{α:Type}(xs:List α)(lo hi:Option Int):List α:=(xs.drop (HT.E3 xs.length 0 lo)).take (HT.E3 xs.length xs.length hi-HT.E3 xs.length 0 lo)
theorem q4.cut{l:List c6}(h:q4 K H xs l)(lo hi:Option Int):q4 K H (lA xs lo hi) (cutD l lo hi):=by delta lA cutD;rw[h.length];exact(h.drop _).take _
def Uz(K:i9):V->Option Int->Option Int->Hp->VK->Prop:=λx lo hi H Q=>∃a xs,x=.ref a/\N4 K H a xs/\(lA xs lo hi=xs->Q (.ref a) H)/\∀p,H p=none->Q (.ref p) (upd H p (.tup (lA xs lo hi)))
section
variable{X:Cx}
theorem Ru:sT X (Uz X.K):=by
 intro pins s σ H x v vl vu lo hi sl Q I rx hs pl pu h;obtain⟨a,xs,rfl,hx,q1,q2⟩:=h;by_cases hw:HT.E3 xs.length 0 lo=0/\HT.E3 xs.length xs.length hi=xs.length
 . cases rx;obtain⟨its,r,ht,hz⟩:=I.tuple hx;have hlen:its.toArray.size=xs.length:=by rw[P6];exact r.length.symm
   refine⟨"tuple",_,PyProof.Rows.slot_tuple_getitem.lookup,ht.typeIs,?_⟩;refine yY ht hs pl pu (by rw[hlen];exact hw) ⟨.ref a,H,I,rfl,q1 ?_⟩
   delta lA;rw[hw.1,hw.2];simp
 . exact Up pins s σ H (.ref a) v vl vu lo hi sl Q I rx hs pl pu ⟨a,xs,rfl,hx,hw,q2⟩
end
def UB(K:i9):V->Option Int->Option Int->Hp->VK->Prop:=λx lo hi H Q=>Uz K x lo hi H Q\/UA K x lo hi H Q
theorem Uq:sT X (UB X.K):=Ru.or Rv
noncomputable def fP:c6->Option Int->Option Int->Option PV
 | .tuple l,lo,hi=>some (.dat (.tuple (cutD l lo hi)))
 | .list l,lo,hi=>some (.own (cutD l lo hi))
 |_,_,_=>none
def XO(K:i9)(r:V->Option Int->Option Int->Hp->VK->Prop)(f:c6->Option Int->Option Int->Option PV):Prop :=
 ∀(O:List Addr) (va:As) (H:Hp) (x:V) (lo hi:Option Int) (d:c6) (pv:PV) (Q:VK),oj H va O->Dt K (n6 H va O) x d->f d lo hi=some pv->(∀v H',i8 H H'->RX K O va H H' v pv->Q v H')->r x lo hi H Q
theorem XX:XO K (UB K) fP:=by
 intro O va H x lo hi d pv Q D hx hf q;cases hx with
 |tup hs ht =>
  cases hf;refine .inl ⟨_,_,rfl,o9.cy hs,λe=>?_,λp hp=>q _ _ (i8.new hp) (uu D hp (ht.cut lo hi))⟩
  have h2:=ht.cut lo hi;rw[e]at h2;exact q _ H (i8.refl H) (Dt.tup hs h2)
 |lst hs ht =>
  cases hf;exact .inr ⟨_,_,rfl,o9.seq hs,λp hp=>q _ _ (i8.new hp) (gu hp (ht.cut lo hi))⟩
 |_=>cases hf
def YB(K:i9)(to:TO)(F:Ds->Option (Option Int)):Prop :=
 ∀(O:List Addr) (h8:Hp) (as:As) (σ:St) (H:Hp) (ds:Ds) (b:Option Int) (Q:Option Int->Hp->Prop),DS K O h8 as σ H ds->F ds=some b->(∀H',i8 H H'->Q b H')->to σ H Q
structure KU(X:Cx)(e:Option Expr)(to:TO)(F:Ds->Option (Option Int)):Prop where
 p:PO X e to
 t:YB X.K to F
noncomputable def U4:Ds->Option (Option Int):=λ_=>some none
def XJ:c6->Option Int
 | .int i=>some i
 |_=>none
noncomputable def R9(F:Ds->Option PV):Ds->Option (Option Int):=λds=>(F ds).bind λpv=>(XJ pv.d).bind λi=>some (some i)
section
variable{X:Cx}{fr:Bool}{e:Expr}{te:TE}{F:Ds->Option PV}{p2 pos:Pos}
theorem NH:KU X none DX U4:=⟨Sj,by intro O h8 as σ H ds b Q S hf q;cases hf;exact q H (i8.refl H)⟩
theorem NG(h:PX X fr e te F):KU X (some e) (Qb te) (R9 F):=⟨Si h.p,by
 intro O h8 as σ H ds b Q S hf q;delta R9 at hf;cases h1:F ds with
 |none=>rw[h1]at hf;cases hf
 |some pv =>
  rw[h1]at hf;simp only[j4]at hf;refine h.t O h8 as σ H ds pv _ S h1 λv H1 e1 r1=>?_
  have d:=r1.dt S.dm;generalize pv.d=z at d hf;cases d with
  |int i=>cases hf;exact⟨i,rfl,q H1 e1⟩
  |_=>cases hf⟩
noncomputable def cK(f:c6->Option Int->Option Int->Option PV)(F:Ds->Option PV)(Fl Fh:Ds->Option (Option Int)):Ds->Option PV:=λds=>(F ds).bind λx=>(Fl ds).bind λlo=>(Fh ds).bind λhi=>f x.d lo hi
theorem Ng{r:V->Option Int->Option Int->Hp->VK->Prop}{f:c6->Option Int->Option Int->Option PV}{lo hi:Option Expr}{tl th:TO}{Fl Fh:Ds->Option (Option Int)}(ho:sT X r)(hr:XO X.K r f)(he:PX X fr e te F)(hl:KU X lo tl Fl)(hh:KU X hi th Fh):
  PX X fr (.Subscript e (.Slice lo hi none p2) pos) (XA r te tl th) (cK f F Fl Fh):=⟨NP ho he.p hl.p hh.p,by
 intro O h8 as σ H ds pv Q S hf q;delta cK at hf;cases h1:F ds with
 |none=>rw[h1]at hf;cases hf
 |some x =>
  cases h2:Fl ds with
  |none=>rw[h1,h2]at hf;cases hf
  |some l =>
   cases h3:Fh ds with
   |none=>rw[h1,h2,h3]at hf;cases hf
   |some h =>
    rw[h1,h2,h3]at hf;simp only[j4]at hf;refine he.t O h8 as σ H ds x _ S h1 λv H1 e1 r1=>?_
    refine hl.t O h8 as σ H1 ds l _ (S.grow e1) h2 λH2 e2=>?_
    refine hh.t O h8 as σ H2 ds h _ ((S.grow e1).grow e2) h3 λH3 e3=>?_
    refine hr O (Y7 fr as) H3 v l h x.d pv Q (((S.grow e1).grow e2).grow e3).dm ((r1.grow (e2.trans e3)).dt S.dm) hf λw H4 e4 r4=>?_
    exact q w H4 (((e1.trans e2).trans e3).trans e4) (r4.back ((e1.trans e2).trans e3))⟩
end
section
variable{X:Cx}
theorem mJ.one{r:List V->Hp->VK->Prop}{f:c6->Option PV}(h:Wy K (λx=>r [x]) f):mJ K r (λl=>match l with
  | [d]=>f d
  |_=>none):=by
 intro O va H xs ds pv Q D hx hf q;cases hx with
 |nil=>cases hf
 |cons h1 t =>
  cases t with
  |nil=>exact h O va H _ _ pv Q D h1 hf q
  |cons _ _=>cases hf
def Nc(K:i9):List V->Hp->VK->Prop:=λxs H Q=>(∃p ys,xs=[.ref p]/\(G6 K H p ys\/N4 K H p ys)/\Q (.int ys.length) H)\/(∃z,xs=[.str z]/\z.length<=B9/\Q (.int z.length) H)
theorem KJ:V0 X (.builtin "len") (Nc X.K):=Bq.or Bp
def J9:List c6->Option PV
 | [.list l]=>some (.dat (.int (l.length:Nat)))
 | [.tuple l]=>some (.dat (.int (l.length:Nat)))
 | [.str z]=>if z.length<=1000000 then some (.dat (.int (z.length:Nat)))else none
 |_=>none
theorem q4.inv1{d:c6}(h:q4 K H xs [d]):∃x,xs=[x]/\Dt K H x d:=by
 cases h with
 |cons h t=>cases t;exact⟨_,rfl,h⟩
theorem WL:mJ K (Nc K) J9:=by
 intro O va H xs ds pv Q D hx hf q;delta J9 at hf;split at hf
 . cases hf;obtain⟨x,rfl,h⟩:=hx.inv1;cases h with
   |lst hs ht=>exact .inl ⟨_,_,rfl,.inl (o9.seq hs),q _ H (i8.refl H) (by rw[ht.length];exact Dt.int _)⟩
 . cases hf;obtain⟨x,rfl,h⟩:=hx.inv1;cases h with
   |tup hs ht=>exact .inl ⟨_,_,rfl,.inr (o9.cy hs),q _ H (i8.refl H) (by rw[ht.length];exact Dt.int _)⟩
 . split at hf
   . rename_i hz;cases hf;obtain⟨x,rfl,h⟩:=hx.inv1;cases h;exact .inr ⟨_,rfl,pW hz,q _ H (i8.refl H) (Dt.int _)⟩
   . cases hf
 . cases hf
def ph:List c6->Option PV
 | [.int i]=>some (.dat (.int (if i<0 then -i else i)))
 |_=>none
theorem WQ:mJ K (λxs H Q=>∃i,xs=[.int i]/\Q (.int (if i<0 then -i else i)) H) ph:=by
 intro O va H xs ds pv Q D hx hf q;delta ph at hf;split at hf
 . cases hf;obtain⟨x,rfl,h⟩:=hx.inv1;cases h;exact⟨_,rfl,q _ H (i8.refl H) (Dt.int _)⟩
 . cases hf
def pS:List c6->Option PV
 | [.list l]=>some (.dat (.tuple l))
 | [.tuple l]=>some (.dat (.tuple l))
 |_=>none
theorem Ri:mJ K (λxs H Q=>∃p ys,xs=[.ref p]/\((G6 K H p ys/\∀l,H l=none->Q (.ref l) (upd H l (.tup ys)))\/(N4 K H p ys/\Q (.ref p) H))) pS:=by
 intro O va H xs ds pv Q D hx hf q;delta pS at hf;split at hf
 . cases hf;obtain⟨x,rfl,h⟩:=hx.inv1;cases h with
   |lst hs ht=>exact⟨_,_,rfl,.inl ⟨o9.seq hs,λp hp=>q _ _ (i8.new hp) (uu D hp ht)⟩⟩
 . cases hf;obtain⟨x,rfl,h⟩:=hx.inv1;cases h with
   |tup hs ht=>exact⟨_,_,rfl,.inr ⟨o9.cy hs,q _ H (i8.refl H) (Dt.tup hs ht)⟩⟩
 . cases hf
def oN:List c6->Option PV
 | [.list l]=>some (.own l)
 | [.tuple l]=>some (.own l)
 |_=>none
theorem TB:mJ K (λxs H Q=>∃p ys,xs=[.ref p]/\(G6 K H p ys\/N4 K H p ys)/\∀l,H l=none->Q (.ref l) (upd H l (.lst ys))) oN:=by
 intro O va H xs ds pv Q D hx hf q;delta oN at hf;split at hf
 . cases hf;obtain⟨x,rfl,h⟩:=hx.inv1;cases h with
   |lst hs ht=>exact⟨_,_,rfl,.inl (o9.seq hs),λp hp=>q _ _ (i8.new hp) (gu hp ht)⟩
 . cases hf;obtain⟨x,rfl,h⟩:=hx.inv1;cases h with
   |tup hs ht=>exact⟨_,_,rfl,.inr (o9.cy hs),λp hp=>q _ _ (i8.new hp) (gu hp ht)⟩
 . cases hf
def intD:List c6->Option PV
 | [.int i]=>some (.dat (.int i))
 | [.bool k]=>some (.dat (.int (if k then 1 else 0)))
 |_=>none
theorem WM:mJ K (λxs H Q=>(∃i,xs=[.int i]/\Q (.int i) H)\/∃k,xs=[.bl k]/\Q (.int (if k then 1 else 0)) H) intD:=by
 intro O va H xs ds pv Q D hx hf q;delta intD at hf;split at hf
 . cases hf;obtain⟨x,rfl,h⟩:=hx.inv1;cases h;exact .inl ⟨_,rfl,q _ H (i8.refl H) (Dt.int _)⟩
 . cases hf;obtain⟨x,rfl,h⟩:=hx.inv1;cases h;exact .inr ⟨_,rfl,q _ H (i8.refl H) (Dt.int _)⟩
 . cases hf
def boolsOf:List c6->Option (List Bool)
 | []=>some []
 | .bool b::r=>(boolsOf r).bind λl=>some (b::l)
 |_=>none
def qH:List c6->Option PV
 | [.list l]=>(boolsOf l).bind λbs=>some (.dat (.bool (bs.all id)))
 |_=>none
theorem q4.bools{K:i9}{H:Hp}:∀{l:List c6} {xs:List V} {bs:List Bool},q4 K H xs l->boolsOf l=some bs->xs=bs.map V.bl
 | [],_,_,h,e=>by cases e;cases h;rfl
 |d::r,xs,bs,h,e=>by
  cases h with
  |cons h t =>
   cases h with
   |bl b =>
    have e':((boolsOf r).bind λl=>some (b::l))=some bs:=e
    cases h1:boolsOf r with
    |none=>rw[h1]at e';cases e'
    |some l =>
     rw[h1]at e';cases e';rw[t.bools h1];rfl
   |_=>cases e
theorem WN{A:A5}(hh:A.handled=none):mJ K (λxs H Q=>∃(p:Addr) (bs:List Bool),xs=[.ref p]/\G6 K H p (bs.map V.bl)/\A.handled=none/\Q (.bl (bs.all id)) H) qH:=by
 intro O va H xs ds pv Q D hx hf q;delta qH at hf;split at hf
 . rename_i l;cases h1:boolsOf l with
   |none=>rw[h1]at hf;cases hf
   |some bs =>
    rw[h1]at hf;cases hf;obtain⟨x,rfl,h⟩:=hx.inv1;cases h with
    |lst hs ht =>
     have e:=ht.bools h1;subst e;exact⟨_,bs,rfl,o9.seq hs,hh,q _ H (i8.refl H) (Dt.bl _)⟩
 . cases hf
noncomputable def bM(n:String)(F:Ds->Option PV):Ds->Option PV:=λds=>(F ds).bind λx=>if iN x.d=true then none else some (.dat (.bool (yu x.d n)))
theorem RN{fr:Bool}{c:Expr}{F:Ds->Option PV}{x:Str}{pos:Pos}{n:String}(h5:iC n)(hg:Gl X x)(hm:X.mg x=none)(hv:cX x=some (.builtin "isinstance"))(h:PX X fr e te F)(hc:PE X c (tC (.ty n)))(hn:x ≠ "__name__":=by decide)(hdb:(x==("__debug__" : Str))=false:=by decide)
  (hs1:j6 [e,c] X.env=(false,eval e X.env)::j6 [c] X.env:=by rfl) (hs2:j6 [c] X.env=(false,eval c X.env)::j6 [] X.env:=by rfl) (hpl:(C9 pos (j6 [c] X.env)).any (·.1)=false:=by rfl) :
  PX X fr (.Call (.Name x p) [e,c] [] pos) (zD (λxs H Q=>∃x n d,xs=[x,.ty n]/\Dt X.K H x d/\iN d=false/\iC n/\Q (.bl (yu d n)) H) (iK te (iK (tC (.ty n)) mT))) (bM n F) :=
 ⟨zX Pt hg hm hv (iw h.p (iw hc qg hs2) hs1) hn hdb hs1 hpl,by
 intro O h8 as σ H ds pv Q S hf q;delta bM at hf;cases h1:F ds with
 |none=>rw[h1]at hf;cases hf
 |some w =>
  rw[h1]at hf;simp only[j4]at hf;split at hf
  . cases hf
  . rename_i hfn;cases hf;refine h.t O h8 as σ H ds w _ S h1 λv H1 e1 r1=>?_
    exact⟨v,n,w.d,rfl,(r1.dt S.dm).same o9,by simpa using hfn,h5,q _ H1 e1 (Dt.bl _)⟩⟩
end
abbrev WV(K:i9):List V->Hp->VK->Prop:=λxs H Q=>∃p ys,xs=[.ref p]/\((G6 K H p ys/\∀l,H l=none->Q (.ref l) (upd H l (.tup ys)))\/(N4 K H p ys/\Q (.ref p) H))
abbrev UD(K:i9):List V->Hp->VK->Prop:=λxs H Q=>∃p ys,xs=[.ref p]/\(G6 K H p ys\/N4 K H p ys)/\∀l,H l=none->Q (.ref l) (upd H l (.lst ys))
def Gj(K:i9):List V->Hp->VK->Prop:=λxs H Q=>∃(p:Addr) (bs:List Bool),xs=[.ref p]/\G6 K H p (bs.map V.bl)/\Q (.bl (bs.all id)) H
theorem KN(hh:X.A.handled=none):V0 X (.builtin "all") (Gj X.K):=λpins s σ H xs us Q I r h=>by obtain⟨p,bs,e,hs,q⟩:=h;exact Pu pins s σ H xs us Q I r ⟨p,bs,e,hs,hh,q⟩
theorem TJ:mJ K (Gj K) qH:=by intro O va H xs ds pv Q D hx hf q;obtain⟨p,bs,e,hs,_,z⟩:=WN (A:=ju) rfl O va H xs ds pv Q D hx hf q;exact⟨p,bs,e,hs,z⟩
theorem Nn{fr:Bool}{es:List Expr}{t:TA}{Fl:Ds->Option (List c6)}{pos:Pos}{CX:mO}{E:XK}{k:Nat}{f:Addr}{fd:M7}{ps:List Str}{x:Str}{f':List c6->Option PV}(eK:X.K=K')(G:Y0 X.prog X.w K' X.mg X.base CX k f fd ps (A8 K' f'))(hr:G7 k X.A)(hg:Gl X x)(hm:X.mg x=some (.ref f))(hk:iR K' (.ref f)=true)(hb:Binds K' fd ps [])(hx:Passes CX X E)
  (ha:ek X fr (e::es) t Fl) (hdb:(x==("__debug__" : Str))=false:=by decide) (he:j6 (e::es) X.env=(false,eval e X.env)::j6 es X.env:=by rfl) (hpl:(C9 pos (j6 es X.env)).any (·.1)=false:=by rfl) :
  PX X fr (.Call (.Name x p) (e::es) [] pos) (ow (A8 K' f') [] E t) (g0 f' Fl):=by subst eK;exact RP G hr hg hm hk hb hx ha hdb he hpl
def WW(K:i9):List V->Hp->VK->Prop:=λxs H Q=>∃x n d,xs=[x,.ty n]/\Dt K H x d/\iN d=false/\iC n/\Q (.bl (yu d n)) H
theorem oE(eK:X.K=K'){fr:Bool}{c:Expr}{F:Ds->Option PV}{x:Str}{pos:Pos}{n:String}(h5:iC n)(hg:Gl X x)(hm:X.mg x=none)(hv:cX x=some (.builtin "isinstance"))(h:PX X fr e te F)(hc:PE X c (tC (.ty n)))(hn:x ≠ "__name__":=by decide)(hdb:(x==("__debug__" : Str))=false:=by decide)
  (hs1:j6 [e,c] X.env=(false,eval e X.env)::j6 [c] X.env:=by rfl) (hs2:j6 [c] X.env=(false,eval c X.env)::j6 [] X.env:=by rfl) (hpl:(C9 pos (j6 [c] X.env)).any (·.1)=false:=by rfl) :
  PX X fr (.Call (.Name x p) [e,c] [] pos) (zD (WW K') (iK te (iK (tC (.ty n)) mT))) (bM n F):=by subst eK;exact RN h5 hg hm hv h hc hn hdb hs1 hs2 hpl
theorem Ht:iC "tuple":=.inl rfl
theorem Kf:iC "list":=.inr (.inl rfl)
theorem Kg:iC "bool":=.inr (.inr (.inl rfl))
theorem OQ:iC "int":=.inr (.inr (.inr (.inl rfl)))
def rQ(i:Nat)(ds:Ds):Nat:=match ds[i]? with
 |some (some (.dat (.int k)))=>k.natAbs+1
 |_=>0
end
section
variable{H H':Hp}{K:i9}
theorem SV:n6 H [] []=H:=by
 funext b
 delta n6;rw[e9 (by simp)]
theorem Rt{a:Addr}{xs:List V}(h:G6 K H a xs):G6 K (n6 H [] []) a xs:=by rw[SV];exact h
theorem AW{K:i9}{H:Hp}:∀ns:List Int,q4 K H (ns.map V.int) (ns.map ao)
 | []=>.nil
 |n::r=>.cons (.int n) (AW r)
theorem SY{v:V}(r:RX K [] [] H H' v (.dat (.bool true))):v=.bl true:=by have r':Dt K (n6 H' [] []) v (.bool true):=r;cases r';rfl
end
section
variable{ds ds2:Ds}{α:Type}{j lo:Int}{m:Nat}{gt:c6->Ds->Option Ds}{G:Ds->Option Out}{Fc:Ds->Option Bool}
def Z6(o:Option Out)(G:Ds->Option Out):Option Out:=o.bind λo=>match o with
 | .next ds'=>G ds'
 |o=>some o
theorem j7(G1 G2:Ds->Option Out)(ds:Ds):i6 G1 G2 ds=Z6 (G1 ds) G2:=rfl
theorem j0(ds:Ds)(G:Ds->Option Out):Z6 (some (.next ds)) G=G ds:=rfl
theorem zK(pv:PV)(G:Ds->Option Out):Z6 (some (.ret pv)) G=some (.ret pv):=rfl
theorem zL(ds:Ds)(G:Ds->Option Out):Z6 (some (.brk ds)) G=some (.brk ds):=rfl
theorem ye(ds:Ds)(G:Ds->Option Out):Z6 (some (.cont ds)) G=some (.cont ds):=rfl
theorem ua(b:Bool):QU (.bool b)=some b:=rfl
theorem xK(i:Int):XJ (.int i)=some i:=rfl
theorem uq(l:List c6):aT (.list l)=some l:=rfl
theorem yd(l:List c6):aT (.tuple l)=some l:=rfl
theorem zY(pv:PV):Gw (.ret pv)=some pv:=rfl
theorem yh(ds:Ds):Gw (.next ds)=some (.dat .none):=rfl
def GY(o:Option PV)(i:Nat)(ds:Ds):Option Out:=o.bind λpv=>some (.next (ds.set i (some (.dat pv.d))))
theorem T8(i:Nat)(F:Ds->Option PV)(ds:Ds):i7 i F ds=GY (F ds) i ds:=rfl
theorem mC(pv:PV)(i:Nat)(ds:Ds):GY (some pv) i ds=some (.next (ds.set i (some (.dat pv.d)))):=rfl
def VN(o:Option PV)(i:Nat)(ds:Ds):Option Out:=o.bind λpv=>some (.next (ds.set i (some pv)))
theorem xw(i:Nat)(F:Ds->Option PV)(ds:Ds):R8 i F ds=VN (F ds) i ds:=rfl
theorem yo(pv:PV)(i:Nat)(ds:Ds):VN (some pv) i ds=some (.next (ds.set i (some pv))):=rfl
def Bu(o:Option PV)(i:Nat)(ds:Ds):Option Out:=o.bind λpv=>match ds[i]? with
 |some (some (.own l))=>if l.length<1000000 then some (.next (ds.set i (some (.own (l++[pv.d])))))else none
 |_=>none
theorem EZ(i:Nat)(F:Ds->Option PV)(ds:Ds):fB i F ds=Bu (F ds) i ds:=rfl
theorem cQ{i:Nat}{l:List c6}(pv:PV)(h:ds[i]? = some (some (.own l)))(hl:l.length<1000000):Bu (some pv) i ds=some (.next (ds.set i (some (.own (l++[pv.d]))))):=by delta Bu;simp only[j4,h];rw[c7 hl]
abbrev iD(n:Int):Option PV:=some (.dat (.int n))
theorem QT(x:α)(l:List α):K5 (x::l) 0=some x:=by
 delta K5 fT;rw[c7 (by decide),c7 (by simp)]
 rfl
theorem dE{l:List α}{i:Int}{n:Nat}(hi:i=(n:Int))(h:n<l.length):K5 l i=l[n]?:=by
 subst hi;delta K5 fT;rw[c7 (by lia),c7 (by lia)]
 simp
theorem QS(x y:α)(l:List α):K5 (x::y::l) 1=some y:=dE (n:=1) rfl (by simp)
theorem QR(x y z:α)(l:List α):K5 (x::y::z::l) 2=some z:=dE (n:=2) rfl (by simp)
theorem QQ(x y z u:α)(l:List α):K5 (x::y::z::u::l) 3=some u:=dE (n:=3) rfl (by simp)
theorem QP(x y z u v:α)(l:List α):K5 (x::y::z::u::v::l) 4=some v:=dE (n:=4) rfl (by simp)
theorem QO(x y z u v w:α)(l:List α):K5 (x::y::z::u::v::w::l) 5=some w:=dE (n:=5) rfl (by simp)
theorem QN(x y z u v w a:α)(l:List α):K5 (x::y::z::u::v::w::a::l) 6=some a:=dE (n:=6) rfl (by simp)
theorem Bv(i j:Int):v8 (.int i) (.int j)=some (.dat (.int (i+j))):=rfl
theorem zF(i j:Int):oz (.int i) (.int j)=some (.dat (.int (i-j))):=rfl
theorem p8{i:Int}(h:Bt 60000 i)(k:Bt 60000 j):B4 (.int i) (.int j)=some (.dat (.int (i*j))):=by delta B4 qx;simp only[];rw[c7 ⟨h,k⟩]
theorem K3{i:Int}(h:j≠0)(k:Bt 8000 j):aj (.int i) (.int j)=some (.dat (.int (i.fdiv j))):=by delta aj qx;simp only[];rw[c7 ⟨h,k⟩]
theorem Z7{i:Int}(h:j≠0):bJ (.int i) (.int j)=some (.dat (.int (i.fmod j))):=c7 h
theorem zU{i:Int}(h:xN i j):tF (.int i) (.int j)=some (.dat (.int (i ^ j.toNat))):=c7 h
theorem MN{i:Int}(h:0<=j):FZ (.int i) (.int j)=some (.dat (.int (i/2 ^ j.toNat))):=c7 h
theorem EG(i j:Int):nt (.int i) (.int j)=some (.dat (.bool (decide (i<j)))):=rfl
theorem EL(i j:Int):Yx (.int i) (.int j)=some (.dat (.bool (decide (i<=j)))):=rfl
theorem EW(i j:Int):mF (.int i) (.int j)=some (.dat (.bool (decide (j<i)))):=rfl
theorem EX(i j:Int):Qx (.int i) (.int j)=some (.dat (.bool (decide (j<=i)))):=rfl
theorem Fq(i j:Int):X7 (.int i) (.int j)=decide (i=j):=by simp only[X7];rw[jF];simp
theorem gs(i:Int):J7 (.int i)=true:=by simp[J7,bO,nS]
theorem Dg:J7 .none=true:=by simp[J7,bO,nS]
theorem Fp(i j:Str):X7 (.str i) (.str j)=decide (i=j):=by simp only[X7];rw[jF];simp
theorem oW(i j:Int):O3 (.int i) (.int j)=some (.dat (.bool (decide (i=j)))):=by
 show(if J7 (.int i)=true/\J7 (.int j)=true then some (PV.dat (.bool (X7 (.int i) (.int j))))else none)=_
 rw[c7 ⟨gs i,gs j⟩,Fq]
theorem Aj(i j:Int):V4 (.int i) (.int j)=some (.dat (.bool (!decide (i=j)))):=by
 show(if J7 (.int i)=true/\J7 (.int j)=true then some (PV.dat (.bool (!PyData.eqv (.int i) (.int j))))else none)=_
 rw[c7 ⟨gs i,gs j⟩,Fq]
theorem AR(i j:Str):O3 (.str i) (.str j)=some (.dat (.bool (decide (i=j)))):=by rfl
theorem Ai(i j:Str):V4 (.str i) (.str j)=some (.dat (.bool (!decide (i=j)))):=by rfl
theorem ES(l:List c6)(i:Int):j5 (.tuple l) (.int i)=(K5 l i).bind λd=>some (.dat d):=rfl
theorem AB(l:List c6)(i:Int):j5 (.list l) (.int i)=(K5 l i).bind λd=>some (.dat d):=rfl
theorem Bw(i:Int):ph [.int i]=some (.dat (.int (if i<0 then -i else i))):=rfl
theorem Ah(i:Int):Q3 (.int i)=some (.dat (.int (-i))):=rfl
theorem yp(l:List c6):J9 [.list l]=some (.dat (.int (l.length:Nat))):=rfl
theorem Av(l:List c6):J9 [.tuple l]=some (.dat (.int (l.length:Nat))):=rfl
theorem xU(l:List c6):pS [.list l]=some (.dat (.tuple l)):=rfl
theorem zz(l:List c6):pS [.tuple l]=some (.dat (.tuple l)):=rfl
theorem uQ(l:List c6):oN [.list l]=some (.own l):=rfl
theorem yn(l:List c6):oN [.tuple l]=some (.own l):=rfl
theorem qI{l m:List c6}(h:l.length+m.length<=1000000):v8 (.list l) (.list m)=some (.own (l++m)):=c7 h
theorem Ec(l:List c6)(lo hi:Option Int):fP (.tuple l) lo hi=some (.dat (.tuple (cutD l lo hi))):=rfl
theorem tj(l:List c6)(lo hi:Option Int):fP (.list l) lo hi=some (.own (cutD l lo hi)):=rfl
theorem AE(d:c6):gz d .none=some (.dat (.bool (fU d))):=rfl
theorem sJ(d:c6):cI d .none=some (.dat (.bool (!fU d))):=rfl
theorem C8(h : -(4611686018427387904)<=j/\j<4611686018427387904):I0 [.int j]=some (V3 0 j.toNat):=@if_pos _ (LY _) h _ _ _
theorem Pp{Fe:Ds->Option PV}{f:Nat->c6}{n:Nat}(h:∀i,i<n->∃pv,Fe (some (.dat (.int (lo+(i:Nat))))::ds)=some pv/\pv.d=f i):D6 m7 m6 Fe ds (V3 lo n)=some ((A4 n).map f):=by
 unfold V3;have key:∀(l:List Nat),(∀i∈l,i<n)->D6 m7 m6 Fe ds (l.map λk=>ao (lo+(k:Nat)))=some (l.map f):=by
  intro l;induction l with
  |nil=>intro _;rfl
  |cons i r ih =>
   intro hl;obtain⟨pv,h2,h3⟩:=h i (hl i A2);rw[o6];unfold D6;simp only[m7,j4,m6,A9,jn,lq,X9,aF];rw[h2];simp only[j4];rw[ih (λj hj=>hl j (C4 _ hj))]
   simp[h3]
 exact key _ (λi hi=>mem_range.mp hi)
theorem Z9{n:Nat}(I:Nat->Ds->Prop)(h0:I 0 ds)(hs:∀i ds,i<n->I i ds->∃ds1 ds2,gt (.int (lo+(i:Nat))) ds=some ds1/\(G ds1=some (.next ds2)\/G ds1=some (.cont ds2))/\I (i+1) ds2):∃ds',K7 gt G (V3 lo n) ds=some (.next ds')/\I n ds':=by
 have key:∀(k i:Nat) (ds:Ds),i+k=n->I i ds->∃ds',K7 gt G ((List.range' i k).map λk=>ao (lo+(k:Nat))) ds=some (.next ds')/\I n ds':=by
  intro k;induction k with
  |zero =>
   intro i ds e hi;have h2:i=n:=by lia
   subst h2;exact⟨ds,rfl,hi⟩
  |succ k ih =>
   intro i ds e hi;obtain⟨ds1,ds2,e1,e2,e3⟩:=hs i ds (by lia) hi
   rw[List.range'_succ,o6];unfold K7;rw[e1];simp only[j4];obtain⟨ds',e4,e5⟩:=ih (i+1) ds2 (by lia) e3
   refine⟨ds',?_,e5⟩;rcases e2 with e2|e2<;>rw[e2]<;>exact e4
 obtain⟨ds',h1,h2⟩:=key n 0 ds (by lia) h0
 refine⟨ds',?_,h2⟩;unfold V3;rw[List.range_eq_range'];exact h1
theorem tP{items:List c6}(I:Nat->Ds->Prop)(h0:I 0 ds)(hs:∀i d ds,items[i]? = some d->I i ds->∃ds1 ds2,gt d ds=some ds1/\(G ds1=some (.next ds2)\/G ds1=some (.cont ds2))/\I (i+1) ds2):∃ds',K7 gt G items ds=some (.next ds')/\I items.length ds':=by
 have key:∀(r:List c6) (i:Nat) (ds:Ds),items.drop i=r->i<=items.length->I i ds->∃ds',K7 gt G r ds=some (.next ds')/\I items.length ds':=by
  intro r;induction r with
  |nil =>
   intro i ds e hl hi;have h1:=List.drop_eq_nil_iff.mp e;have h2:i=items.length:=by lia
   subst h2;exact⟨ds,rfl,hi⟩
  |cons x r ih =>
   intro i ds e hl hi;have hlt:i<items.length:=by
    by_cases c:i<items.length
    . exact c
    . rw[CL (by lia)]at e;cases e
   rw[sk hlt]at e;injection e with ea eb
   obtain⟨ds1,ds2,e1,e2,e3⟩:=hs i x ds (by rw[J3 hlt,ea]) hi
   unfold K7;rw[e1];simp only[j4];obtain⟨ds',e4,e5⟩:=ih (i+1) ds2 eb (by lia) e3
   refine⟨ds',?_,e5⟩;rcases e2 with e2|e2<;>rw[e2]<;>exact e4
 exact key items 0 ds (by simp) (cT _) h0
theorem zo{n:Nat}(h:Fc ds=some false):E4 Fc G (n+1) ds=some (.next ds):=by unfold E4;rw[h];rfl
theorem Dc{n:Nat}(h:Fc ds=some true)(k:G ds=some (.next ds2)):E4 Fc G (n+1) ds=E4 Fc G n ds2:=by rw[E4,h];simp only[j4,A9];rw[k];rfl
theorem xP(I:Ds->Prop)(μ:Ds->Nat)(hs:∀ds,I ds->Fc ds=some false\/(Fc ds=some true/\∃ds2,G ds=some (.next ds2)/\I ds2/\μ ds2<μ ds)):
  ∀(n:Nat) (ds:Ds),I ds->μ ds<n->∃ds',E4 Fc G n ds=some (.next ds')/\I ds'/\Fc ds'=some false:=by
 intro n;induction n with
 |zero=>intro ds _ h;lia
 |succ n ih =>
  intro ds hi hm;rcases hs ds hi with h|⟨h,ds2,k,i2,m2⟩
  . exact⟨ds,zo h,hi,h⟩
  . obtain⟨ds',e,r⟩:=ih ds2 i2 (by lia)
    exact⟨ds',by rw[Dc h k];exact e,r⟩
theorem Bt.ic{i:Int}(h1 : -4611686018427387904<i)(h2:i<4611686018427387904)(hm:62<=m:=by decide):Bt m i:=(Bt.small (by lia) (by lia)).mono hm
theorem Bt.lit{i:Int}(h1 : -4611686018427387904<i:=by decide)(h2:i<4611686018427387904:=by decide)(hm:62<=m:=by decide):Bt m i:=Bt.ic h1 h2 hm
end
section
variable{K:i9}
def QB(i:Nat)(f:List c6->List c6):Ds->Option Out:=λds=>match ds[i]? with
 |some (some (.own l))=>some (.next (ds.set i (some (.own (f l)))))
 |_=>none
section
variable{X:Cx}{e o:Expr}{te:TE}{F:Ds->Option PV}{pos cpos apos:Pos}
noncomputable def S6(i:Nat)(Fk Fv:Ds->Option PV):Ds->Option Out:=λds=>(Fv ds).bind λpv=>(Fk ds).bind λk=>match k.d,ds[i]? with
 | .int k,some (some (.own l))=>(fT l.length k).bind λj=>some (.next (ds.set i (some (.own (l.set j pv.d)))))
 |_,_=>none
theorem Nq{k:Expr}{tk:TE}{Fk:Ds->Option PV}(i:Nat){ipos:Pos}(ho:PE X o (O2 i))(hk:PX X true k tk Fk)(he:PX X true e te F)
  (ha:∀v,assign (.Subscript o k ipos) X.env v=(do
   let ov <- holding [v] (eval o X.env)
   let iv <- holding [v,ov] (eval k X.env)
   cc ipos
   holding [v,ov,iv] (setItem ov iv v)
   release [v,ov,iv] []):=by intro _;rfl)
  (hs:BX [.Subscript o k ipos] e pos.line X.env=pure false:=by rfl) (hw:BW [.Subscript o k ipos] e X.env=pure none:=by rfl)
  (h1:(jw [.Subscript o k ipos] X.env).map (·.2)=[assign (.Subscript o k ipos) X.env]:=by rfl) :
  M5 X (.Assign [.Subscript o k ipos] e pos) (kT te (OL (O2 i) tk Gg)) (S6 i Fk F):=⟨IT he.p (IZ ho hk.p set_list ha) hs hw h1,by
 intro O h8 as σ H ds D o S h q;delta S6 at h;cases e1:F ds with
 |none=>rw[e1]at h;cases h
 |some pv =>
  cases e2:Fk ds with
  |none=>rw[e1,e2]at h;cases h
  |some kv =>
   rw[e1,e2]at h;simp only[j4]at h;split at h
   . rename_i kk l hkk hd;cases e3:fT l.length kk with
     |none=>rw[e3]at h;cases h
     |some j =>
      rw[e3]at h;cases h;refine he.t O h8 as σ H ds pv _ S e1 λv H1 s1 r1=>?_
      have S1:=S.grow s1;obtain⟨a,xs,z1,z2,z3,z4⟩:=S1.slot i _ hd;refine⟨_,z1,?_⟩;refine hk.t O h8 as σ H1 ds kv _ S1 e2 λw H2 s2 r2=>?_
      have dk:=r2.dt S1.dm;rw[hkk]at dk;cases dk;have dv:=(r1.grow s2).dt S.dm;refine⟨a,xs,kk,j,rfl,rfl,s2 _ _ z3,by rw[z4.length];exact e3,q as σ _ ?_⟩
      exact(S1.grow s2).turn hd z1 ((z4.same (T7 s2)).set j dv)
   . cases h⟩
end
def qC:c6->c6->Bool
 | .none,.none=>true
 | .bool a,.bool b=>a==b
 | .bool a,.int b=>(if a then 1 else 0)==b
 | .int a,.bool b=>a==(if b then 1 else 0)
 | .int a,.int b=>a==b
 | .str a,.str b=>a==b
 |_,_=>false
theorem Dt.aX{K:i9}{H:Hp}{x:V}{d:c6}(h:Dt K H x d)(f:Flat d=true):L2.aX x=true:=by
 cases h with
 |non=>rfl
 |bl _=>rfl
 |int _=>rfl
 |str _=>rfl
 |tup _ _=>cases f
 |lst _ _=>cases f
 |exc _ _ _ _ _=>cases f
 |fn _=>cases f
 |ins _ _ _ _=>cases f
 |dct _ _ _=>cases f
theorem Dt.qC{K:i9}{H:Hp}{x y:V}{d e:c6}(h:Dt K H x d)(k:Dt K H y e)(f:Flat d=true)(g:Flat e=true):vm x y=L2.qC d e:=by
 cases h with
 |tup _ _=>cases f
 |lst _ _=>cases f
 |exc _ _ _ _ _=>cases f
 |fn _=>cases f
 |ins _ _ _ _=>cases f
 |dct _ _ _=>cases f
 |non=>cases k with
  |tup _ _=>cases g
  |lst _ _=>cases g
  |exc _ _ _ _ _=>cases g
  |fn _=>cases g
  |ins _ _ _ _=>cases g
  |dct _ _ _=>cases g
  |_=>rfl
 |bl _=>cases k with
  |tup _ _=>cases g
  |lst _ _=>cases g
  |exc _ _ _ _ _=>cases g
  |fn _=>cases g
  |ins _ _ _ _=>cases g
  |dct _ _ _=>cases g
  |_=>rfl
 |int _=>cases k with
  |tup _ _=>cases g
  |lst _ _=>cases g
  |exc _ _ _ _ _=>cases g
  |fn _=>cases g
  |ins _ _ _ _=>cases g
  |dct _ _ _=>cases g
  |_=>rfl
 |str _=>cases k with
  |tup _ _=>cases g
  |lst _ _=>cases g
  |exc _ _ _ _ _=>cases g
  |fn _=>cases g
  |ins _ _ _ _=>cases g
  |dct _ _ _=>cases g
  |_=>rfl
theorem q4.uW{K:i9}{H:Hp}{x:V}{d:c6}(h:Dt K H x d)(f:Flat d=true):∀{xs:List V} {l:List c6},q4 K H xs l->l.all Flat=true->xs.all aX=true/\L2.uW x xs=l.any (λy=>L2.qC y d)
 |_,_,.nil,_=>⟨rfl,rfl⟩
 |_,_,.cons k t,g=>by
  rw[nU,iT]at g;obtain⟨h1,h2⟩:=q4.uW h f t g.2;refine⟨by rw[nU,k.aX g.1,h1];rfl,?_⟩
  delta L2.uW at h2 ⊢;rw[qT,qT,h2,k.qC h g.1 f]
def inD:c6->c6->Option PV:=λd e=>(aT e).bind λl=>if Flat d=true/\l.all Flat=true then some (.dat (.bool (l.any λy=>qC y d)))else none
def ql:c6->c6->Option PV:=λd e=>(aT e).bind λl=>if Flat d=true/\l.all Flat=true then some (.dat (.bool (!l.any λy=>qC y d)))else none
theorem EU{O:List Addr}{va:As}{H:Hp}{x y:V}{d e:c6}{l:List c6}(hx:Dt K (n6 H va O) x d)(hy:Dt K (n6 H va O) y e)(hl:aT e=some l)(hf:Flat d=true/\l.all Flat=true):
  ∃p xs,y=.ref p/\(G6 K H p xs\/N4 K H p xs)/\aX x=true/\xs.all aX=true/\uW x xs=l.any (λy=>qC y d):=by
 cases hy with
 |lst hs ht =>
  cases hl;obtain⟨h1,h2⟩:=q4.uW hx hf.1 ht hf.2;exact⟨_,_,rfl,.inl (o9.seq hs),hx.aX hf.1,h1,h2⟩
 |tup hs ht =>
  cases hl;obtain⟨h1,h2⟩:=q4.uW hx hf.1 ht hf.2;exact⟨_,_,rfl,.inr (o9.cy hs),hx.aX hf.1,h1,h2⟩
 |_=>cases hl
theorem Yb:bE K (Ej K false) inD:=by
 intro O va H x y d e pv Q D hx hy hf q;delta inD at hf;cases hl:aT e with
 |none=>rw[hl]at hf;cases hf
 |some l =>
  rw[hl]at hf;simp only[j4]at hf;split at hf
  . rename_i hc;cases hf;obtain⟨p,xs,e1,h1,h2,h3,h4⟩:=EU hx hy hl hc;refine⟨p,xs,e1,h1,h2,h3,q _ H (i8.refl H) ?_⟩;rw[h4];exact Dt.bl _
  . cases hf
theorem Rj:bE K (Ej K true) ql:=by
 intro O va H x y d e pv Q D hx hy hf q;delta ql at hf;cases hl:aT e with
 |none=>rw[hl]at hf;cases hf
 |some l =>
  rw[hl]at hf;simp only[j4]at hf;split at hf
  . rename_i hc;cases hf;obtain⟨p,xs,e1,h1,h2,h3,h4⟩:=EU hx hy hl hc;refine⟨p,xs,e1,h1,h2,h3,q _ H (i8.refl H) ?_⟩;rw[h4];exact Dt.bl _
  . cases hf
end
section
variable{r ds:List c6}{K:i9}
def Wj(i:Nat)(F:Ds->Option PV):Ds->Option PV:=λds=>match ds[i]? with
 |some (some pv)=>(F ds).bind λk=>j5 pv.d k.d
 |_=>none
def Kk(i:Nat):Ds->Option PV:=λds=>match ds[i]? with
 |some (some pv)=>oN [pv.d]
 |_=>none
def intsOf:List c6->Option (List Int)
 | []=>some []
 | .int i::r=>(intsOf r).bind λl=>some (i::l)
 |_=>none
def wV:List c6->Option PV
 | [.list l]=>(intsOf l).bind λis=>some (.dat (.int is.sum))
 |_=>none
def af:Int->List c6->List c6
 |_,[]=>[]
 |k,d::r=>.tuple [.int k,d]::af (k+1) r
noncomputable def kq:List c6->Option (List c6)
 | [d]=>(aT d).bind λl=>some (af 0 l)
 |_=>none
theorem Bk(a b:Prop)[Decidable a][Decidable b]:(if a then some (PV.dat (.bool (decide b)))else some (PV.dat (.bool false)))=some (PV.dat (.bool (decide (a/\b)))):=by
 by_cases h:a
 . rw[c7 h];simp[h]
 . rw[e9 h];simp[h]
theorem AF(i:Int):intD [.int i]=some (.dat (.int i)):=rfl
theorem yw(b:Bool):intD [.bool b]=some (.dat (.int (if b=true then 1 else 0))):=rfl
theorem xY(l:List c6):wV [.list l]=(intsOf l).bind λis=>some (.dat (.int is.sum)):=rfl
theorem yF(d:c6):kq [d]=(aT d).bind λl=>some (af 0 l):=rfl
theorem O7{gt:c6->Ds->Option Ds}{G:Ds->Option Out}{d:c6}{ds ds1 ds2:Ds}(h1:gt d ds=some ds1)(h2:G ds1=some (.next ds2)):K7 gt G (d::r) ds=K7 gt G r ds2:=by rw[K7,h1];simp only[j4];rw[h2];rfl
theorem comp_map{α:Type}{g f:α->c6}{Fe:Ds->Option PV}{ds:Ds}:∀{l:List α},(∀x∈l,∃pv,Fe (some (.dat (g x))::ds)=some pv/\pv.d=f x)->D6 m7 m6 Fe ds (l.map g)=some (l.map f)
 | [],_=>rfl
 |x::r,h=>by
  obtain⟨pv,h2,h3⟩:=h x A2;rw[o6];unfold D6;simp only[m7,j4,m6,A9,jn,lq,X9,aF];rw[h2];simp only[j4];rw[comp_map (λy hy=>h y (C4 _ hy))]
  simp[h3]
theorem ints_map{α:Type}(f:α->Int):∀l:List α,intsOf (l.map λx=>.int (f x))=some (l.map f)
 | []=>rfl
 |x::r=>by rw[o6,intsOf,ints_map f r];rfl
section
variable{X:Cx}{fr:Bool}{b o:Expr}{tb:TE}{Fb:Ds->Option PV}{pos p:Pos}
theorem zP{x:Str}{u:e8}{v:V}{d:c6}(hg:Gl X x)(h:X.mg x=some u/\RelV v u/\∀H,Dt X.K H v d)(hd:(x==("__debug__" : Str))=false:=by decide):PX X fr (.Name x pos) (tC v) (fC d) :=
 zQ (Sq hg h.1 h.2.1 hd) h.2.2
end
theorem yH{mg:Str->Option e8}{x:Str}{a:Addr}{dd:Option Addr}{its:Array e8}{n:Nat}{sl:Array (Option e8)}{vs:List V}(hm:mg x=some (.ref a))(hk:K.lookup a=some ⟨.type "tuple",dd,.seq its n,sl⟩)(hz:its.size<=1000)(r:Vals vs its.toList)(hd:∀H,q4 K H vs ds):
  mg x=some (.ref a)/\RelV (.ref a) (.ref a)/\∀H,Dt K H (.ref a) (.tuple ds):=⟨hm,rfl,λH=>.tup (.inr ⟨_,its,n,hk,rfl,rfl,P5 hz (by rw[gN];decide),r⟩) (hd H)⟩
theorem kh:∀{ns:List Int} {us:List e8},Vals (ns.map V.int) us->Q8 us ns
 | [],_,.nil=>.nil
 |n::r,_,.cons h t=>by obtain⟨k,rfl⟩:=h;exact .cons n k (kh t)
def Gf(K:i9):List V->Hp->VK->Prop:=λxs H Q=>∃(p:Addr) (ns:List Int),xs=[.ref p]/\G6 K H p (ns.map V.int)/\Q (.int ns.sum) H
theorem KI{X:Cx}(hh:X.A.handled=none):V0 X (.builtin "sum") (Gf X.K):=by
 intro pins s σ H xs us Q I r h;obtain⟨p,ns,rfl,hq,q⟩:=h;obtain⟨u,rfl,ru⟩:=vals1 r;cases ru;obtain⟨its,rv,pl,hz⟩:=I.list hq;have hi:=kh rv;obtain⟨ys,ey⟩:=hi.allInts.items;have hl:=pl.isList;rw[ey]at hl;have en:ys.toList.map (·.1)=ns:=by have h1:=hi.numsOf;rw[<-nums_intItems,<-ey];exact h1
 refine sum_intListG hh hl λh' tk t' kk=>?_
 rw[preSum_eq,CK (by simp),en]
 exact⟨.int ns.sum,H,I.kept kk,⟨t',rfl⟩,q⟩
theorem q4.ints{K:i9}{H:Hp}:∀{l:List c6} {xs:List V} {is:List Int},q4 K H xs l->intsOf l=some is->xs=is.map V.int
 | [],_,_,.nil,e=>by cases e;rfl
 |d::r,_,is,.cons (x:=x) h t,e=>by
  cases h with
  |int i =>
   rw[intsOf]at e;cases h2:intsOf r with
   |none=>rw[h2]at e;cases e
   |some js =>
    rw[h2]at e;cases e;rw[q4.ints t h2];rfl
  |_=>cases e
theorem Tw:mJ K (Gf K) wV:=by
 intro O va H xs ds pv Q D hd hf q;delta wV at hf;split at hf
 . rename_i l;obtain⟨x,rfl,hx⟩:=hd.inv1;cases hx with
   |lst hs ht =>
    rename_i a ys;cases h1:intsOf l with
    |none=>rw[h1]at hf;cases hf
    |some is =>
     rw[h1]at hf;cases hf;have e:=ht.ints h1;subst e;exact⟨a,is,rfl,o9.seq hs,q _ H (i8.refl H) (Dt.int _)⟩
 . cases hf
section
variable{X:Cx}{bs nb:List Str}{elt tg iter:Expr}{ifs:List Expr}{scope:ag}{cpos pos pos':Pos}{wi:TI}{g:TG}{tt:TT}{te:TE}{Fi:Ds->Option (List c6)}{gt:c6->Option (List c6)}{Fc:Ds->Option Bool}{Fe:Ds->Option PV}{i:Nat}{x:Str}
theorem IJ(hN:X.N.Nodup)(hi':X.N[i]? = some x)(hx:Loc X.env.scope x)(hc:X.calm=true)(B:kE X bs nb scope)(hi:jZ X true tg iter wi Fi)(go:ma bs.length g)(hg:∀cl C fp s H pins,PG (W4 X bs nb scope cl C fp s H pins) tg g)(hgt:yP X.K bs.length g gt)(ht:∀cl C fp s H pins,ky (W4 X bs nb scope cl C fp s H pins) ifs tt Fc)(he:∀cl C fp s H pins,PX (W4 X bs nb scope cl C fp s H pins) true elt te Fe)
  (hsw:aJ (.ListComp elt [⟨tg,iter,ifs,0⟩] scope cpos) (some (.Name x pos')) pos.line X.env=pure true:=by rfl) (hf:X.fn x=true\/X.env.scope.names.lookup x=some .local:=by first|exact .inl rfl|exact .inr rfl|assumption)
  (hs:∀x,fg iter X.env x=pure x:=by intro _;rfl):M5 X (.Assign [.Name x pos'] (.ListComp elt [⟨tg,iter,ifs,0⟩] scope cpos) pos) (kT (kj bs wi g tt te) (ay i)) (i7 i (m9 Fi gt Fc Fe)) :=
 ⟨Em hN hi' hx hc B hi.p go hg (λ_ _ _ _ _ _=>(ht _ _ _ _ _ _).p) (λ_ _ _ _ _ _=>(he _ _ _ _ _ _).p) hsw hf hs,by
 have hF:=(wZ (pos:=cpos) hc B hi go hg hgt ht he hs).t;intro O h8 as σ H ds D o S h q;delta i7 at h;cases e1:m9 Fi gt Fc Fe ds with
 |none=>rw[e1]at h;cases h
 |some pv =>
  rw[e1]at h;cases h;refine hF O h8 as σ H ds pv _ S e1 λv H1 s1 r1=>?_
  exact q _ _ _ ((S.grow s1).set i (r1.dt S.dm))⟩
theorem II(hN:X.N.Nodup)(hi':X.N[i]? = some x)(hx:Loc X.env.scope x)(hc:X.calm=true)(B:kE X bs nb scope)(hi:jZ X true tg iter wi Fi)(go:ma bs.length g)(hg:∀cl C fp s H pins,PG (W4 X bs nb scope cl C fp s H pins) tg g)(hgt:yP X.K bs.length g gt)(ht:∀cl C fp s H pins,ky (W4 X bs nb scope cl C fp s H pins) ifs tt Fc)(he:∀cl C fp s H pins,PX (W4 X bs nb scope cl C fp s H pins) true elt te Fe)
  (hsw:aJ (.ListComp elt [⟨tg,iter,ifs,0⟩] scope cpos) (some (.Name x pos')) pos.line X.env=pure true:=by rfl) (hf:X.fn x=true\/X.env.scope.names.lookup x=some .local:=by first|exact .inl rfl|exact .inr rfl|assumption)
  (hs:∀x,fg iter X.env x=pure x:=by intro _;rfl):M5 X (.Assign [.Name x pos'] (.ListComp elt [⟨tg,iter,ifs,0⟩] scope cpos) pos) (kT (kj bs wi g tt te) (ay i)) (R8 i (m9 Fi gt Fc Fe)) :=
 ⟨Em hN hi' hx hc B hi.p go hg (λ_ _ _ _ _ _=>(ht _ _ _ _ _ _).p) (λ_ _ _ _ _ _=>(he _ _ _ _ _ _).p) hsw hf hs,by
 have hF:=(wZ (pos:=cpos) hc B hi go hg hgt ht he hs).t;intro O h8 as σ H ds D o S h q;delta R8 at h;cases e1:m9 Fi gt Fc Fe ds with
 |none=>rw[e1]at h;cases h
 |some pv =>
  rw[e1]at h;cases h;refine hF O h8 as σ H ds pv _ S e1 λv H1 s1 r1=>?_
  obtain⟨as',S'⟩:=S.store s1 i r1;exact q _ _ _ S'⟩
end
end
section
variable{X:Cx}{p:Array Nat}
mutual
def LF:c6->Bool
 | .none=>true
 | .bool _=>true
 | .int _=>true
 | .str _=>true
 | .tuple l=>pO l
 |_=>false
def pO:List c6->Bool
 | []=>true
 |d::r=>LF d&&pO r
end
theorem RC{K:i9}{H H':Hp}{a:Addr}{xs:List V}(e:∀b o,H b=some o->¬Cell o->H' b=some o)(h:N4 K H a xs):N4 K H' a xs:=by
 rcases h with (h|⟨o,h⟩)|h
 . exact .inl (.inl (e _ _ h (λz=>by rcases z with ⟨_,z⟩|⟨_,z⟩|⟨_,_,_,z⟩<;>cases z)))
 . exact .inl (.inr ⟨o,e _ _ h (λz=>by rcases z with ⟨_,z⟩|⟨_,z⟩|⟨_,_,_,z⟩<;>cases z)⟩)
 . exact .inr h
mutual
theorem Dt.lf{K:i9}{H H':Hp}(e:∀b o,H b=some o->¬Cell o->H' b=some o){x:V}{d:c6}(h:Dt K H x d)(f:LF d=true):Dt K H' x d:=by
 cases h with
 |non=>exact .non
 |bl b=>exact .bl b
 |int i=>exact .int i
 |str y=>exact .str y
 |tup hs ht=>exact .tup (RC e hs) (q4.lf e ht (by rw[LF]at f;exact f))
 |lst hs ht=>simp[LF]at f
 |exc _ _ _ _ _=>simp[LF,xB]at f
 |fn _=>simp[LF,QG]at f
 |ins _ _ _ _=>simp[LF,qw]at f
 |dct _ _ _=>simp[LF,xH]at f
theorem q4.lf{K:i9}{H H':Hp}(e:∀b o,H b=some o->¬Cell o->H' b=some o){xs:List V}{ds:List c6}(h:q4 K H xs ds)(f:pO ds=true):q4 K H' xs ds:=by
 cases h with
 |nil=>exact .nil
 |cons a t =>
  rw[pO,iT]at f;exact .cons (Dt.lf e a f.1) (q4.lf e t f.2)
end
def IC(K:i9):V->List V->Hp->VK->Prop:=λx vs H Q=>∃(p:Addr) (ns:List Int) (k:Int),x=.ref p/\vs=[.int k]/\G6 K H p (ns.map V.int)/\k∈ns/\ns.length<=1000000/\Q (.int (ns.idxOf k:Nat)) H
theorem Ol:WA X "list.index" (IC X.K):=by
 intro pins s σ H x vs v us Q I rx rv h;obtain⟨p,ns,k,rfl,rfl,hq,hk,hz,q⟩:=h;cases rx;obtain⟨u,rfl,ru⟩:=vals1 rv;obtain⟨t,rfl⟩:=ru;obtain⟨its,rv,pl,_⟩:=I.list hq;have hi:=kh rv;obtain⟨⟨cls,dd,data,sl⟩,ho,hc,n,hd⟩:=id pl.isList;simp only at hc hd;subst hc hd;have hlen:=hi.length;have hj:ns.idxOf k<ns.length:=(List.idxOf_lt_length_iff).2 hk;refine vB LX ⟨_,ho,rfl⟩ PySem.F.entry_list_index (PySem.F.args_list_index_2 _ _)
  (PySem.SeqAt.list_indexAt p its.toArray n dd sl (.int k t) (isInt k) (ns.idxOf k) (by simpa [hlen]using hj) (by lia) ?_ ?_) ⟨ho,λy hy=>(eq_isInt k t hi y (by simpa using hy)).at _ _,?_⟩
 . show isInt k its[ns.idxOf k]=true
   rw[isInt_at k hi _ (by lia) hj]
   simpa using Lx hj
 . intro j hjs hlt;show isInt k its[j]=false
   rw[isInt_at k hi j (by simpa using hjs) (by lia)]
   exact ne_of_lt_idxOf hlt _
 . exact⟨.int _,H,I.tok _,⟨_,rfl⟩,q⟩
def la:c6->List c6->Option PV
 | .list l,[.int k]=>(intsOf l).bind λns=>if k∈ns/\ns.length<=1000000 then some (.dat (.int (ns.idxOf k:Nat)))else none
 |_,_=>none
noncomputable def oU(f:c6->List c6->Option PV)(Fo:Ds->Option PV)(Fl:Ds->Option (List c6)):Ds->Option PV:=λds=>(Fo ds).bind λo=>(Fl ds).bind λl=>f o.d l
theorem Nj{fr:Bool}{o e:Expr}{to:TE}{t:TA}{Fo:Ds->Option PV}{Fl:Ds->Option (List c6)}{apos cpos:Pos}(ho:PX X fr o to Fo)(ha:ek X fr [e] t Fl)
  (hbase:aZ o "index" X.env (eval o X.env)=eval o X.env:=by rfl)
  (hfew:((C9 cpos (j6 [e] X.env)).all (λx=>!x.1)&&(bq cpos (dH [] X.env)).all (λx=>x.1.isSome)
   && decide ([e].length+([]:List bp).length+(if ([]:List bp).isEmpty then 0 else 1)<30))=true:=by rfl)
  (hline:(apos.endLine==cpos.line)=true:=by rfl) (hs:j6 [e] X.env=(false,eval e X.env)::j6 [] X.env:=by rfl) (hplain:(C9 cpos (j6 [] X.env)).any (·.1)=false:=by rfl) :
  PX X fr (.Call (.Attribute o "index" apos) [e] [] cpos) (Qg X.K "list" (IC X.K) to t) (oU la Fo Fl) :=
 ⟨Gv CO LX PySem.F.type_list_index Ol ho.p ha.p hbase hfew hline hs hplain,by
 intro O h8 as σ H ds pv Q S hf q;delta oU at hf;cases h1:Fo ds with
 |none=>rw[h1]at hf;cases hf
 |some x =>
  cases h2:Fl ds with
  |none=>rw[h1,h2]at hf;cases hf
  |some l =>
   rw[h1,h2]at hf;simp only[j4]at hf;refine ho.t O h8 as σ H ds x _ S h1 λv H1 e1 r1=>?_
   have d1:=r1.dt S.dm;generalize x.d=xd at hf d1;delta la at hf;split at hf
   . rename_i l' k;cases d1 with
     |lst hsq ht =>
      rename_i a xs;cases h3:intsOf l' with
      |none=>rw[h3]at hf;cases hf
      |some ns =>
       rw[h3]at hf;simp only[j4]at hf;split at hf
       . rename_i hk;cases hf;have ex:=ht.ints h3;subst ex;refine⟨.inl ⟨rfl,_,o9.seq hsq⟩,?_⟩;refine ha.t O h8 as σ H1 ds _ _ (S.grow e1) h2 λvs H2 e2 r2=>?_
         obtain⟨y,rfl,hy⟩:=r2.inv1;cases hy;exact⟨a,ns,k,rfl,rfl,e2.seq (o9.seq hsq),hk.1,hk.2,q _ H2 (e1.trans e2) (Dt.int _)⟩
       . cases hf
   . cases hf⟩
def Hf{α:Type}(c:Nat->Nat->Bool):nR α->α
 | .ret a=>a
 | .ask i j k=>Hf c (k (c i j))
def aV(n:Nat){α:Type}(R:α->Prop):nR α->Prop
 | .ret a=>R a
 | .ask i j k=>i<n/\j<n/\∀b,aV n R (k b)
theorem dw{n:Nat}{α β:Type}{R:α->Prop}{R':β->Prop}{f:α->nR β}(hf:∀a,R a->aV n R' (f a)):∀t:nR α,aV n R t->aV n R' (t.bind f)
 | .ret a,h=>hf a h
 | .ask i j k,h=>⟨h.1,h.2.1,λb=>dw hf (k b) (h.2.2 b)⟩
theorem yr{n:Nat}{α:Type}{R:α->Prop}(c:Nat->Nat->Bool):∀t:nR α,aV n R t->R (Hf c t)
 | .ret _,h=>h
 | .ask i j k,h=>yr c (k (c i j)) (h.2.2 _)
theorem XG{n:Nat}{α:Type}{R:α->Prop}{c:Nat->Nat->Bool}{cmp:Nat->Nat->(Bool->i5->Prop)->i5->Prop}{Q:α->i5->Prop}{s:i5}(hc:∀i j C,i<n->j<n->C (c i j) s->cmp i j C s):
  ∀t:nR α,aV n R t->Q (Hf c t) s->t.kasWp cmp Q s
 | .ret _,_,q=>q
 | .ask i j k,h,q=>hc i j _ h.1 h.2.1 (XG hc (k (c i j)) (h.2.2 _) q)
def Pm(n:Nat)(p:Array Nat):Prop:=p.Perm (List.toArray (A4 n))
theorem Pm.lt{n:Nat}(h:Pm n p)(hn:0<n)(i:Nat):p.getD i 0<n:=by
 by_cases hi:i<p.size
 . have e:p.getD i 0=p[i]:=by simp[Array.getD,hi]
   have m:p[i]∈p:=Array.getElem_mem hi;have:=h.mem_iff.mp m;rw[e];simpa using this
 . have e:p.getD i 0=0:=by simp[Array.getD,hi]
   lia
theorem Pm.rev{n:Nat}(h:Pm n p)(i j:Nat):Pm n (Lb p i j):=(mirror_perm _ _ _ _).trans h
theorem Pm.Yz{n:Nat}(h:Pm n p)(i j:Nat):Pm n (bubble p i j):=(bubble_perm _ _ _).trans h
theorem Ax{n:Nat}{p:Array Nat}(h:Pm n p)(hn:0<n):∀f m,aV n (λ_=>True) (PySem.W.kas_asc p f m)
 | 0,_=>cj
 |f+1,m=>⟨h.lt hn _,h.lt hn _,λb=>by
  cases b with
  |true=>exact cj
  |false=>exact Ax h hn f (m+1)⟩
theorem rS{n:Nat}(hn:0<n):∀f (p:Array Nat) m q,Pm n p->aV n (λr=>Pm n r.1) (PySem.W.kas_desc f p m q)
 | 0,_,_,_,h=>h
 |f+1,p,m,q,h=>⟨h.lt hn _,h.lt hn _,λb=>by
  cases b with
  |true =>
   show aV n _ (if q>0 then _ else _)
   split
   . exact rS hn f _ _ _ (h.rev _ _)
   . exact rS hn f _ _ _ h
  |false =>
   refine⟨h.lt hn _,h.lt hn _,λd=>?_⟩
   cases d with
   |true=>exact h
   |false=>exact rS hn f _ _ _ h⟩
theorem Aw{n:Nat}(h:Pm n p)(hn:0<n)(a b:Nat):aV n (λr=>Pm n r.2) (Lp a b p):=by delta Lp;exact dw (R:=λ_=>True) (R':=λr:Nat×Array Nat=>Pm n r.2) (f:=λm=>.ret (m,Lb p 0 a)) (λm _=>h.rev 0 a) _ (Ax (h.rev _ _) hn _ _)
theorem sI{n:Nat}(h:Pm n p)(hn:0<n)(a b:Nat):aV n (λr=>Pm n r.2) (LM a b p):=by
 delta LM;refine dw (R:=λr=>Pm n r.1) (λr hr=>?_) _ (rS hn _ _ _ _ h)
 split
 . exact Aw (hr.rev _ _) hn _ _
 . exact Aw hr hn _ _
theorem OB{n:Nat}(h:Pm n p)(hn:0<n)(b:Nat):aV n (λr=>Pm n r.2) (Lo b p):=by
 delta Lo;refine dw (R:=λ_=>True) (λm _=>?_) _ (Ax h hn _ _)
 split
 . exact h
 . split
   . refine⟨h.lt hn _,h.lt hn _,λc=>?_⟩
     cases c with
     |true=>exact h
     |false=>exact sI (h.rev _ _) hn _ _
   . exact sI h hn _ _
theorem tN{n:Nat}{p:Array Nat}(h:Pm n p)(hn:0<n)(k:Nat):∀f l r,aV n (λ_=>True) (PySem.W.kas_place p k f l r)
 | 0,_,_=>cj
 |f+1,l,r=>by
  show aV n _ (if l>=r then _ else _)
  split
  . exact cj
  . refine⟨h.lt hn _,h.lt hn _,λc=>?_⟩
    cases c with
    |true=>exact tN h hn k f _ _
    |false=>exact tN h hn k f _ _
theorem JK{n:Nat}(hn:0<n):∀f (p:Array Nat) k,Pm n p->aV n (Pm n) (PySem.W.kas_bin f p k)
 | 0,_,_,h=>h
 |f+1,p,k,h=>dw (λl _=>JK hn f _ _ (h.Yz _ _)) _ (tN h hn k _ _ _)
theorem EN{n:Nat}(hn:0<n):aV n (Pm n) (Cm n):=by
 delta Cm;refine dw (R:=λr=>Pm n r.2) (λr hr=>?_) _ (OB (show Pm n _ from .refl _) hn _)
 split
 . exact JK hn _ _ _ hr
 . exact hr
end
def Au(fin:Bool):List Int->List Int->Bool
 |a::r,b::t=>if a=b then Au fin r t else decide (a<b)
 |_,_=>fin
def Ox(x y:List Int):Bool:=Au (decide (x.length<y.length)) x y
theorem Az{prog:A6}{w:t7}{A:A5}{fin:Bool}{Q:Bool->i5->Prop}{s:i5}:∀{us vs:List e8} {xs ys:List Int} (i:Nat),Q8 us xs->Q8 vs ys->Q (Au fin xs ys) s->PySem.W.KatLex prog w A true fin Q (us.zip vs) i s
 |_,_,[],_,_,.nil,_,q=>by rw[Lq];exact q
 |_,_,_::_,[],_,_,.nil,q=>by rw[Lz];exact q
 |_,_,a::r,b::t,i,.cons _ tk h,.cons _ tk' h',q=>by
  rw[mM];refine PySem.W.kat_cons (wpAny_eqBool_int ?_);by_cases e:a=b
  . rw[show(a==b)=true by simpa using e]
    refine PySem.W.kat_yes (Az (i+1) h h' ?_);rw[Au,c7 e]at q;exact q
  . rw[show(a==b)=false by simpa using e]
    rw[Au,e9 e]at q;refine PySem.W.kat_no ?_;cases i with
    |zero=>exact oneLt_int q
    |succ i=>exact PySem.W.kat_one _ _ (lt_int (show PySem.W.BoolBack Q (.bool (decide (a<b))) s from q))
def dF(h:Heap):List e8->List (List Int)->Prop
 | [],[]=>True
 |v::vs,k::ks=>(∃a o xs n,v=.ref a/\h.get? a=some o/\o.cls=.type "tuple"/\o.data=.seq xs n/\Q8 xs.toList k)/\dF h vs ks
 |_,_=>False
theorem dF.keeps{h h':Heap}(kp:∀b o,h.get? b=some o->(∃xs n,o.data=.seq xs n)->h'.get? b=some o):∀{vs:List e8} {ks:List (List Int)},dF h vs ks->dF h' vs ks
 | [],[],_=>cj
 |_::_,_::_,⟨⟨a,o,xs,n,e,ho,hc,hd,hi⟩,t⟩=>⟨⟨a,o,xs,n,e,kp _ _ ho ⟨_,_,hd⟩,hc,hd,hi⟩,dF.keeps kp t⟩
theorem dF.Ki{h:Heap}:∀{vs:List e8} {ks:List (List Int)},dF h vs ks->(∀k∈ks,k≠[])->∃fs,PySem.W.KatTups h vs fs/\fs.length=ks.length/\∀f∈fs,∃i t,f=.int i t
 | [],[],_,_=>⟨[],.nil,rfl,by simp⟩
 |_::_,k::ks,⟨⟨a,o,xs,n,rfl,ho,hc,hd,hi⟩,t⟩,hn=>by
  obtain⟨fs,h1,h2,h3⟩:=dF.Ki t (λk hk=>hn k (C4 _ hk))
  cases hi':xs.toList with
  |nil=>rw[hi']at hi;cases hi;exact absurd rfl (hn [] A2)
  |cons u r =>
   rw[hi']at hi;cases hi with
   |cons i tk hr =>
    refine⟨.int i tk::fs,.cons ho hc hd ?_ h1,by simp[h2],?_⟩
    . have:xs[0]? = xs.toList[0]?:=by simp
      rw[this,hi'];rfl
    . intro f hf;rcases List.mem_cons.mp hf with rfl|hf
      . exact⟨i,tk,rfl⟩
      . exact h3 f hf
theorem dF.get{h:Heap}:∀{vs:List e8} {ks:List (List Int)} {i:Nat},dF h vs ks->i<ks.length->∃a o xs n,vs.getD i .none=.ref a/\h.get? a=some o/\o.data=.seq xs n/\Q8 xs.toList (ks.getD i [])
 | [],[],_,_,hi=>by simp at hi
 |v::_,k::_,0,⟨⟨a,o,xs,n,e,ho,hc,hd,hi⟩,t⟩,_=>⟨a,o,xs,n,by simpa using e,ho,hd,by simpa using hi⟩
 |_::vs,_::ks,i+1,⟨_,t⟩,hi=>by
  obtain⟨a,o,xs,n,h1,h2⟩:=dF.get (i:=i) t (by simpa using hi)
  exact⟨a,o,xs,n,by simpa using h1,by simpa using h2⟩
def qj(ks:List (List Int)):List Nat:=(Hf (λi j=>Ox (ks.getD i []) (ks.getD j [])) (Cm ks.length)).toList
theorem qi{ks:List (List Int)}(h:0<ks.length):(qj ks).Perm (A4 ks.length):=by
 have:=yr (λi j=>Ox (ks.getD i []) (ks.getD j [])) _ (EN h)
 have e:=Array.Perm.toList this;simpa [qj]using e
def xM(h:Heap)(L:Addr):List (Addr×Obj):=(A4 h.objs.size).filterMap λb=>if b=L then none else(h.get? b).map λo=>(b,o)
theorem iL{h:Heap}{L b:Addr}{o:Obj}:(b,o)∈xM h L↔h.get? b=some o/\b≠L:=by
 delta xM;rw[wm];constructor
 . rintro⟨c,_,e⟩;split at e
   . cases e
   . rename_i hc;cases hg:h.get? c with
     |none=>rw[hg]at e;cases e
     |some u=>rw[hg]at e;cases e;exact⟨hg,hc⟩
 . rintro⟨e,hb⟩;exact⟨b,mem_range.mpr (A7 e),by rw[e9 hb,e];rfl⟩
def IA(K:i9):List V->Hp->VK->Prop:=λxs H Q=>∃(p:Addr) (ys:List V) (ks:List (List Int)),xs=[.ref p]/\G6 K H p ys/\2<=ks.length/\ks.length<64/\(∀k∈ks,k≠[])/\ys.length=ks.length /\
 (∀i y,ys[i]? = some y->∃a,y=.ref a/\N4 K H a ((ks.getD i []).map V.int))/\∀l,H l=none->Q (.ref l) (upd H l (.lst ((qj ks).map λi=>ys.getD i .non)))
section
variable{X:Cx}{pins:List (Addr×Obj)}{σ:St}{H:Hp}{s:i5}
theorem zy(I:Inv X pins σ H s):∀{ys:List V} {its:List e8} {ks:List (List Int)},Vals ys its->ys.length=ks.length->(∀i y,ys[i]? = some y->∃a,y=.ref a/\N4 X.K H a ((ks.getD i []).map V.int))->dF s.heap its ks
 | [],_,[],.nil,_,_=>cj
 |y::ys,_,k::ks,.cons r t,hl,h=>by
  obtain⟨a,rfl,hq⟩:=h 0 y rfl;cases r;obtain⟨its,rv,⟨o,e,c,n,dd⟩,_⟩:=I.tuple hq;refine⟨⟨a,o,_,n,rfl,e,c,dd,by simpa using kh rv⟩,zy I t (by simpa using hl) λi y hy=>?_⟩
  obtain⟨b,h1,h2⟩:=h (i+1) y (by simpa using hy)
  exact⟨b,h1,by simpa using h2⟩
end
section
variable{a D:Addr}{m m':Str->Option e8}
section
variable{X:Cx}{pins:List (Addr×Obj)}{σ:St}{H:Hp}{s:i5}{h':Heap}
theorem Jw{h:Heap}(x:h.Ns a m)(y:h.Ns a m'):m=m':=by
 obtain⟨o,es,ep,ho,hd,_,r⟩:=x;obtain⟨o',es',ep',ho',hd',_,r'⟩:=y;rw[ho]at ho';cases ho';rw[hd]at hd';cases hd'
 funext n
 exact(r n).symm.trans (r' n)
theorem X6.get{P:A6}{w:t7}{H:Hp}{h:Heap}{a:Addr}{o:HO}(x:X6 P w H h a o):∃ob,h.get? a=some ob:=by
 induction o with
 |lst xs=>obtain⟨_,_,_,_,e⟩:=x;exact⟨_,e⟩
 |tup xs=>obtain⟨_,_,_,o,e,_⟩:=x;exact⟨_,e⟩
 |dK kvs=>obtain⟨_,_,_,_,o,_,_,e,_⟩:=x;exact⟨_,e⟩
 |dT kvs=>obtain⟨_,_,_,_,o,_,_,e,_⟩:=x;exact⟨_,e⟩
 |set S n=>obtain⟨o,_,_,_,e,_⟩:=x;exact⟨_,e⟩
 |ins C dx fs=>obtain⟨_,_,_,e,_⟩:=x;exact⟨_,e⟩
 |own y=>exact x
 |xd fs=>obtain⟨_,⟨o,_,_,e,_⟩,_⟩:=x;exact⟨_,e⟩
 |met f y=>exact⟨_,x⟩
 |rng lo hi=>obtain⟨_,_,_,e⟩:=x;exact⟨_,e⟩
 |bD o u ih=>exact⟨_,x.1⟩
 |tbl ps=>exact⟨_,x⟩
 |ext φ=>exact x.2.1
theorem Inv.news{t':Nat}{its:List e8}{c:Nat}{ys:List V}(I:Inv X pins σ H s)(hm:s.heap.Ns X.env.locals m)(hm':h'.Ns X.env.locals m)(k:∀b o,b≠X.env.locals->s.heap.get? b=some o->h'.get? b=some o)
  (hD:h'.get? D=some {cls:=.type "list",data:=.seq its.toArray c}) (hDn:s.heap.get? D=none) (r:Vals ys its) (hz:ys.length<=B9):H D=none/\Inv X pins σ (upd H D (.lst ys)) {s with heap:=h',toks:=t'}:=by
 have hH:H D=none:=by
  cases q:H D with
  |none=>rfl
  |some u =>
   obtain⟨o,e⟩:=X6.get (I.B6 D u q);rw[hDn]at e;cases e
 refine⟨hH,?_⟩;have ne:∀b o,s.heap.get? b=some o->b≠D:=λb o e z=>by rw[z,hDn]at e;cases e
 have nh:∀b u,H b=some u->b≠D:=λb u e z=>by rw[z,hH]at e;cases e
 have nl:∀b u,H b=some u->b≠X.env.locals:=λb u e z=>by rw[z,I.free]at e;cases e
 have hup:∀b u,H b=some u->upd H D (.lst ys) b=some u:=λb u e=>by rw[C3 (nh b u e)];exact e
 refine I.step (H':=upd H D (.lst ys)) (g':=s.gens) (d':=s.drawn) (ch:=[]) (λb hb=>absurd hb (by simp)) (λb o h1 _ _ e _=>k b o h1 e) (λb o h1 _ _ e _=>⟨o.slots,k b o h1 e⟩) (λb o _ e n=>by rw[C3 (ne b o e)];exact n)
  (λb o _ e=>?_) (λb xs e=>hup b _ e) (λb ob u e=>hup b _ e) (λb ps e=>⟨#[],by rw[hup b _ e];simp⟩) (λm' hm''=>?_) (λb u e=>?_) I.bare
 . by_cases hb:b=X.env.locals
   . obtain⟨o',_,_,ho,_⟩:=hm';exact⟨o',by rw[hb];exact ho⟩
   . exact⟨o,k b o hb e⟩
 . rw[<-Jw hm hm''];exact hm'
 . by_cases hb:b=D
   . subst hb;rw[M3]at e;cases e;exact⟨hz,its,c,r,hD⟩
   . rw[C3 hb]at e;refine(I.B6 b u e).pY (λc v hc q=>k c v ?_ q) (λc q=>hup c _ q) λc xs q=>hup c _ q
     rcases hc with z|z
     . rw[z];exact nl b u e
     . exact nl c _ z
theorem zt{ys:List V}{its:List e8}(r:Vals ys its):∀l:List Nat,(∀i∈l,i<ys.length)->Vals (l.map λi=>ys.getD i .non) (l.map λi=>its.getD i eJ)
 | [],_=>.nil
 |i::l,h=>by
  have hi:=h i A2;have e1:ys[i]? = some (ys.getD i .non):=by simp[P8,hi]
  obtain⟨u,e2,ru⟩:=r.get e1;have e3:its.getD i eJ=u:=by simp[P8,e2]
  rw[o6,o6,e3];exact .cons ru (zt r l λj hj=>h j (C4 _ hj))
theorem Bm:V0 X (.builtin "sorted") (IA X.K):=by
 intro pins s σ H xs us Q I r h;obtain⟨p,ys,ks,rfl,hq,h2,h64,hn,hl,ht,q⟩:=h;obtain⟨u,rfl,ru⟩:=vals1 r;cases ru;obtain⟨its,rv,pl,hz⟩:=I.list hq;obtain⟨m,hm,_⟩:=I.loc;have il:its.length=ks.length:=by rw[<-rv.length];exact hl
 have T:=zy I rv hl ht;have e0:∀b,({}:Heap).get? b=none:=λb=>LO (cT _)
 have F:Fr ({}:Heap) X.env.locals s.heap m:=⟨hm,λb o e=>(by rw[e0]at e;cases e),cT _⟩
 have N:News ({}:Heap) X.env.locals s.heap (xM s.heap X.env.locals):=λ⟨b,o⟩ hp=>by obtain⟨h1,h2⟩:=iL.mp hp;exact⟨h1,h2,e0 b⟩
 refine PySem.W.kat_sorted F N pl.isList (by lia) (by lia) λD e1 h1 F1 N1 hlt=>?_
 have k1:∀b o,b≠X.env.locals->s.heap.get? b=some o->h1.get? b=some o:=λb o hb e=>(N1 (b,o) (C4 _ (iL.mpr ⟨e,hb⟩))).1
 have hDL:D≠X.env.locals:=(N1 _ A2).2.1;have hDn:s.heap.get? D=none:=by
  cases e:s.heap.get? D with
  |none=>rfl
  |some o=>exact absurd (hlt _ (iL.mpr ⟨e,hDL⟩)) (aD _)
 have T1:dF h1 its ks:=T.keeps λb o e ⟨xs,n,hd⟩=>k1 b o (λz=>by obtain⟨o',es,ep,ho,hd',_⟩:=hm;rw[z,ho]at e;cases e;rw[hd]at hd';cases hd') e
 obtain⟨fs,f1,f2,f3⟩:=T1.Ki hn;refine PySem.W.kat_kind (T:=.type "int") f1 (by lia) (λv hv=>?_) (by decide) ?_
 . obtain⟨i,t,rfl⟩:=f3 v hv;exact PySem.W.Looks.of_pure rfl
 rw[show(nN "int" != nN "tuple")=true by decide]
 rw[il];refine XG (R:=Pm ks.length) (c:=λi j=>Ox (ks.getD i []) (ks.getD j [])) (λi j C hi hj hC=>?_) _ (EN (by lia)) ?_
 . obtain⟨a,o,xs,n,g1,g2,g3,g4⟩:=T1.get hi;obtain⟨a',o',xs',n',g1',g2',g3',g4'⟩:=T1.get hj;delta PySem.W.kas_ask;rw[g1,g1'];refine PySem.W.kat_lt g2 g3 g2' g3' (Az 0 g4 g4' ?_);have l1:xs.size=(ks.getD i []).length:=by rw[<-g4.length];simp
   have l2:xs'.size=(ks.getD j []).length:=by rw[<-g4'.length];simp
   rw[l1,l2];exact hC
 . have hp:=qi (ks:=ks) (by lia)
   refine PySem.W.KasFin.intro F1 N1 (.head λq hq z=>?_) λh2 c F2 N2=>?_
   . have:=hlt q hq;rw[z]at this;exact absurd this (aD _)
   . have ho:∀i∈qj ks,i<ys.length:=λi hi=>by have:=mem_range.mp (hp.mem_iff.mp hi);lia
     obtain⟨g1,g2⟩:=Inv.news (t':=s.toks) (ys:=(qj ks).map λi=>ys.getD i .non) I hm F2.ns (λb o hb e=>(N2 (b,o) (C4 _ (iL.mpr ⟨e,hb⟩))).1) (N2 _ A2).1 hDn (zt rv _ ho) (by rw[N9,hp.length_eq,nX,gN];lia)
     exact⟨.ref D,_,g2,rfl,q D g1⟩
end
end
section
variable{us:List e8}
section
variable{prog:A6}{w:t7}{A:A5}{E:e8->i5->Prop}{s:i5}
theorem ML{x:Addr}{k:Nat}{P:PySem.Fin->i5->Prop}(hx:s.heap.get? x=some (bo "list" us.toArray k))(hu:us.length<2)(hP:P (.done (.ret .none)) {s with heap:=sortedHeap s.heap x us us.toArray}):
  wpAny (model prog w) A (Builtin.«list.sort» ⟨[.ref x],[]⟩) P E s:=by
 have lx:x<s.heap.objs.size:=A7 hx;obtain⟨e1,h1⟩:∃e1,(s.heap.update x (cS λ_=>(#[]:Array e8))).get? x=some (bo "list" #[] e1):=⟨_,get?_update_seq hx λ_=>#[]⟩
 have QJ:us.toArray.size<2:=by rw[P6];exact hu
 have line:us.toArray.size<=B9:=by rw[gN];lia
 have h2:(((s.heap.update x (cS λ_=>(#[]:Array e8))).push (bo "tuple" us.toArray 0)).push (bo "list" #[] 0)).get? x=some (bo "list" #[] e1) :=
  E7 _ (E7 _ h1)
 rw[list_sort_plain];refine wpAny_bind (listItems_at hx rfl (wpAny_bind (listUpdate_at hx rfl (hsz:=line) (hsz2:=cT _) (wpAny_bind (seqEpoch_at h1 rfl (wpAny_bind (wpAny_newTuple (hsz:=by simpa using line) (wpAny_bind (wpAny_newList (jz ?_) (cT _))))))))))
 show wpAny (model prog w) A _ P E {s with heap:=((s.heap.update x (cS λ_=>(#[]:Array e8))).push (bo "tuple" us.toArray 0)).push (bo "list" #[] 0)}
 dsimp only;rw[c7 QJ,c7 QJ];refine wpAny_bind (o5 ?_);rw[StateT.run_pure];refine wpAny_bind (o5 (wpAny_bind (seqEpoch_at h2 rfl (wpAny_bind (listUpdate_at h2 rfl ?_ (hsz:=cT _) (hsz2:=?_))))))
 . simp only[bne_self_eq_false,aG,M6];have e:(arrOf (SortSt.mk' general' (us.toArray.zip us.toArray) #[] 7 none)).map (·.2)=us.toArray:=by
    show(us.toArray.zip us.toArray).map (·.2)=us.toArray
    simp;exact List.map_snd_zip (o3 _)
   rw[e];exact o5 hP
 . show((us.toArray.zip us.toArray).map (·.2)).size<=_
   simp;lia
theorem FW{x:Addr}{Q:e8->i5->Prop}(hx:s.heap.IsList x us.toArray)(hu:us.length<2)(h:Q (.ref (s.heap.objs.size+1)) {s with heap:=sortedAll s.heap us us.toArray}):
  wpAny (model prog w) A (call (.builtin "sorted") [.ref x]) Q E s:=by
 have line:us.length<=B9:=by rw[gN];lia
 have sz:((s.heap.push (bo "list" #[] 0)).update s.heap.objs.size (cS (·++us.toArray))).objs.size=s.heap.objs.size+1:=(Heap.size_update ..).trans (size_push' ..);have at1:(((s.heap.push (bo "list" #[] 0)).update s.heap.objs.size (cS (·++us.toArray))).push (bo "list" us.toArray 0)).get? (s.heap.objs.size+1)=some (bo "list" us.toArray 0):=sz▸U8 _ rfl;refine Calls.call_function_entry kind_sorted plain_sorted entry_sorted (args_sorted1 _) (show wpAny _ _ (Builtin.«sorted» _) _ _ _ from ?_)
 delta Builtin.«sorted»;refine wpAny_bind (m:=checkCount "sorted" 1 1 _) (o5 (wpAny_bind (collect_list (hsz:=line) hx (wpAny_bind (wpAny_newList ?_ line)))));show wpAny _ _ _ _ _ {s with heap:=((s.heap.push (bo "list" #[] 0)).update s.heap.objs.size (cS (·++us.toArray))).push (bo "list" us.toArray 0)}
 rw[sz];exact wpAny_bind (jz (jH slot_list_sort ⟨_,at1,rfl⟩ entry_list_sort (ML at1 hu ⟨_,rfl,o5 ⟨_,rfl,h⟩⟩) (args_list_sort _)))
end
def zO(K:i9):List V->Hp->VK->Prop:=λxs H Q=>(∃(p:Addr) (ys:List V),xs=[.ref p]/\G6 K H p ys/\ys.length<2/\∀l,H l=none->Q (.ref l) (upd H l (.lst ys)))\/IA K xs H Q
theorem Bn{X:Cx}:V0 X (.builtin "sorted") (zO X.K):=by
 intro pins s σ H xs us Q I r h;rcases h with ⟨p,ys,rfl,hq,h2,q⟩|h
 . obtain⟨u,rfl,ru⟩:=vals1 r;cases ru;obtain⟨its,rv,pl,hz⟩:=I.list hq;refine FW pl.isList (by rw[<-rv.length];exact h2) ?_
   obtain⟨e,he⟩:=sortedAll_at s.heap its its.toArray;refine⟨.ref (s.heap.objs.size+1),upd H (s.heap.objs.size+1) (.lst ys),I.laid (t':=s.toks) (λb o hb=>sortedAll_old hb) (vF _) ⟨hz,its,e,rv,he⟩,rfl,q _ (I.B6.fresh (vF _))⟩
 . exact Bm pins s σ H xs us Q I r h
def keysOf:List c6->Option (List (List Int))
 | []=>some []
 | .tuple l::r=>(intsOf l).bind λk=>(keysOf r).bind λks=>some (k::ks)
 |_=>none
def rH:List c6->Option PV
 | [.list l]=>if l.length<2 then some (.own l)else(keysOf l).bind λks=>if l.length<64/\(∀k∈ks,k≠[])then some (.own ((qj ks).map λi=>l.getD i .none))else none
 |_=>none
theorem Ay:∀{l:List c6} {ks:List (List Int)},keysOf l=some ks->ks.length=l.length
 | [],_,e=>by cases e;rfl
 |d::r,ks,e=>by
  cases d with
  |tuple l =>
   rw[keysOf]at e;cases h1:intsOf l with
   |none=>rw[h1]at e;cases e
   |some k =>
    cases h2:keysOf r with
    |none=>rw[h1,h2]at e;cases e
    |some ks' =>
     rw[h1,h2]at e;cases e;rw[O0,O0,Ay h2]
  |_=>cases e
theorem q4.keys{K:i9}{H:Hp}:∀{l:List c6} {ys:List V} {ks:List (List Int)},q4 K H ys l->keysOf l=some ks->∀i y,ys[i]? = some y->∃a,y=.ref a/\N4 K H a ((ks.getD i []).map V.int)
 | [],_,_,.nil,e=>by intro i y hy;simp at hy
 |d::r,_,ks,.cons (x:=x) hx ht,e=>by
  intro i y hy;cases hx with
  |tup hs hd =>
   rename_i a xs l;rw[keysOf]at e;cases h1:intsOf l with
   |none=>rw[h1]at e;cases e
   |some k =>
    cases h2:keysOf r with
    |none=>rw[h1,h2]at e;cases e
    |some ks' =>
     rw[h1,h2]at e;cases e;cases i with
     |zero =>
      simp at hy;subst hy;have:=hd.ints h1;subst this;exact⟨a,rfl,by simpa using hs⟩
     |succ i =>
      obtain⟨b,h3,h4⟩:=q4.keys ht h2 i y (by simpa using hy)
      exact⟨b,h3,by simpa using h4⟩
  |_=>cases e
theorem q4.ord{K:i9}{H:Hp}{l:List c6}{ys:List V}(h:q4 K H ys l):∀o:List Nat,(∀i∈o,i<l.length)->q4 K H (o.map λi=>ys.getD i .non) (o.map λi=>l.getD i .none)
 | [],_=>.nil
 |i::o,ho=>by
  have hi:=ho i A2;have hl:=h.length;have e1:ys[i]? = some (ys.getD i .non):=by simp[P8,show i<ys.length by lia]
  obtain⟨d,e2,e3⟩:=h.get' e1;have e4:l.getD i .none=d:=by simp[P8,e2]
  rw[o6,o6,e4];exact .cons e3 (q4.ord h o λj hj=>ho j (C4 _ hj))
theorem HR{K:i9}:mJ K (zO K) rH:=by
 intro O va H xs ds pv Q D hd hf q;delta rH at hf;split at hf
 . rename_i l;obtain⟨x,rfl,hx⟩:=hd.inv1;cases hx with
   |lst hs ht =>
    rename_i a ys;have hl:=ht.length;split at hf
    . rename_i h2;cases hf;exact .inl ⟨a,ys,rfl,o9.seq hs,by lia,λp hp=>q _ _ (i8.new hp) (gu hp ht)⟩
    . cases h1:keysOf l with
      |none=>rw[h1]at hf;cases hf
      |some ks =>
       rw[h1]at hf;simp only[j4]at hf;split at hf
       . rename_i h2 h3;cases hf;have kl:=Ay h1;have hp:=qi (ks:=ks) (by lia)
         refine .inr ⟨a,ys,ks,rfl,o9.seq hs,by lia,by lia,h3.2,by lia,λi y hy=>?_,λp hp'=>q _ _ (i8.new hp') (gu hp' (ht.ord _ λi hi=>?_))⟩
         . obtain⟨b,h4,h5⟩:=ht.keys h1 i y hy;exact⟨b,h4,o9.cy h5⟩
         . have:=mem_range.mp (hp.mem_iff.mp hi);lia
       . cases hf
 . cases hf
end
section
variable{kd:Bool}{prog P:A6}{w:t7}{es:List Expr}{k:Nat}{tp:Pos}
theorem DA(kd:Bool)(l:Addr)(xs:Array e8):
  Meets (Builtin.«enumerate.__new__» ⟨[.type "enumerate",.ref l],[]⟩) (λ_ R s=>fG kd s.heap l xs /\
   R (.ok (.ret (.ref (s.heap.push (nA kd l)).objs.size))) {s with heap:=(s.heap.push (nA kd l)).push {cls:=.type "enumerate",data:=.fields #[.none,.bool false,.ref s.heap.objs.size,jo 0,.none,.none]}}) :=
 .of_wp λprog w A R s h=>by
  obtain⟨hp,g,d,tk,os⟩:=s;obtain⟨x1,h⟩:=h;have hsub:=sub_enumerate;have y1:fG kd (BJ ⟨hp,g,d,tk,os⟩) l xs:=x1
  wp_walk using rT y1
  refine wpAny_stack_any λst=>o5 ?_
  split
  . rename_i c _ _ _ _ _;cases(c==nN "enumerate")
    . wp_walk using rT y1
      exact⟨_,rfl,h⟩
    . wp_walk using rT y1
      exact⟨_,rfl,h⟩
  . wp_walk using rT y1
    exact⟨_,rfl,h⟩
section
variable{prog:A6}{w:t7}{A:A5}{E:e8->i5->Prop}{s:i5}
theorem HH{l:Addr}{xs:Array e8}{Q:e8->i5->Prop}(x1:fG kd s.heap l xs)
  (h:∀h',IsEnum h' (s.heap.objs.size+1) s.heap.objs.size 0 .none->ie kd h' s.heap.objs.size l 0->(∀b o,s.heap.get? b=some o->h'.get? b=some o)->Q (.ref (s.heap.objs.size+1)) {s with heap:=h'}) :
  wpAny (model prog w) A (call (.type "enumerate") [.ref l]) Q E s:=by
 refine callType_new F.called_enumerate (by decide) (F.typeCall_enumerate_1 _) (F.newCall_enumerate_1 _) (λobj=>F.args_object_init_2 obj _) F.entry_enumerate_new (DA kd l xs) ⟨x1,?_⟩
 have hz:(s.heap.push (nA kd l)).objs.size=s.heap.objs.size+1:=jB ..;have f1:(nA kd l).isFreed=false:=by cases kd<;>rfl
 show _/\_
 rw[hz];have he:IsEnum ((s.heap.push (nA kd l)).push {cls:=.type "enumerate",data:=.fields #[.none,.bool false,.ref s.heap.objs.size,jo 0,.none,.none]}) (s.heap.objs.size+1) s.heap.objs.size 0 .none:=by have:=U8 (s.heap.push (nA kd l)) (o:={cls:=.type "enumerate",data:=.fields #[.none,.bool false,.ref s.heap.objs.size,jo 0,.none,.none]}) rfl;rw[hz]at this;exact this
 exact⟨⟨_,he,rfl⟩,h _ he (.new (E7 _ (U8 _ f1))) λb o x=>E7 _ (E7 _ x)⟩
end
theorem Wr{A:A5}(hh:A.handled=none)(it l:Addr)(hne:l≠it)(xs:Array e8):
  Draws prog w A it [it,l] xs.size (λi v=>xs[i]? = some v) (λi h=>ke kd h it l i xs) where
 live:=λi h st=>by
  cases kd
  . exact(Draws.list (prog:=prog) (w:=w) hh it l hne xs).live i h st
  . obtain⟨o,ho,_⟩:=(show h.IsTupleIter it l i/\h.IsTuple l xs from st).1
    exact⟨o,ho⟩
 frame:=λi h h' st hk=>st.kept λb o hb e=>hk b (by rcases hb with rfl|rfl<;>simp) o e
 item:=λi s Q E hi st hQ=>by
  refine km st hne (x:=xs[i]) (by simp[hi]) λh' it' sb=>?_
  refine hQ _ h' s.toks (by simp[hi]) ?_ sb
  have k2:∀o,s.heap.get? l=some o->h'.get? l=some o:=λo e=>sb.extBut l o hne e
  cases kd
  . obtain⟨_,o,eo,r⟩:=(show s.heap.IsListIter it l i/\s.heap.IsList l xs from st)
    exact⟨it',o,k2 o eo,r⟩
  . obtain⟨_,o,eo,r⟩:=(show s.heap.IsTupleIter it l i/\s.heap.IsTuple l xs from st)
    exact⟨it',o,k2 o eo,r⟩
 done:=λs Q E st hE=>mz hh st (by simp) hE
def XW(kd:Bool)(K:i9)(a:Addr):It :=
 ⟨λi H=>∃xs x,bY kd K H a xs/\xs[i]? = some x,
  λi H v H'=>∃p,v=.ref p/\H p=none/\∃x,H'=upd H p (.tup [.int i,x])/\∀xs,bY kd K H a xs->xs[i]? = some x,
  λi H=>∃xs,bY kd K H a xs/\xs.length<=i⟩
theorem Ia{K:i9}{pos:Pos}{e it a:Addr}(hei:e≠it):
  Turn P w K (.Tuple es k pos) (XW kd K a) [e,it] e (λi h=>(∃old,IsEnum h e it i old)/\ie kd h it a i) where
 mem:=by simp
 obj:=λi h st c hc=>by
  have hc':c=e\/c=it:=by simpa using hc
  rcases hc' with rfl|rfl
  . obtain⟨old,q⟩:=st.1;exact⟨_,q,λv z=>by cases z⟩
  . exact st.2.obj
 keep:=λi h h' st kk=>by obtain⟨old,q⟩:=st.1;exact⟨⟨old,kk e (by simp) _ q⟩,st.2.at λo z=>kk it (by simp) o z⟩
 item:=by
  intro X hP hw hK hc i pins s σ H E I hf st hg;subst hP hw hK;obtain⟨xs,x,sx,ex⟩:=hg;obtain⟨us,rx,ox⟩:=I.Ea sx st.2;obtain⟨u,hu,ru⟩:=rx.get ex;obtain⟨old,he⟩:=st.1;have fe:=hf e (by simp)
  have fi:=hf it (by simp)
  have ai:a≠it:=sx.x.ne I fi;have ae:a≠e:=sx.x.ne I fe;have hlt:i<us.toArray.size:=by
   have:i<us.length:=by
    by_cases c:i<us.length
    . exact c
    . rw[rk (by lia)]at hu;cases hu
   simpa using this
  have hhd:X.A.in1.handled=none:=I.ok.hd hc;have D:Draws X.prog X.w X.A.in1 it [it,a] us.toArray.size (λi v=>us.toArray[i]? = some v) (λi h=>ke kd h it a i us.toArray):=Wr hhd it a ai us.toArray
  refine wpAny_pyNext_enum_itemD D he ox hlt hei (by simp;exact⟨hei,ae.symm⟩) λx' h' tk hP ho hs' hT' hsz hk=>?_
  have ux:x'=u:=by
   have:us.toArray[i]? = some u:=by simpa using hu
   rw[this]at hP;cases hP;rfl
  subst ux;have hT:H s.heap.objs.size=none:=I.B6.fresh (o3 _);have I1:Inv X pins σ H {s with heap:=h',toks:=tk+1}:=I.rD (t':=tk+1) (ch:=[e,it]) (λc o hc z=>hk c o (λq=>hc (by simp[q])) (λq=>hc (by simp[q])) z) (λc hc=>hf c (by simpa using hc))
  have hTloc:s.heap.objs.size≠X.env.locals:=nT I.lt;have I2:Inv X pins σ (upd H s.heap.objs.size (.tup [.int i,x])) {s with heap:=h',toks:=tk+1}:=I1.FV hT hTloc (.inr I.sz)
   (λn c z q=>by obtain⟨vv,q2⟩:=I.cell n c z;exact absurd q2.lt (by rw[q];exact aD _))
   (λp hp q=>absurd (A7 (I.pin p hp).1) (by rw[q];exact aD _))
   ⟨by show 2<=B9;rw[gN];decide,[.int i tk,x'],.cons ⟨_,rfl⟩ (.cons ru .nil),⟨_,hT',rfl,_,rfl⟩⟩
  refine⟨_,rfl,wpAny_letOwnedTupleGo_enum ho λh2 z2 b2=>?_⟩
  have el:e<s.heap.objs.size:=A7 he;have uz:∀c,c∈[e,it]->(upd H s.heap.objs.size (.tup [.int i,x])) c=none:=λc hc=>by
   have hlt:c<s.heap.objs.size:=by
    have hc':c=e\/c=it:=by simpa using hc
    rcases hc' with rfl|rfl
    . exact el
    . obtain⟨o,z,_⟩:=st.2.obj;exact A7 z
   rw[C3 (U7 hlt)];exact(hf c hc).1
  have I3:Inv X pins σ (upd H s.heap.objs.size (.tup [.int i,x])) {s with heap:=h2,toks:=tk+1}:=Inv.turned (s:={s with heap:=h',toks:=tk+1}) I2 (t':=tk+1) (it:=e) (λc o hc z=>b2.extBut c o hc z) (uz e (by simp)) fe.2.1 fe.2.2.2.1 fe.2.2.2.2.1 fe.2.2.2.2.2
  refine⟨.ref s.heap.objs.size,_,I3,rfl,⟨_,rfl,hT,x,rfl,λxs' hx'=>?_⟩,⟨⟨_,z2⟩,?_⟩,uz⟩
  . rw[hx'.inj I sx];exact ex
  . have it':ie kd h' it a (i+1):=by
      cases kd
      . exact(show h'.IsListIter it a (i+1)/\_ from hs').1
      . exact(show h'.IsTupleIter it a (i+1)/\_ from hs').1
    exact it'.at λo q=>b2.extBut _ _ hei.symm q
 done:=by
  intro X hP hw hK hc i pins s σ H E I hf st hg;subst hP hw hK;obtain⟨xs,sx,hend⟩:=hg;obtain⟨us,rx,ox⟩:=I.Ea sx st.2;obtain⟨old,he⟩:=st.1;have fi:=hf it (by simp)
  have fe:=hf e (by simp)
  have ai:a≠it:=sx.x.ne I fi;have hhd:X.A.in1.handled=none:=I.ok.hd hc;have lx:=rx.length;have hT:s.TypeIs (.ref e) "enumerate":=⟨_,he,rfl⟩;delta jq;refine wpAny_bind (vM (pB (name:=cW "__next__") hT LP (jH LP hT F.entry_enumerate_next ?_ (F.args_enumerate_next_1 _))));show wpAny _ _ (field (.ref e) 2 >>= _) _ _ _
  refine wpAny_bind (aY he rfl (x:=.ref it) rfl ?_);refine wpAny_bind (mz hhd ox (by simp;lia) λh' x he' hx'=>?_)
  obtain⟨o,ho,hc'⟩:=hx';refine wpAny_bind (wpAny_isInstance (T:="StopIteration") (b:=true) ⟨o,ho,hc'⟩ isSubtype_stop ?_);refine o5 ⟨rfl,?_⟩;exact I.rD (t':=s.toks) (ch:=[it]) (λc o hc z=>he' c o (λq=>hc (by simp[q])) z) (λc hc=>hf c (by
   have:c=it:=by simpa using hc
   simp[this]))
 self:=λ_ _ _ _ _ st h=>by obtain⟨old,q⟩:=st.1;exact wpAny_pyIter_enum q h
section
variable{X:Cx}{fr:Bool}{a:Expr}{ta:TA}{Fl:Ds->Option (List c6)}{p pos:Pos}
def JW(K:i9)(ta:TA):TI:=λσ H R=>ta σ H λvs H1=>∃a kd,vs=[.ref a]/\(∃xs,bY kd K H1 a xs)/\R (XW kd K a) H1
theorem boot_enumerate:cX "enumerate" = some (.type "enumerate"):=by decide +kernel
theorem NM(hg:Gl X "enumerate")(hm:X.mg "enumerate" = none)(ha:PA X [a] ta)(hs:j6 [a] X.env=[(false,eval a X.env)]:=by rfl):
  PI X (.Tuple es k tp) (.Call (.Name "enumerate" p) [a] [] pos) (JW X.K ta):=by
 intro pins s σ H R I h;refine Call_ (ny I hg hm boot_enumerate (wM (C5 (ha pos pins s σ H _ I h) λus s1 ⟨vs,H1,I1,r1,q1⟩=>?_) (by rw[hs];rfl) (by rfl)))
 obtain⟨x,kd,e,⟨xs,hx⟩,q⟩:=q1;subst e;obtain⟨u,e,r2⟩:=vals1 r1;subst e;cases r2;obtain⟨us,sx⟩:=I1.Z6 hx;refine HH sx λh' Z1 Z2 kk=>?_
 refine wpAny_pyIter_enum Z1 ?_;have I2:Inv X pins σ H1 {s1 with heap:=h'}:=I1.kept (t':=s1.toks) kk
 refine⟨s1.heap.objs.size+1,_,_,_,H1,rfl,I2,Ia (e:=s1.heap.objs.size+1) (it:=s1.heap.objs.size) (by show @Ne Nat _ _;lia),⟨⟨_,Z1⟩,Z2⟩,λb hb=>?_,q⟩
 have hb':b=s1.heap.objs.size+1\/b=s1.heap.objs.size:=by simpa using hb
 have hge:s1.heap.objs.size<=b:=by
  rcases hb' with e|e<;>rw[e]
  . exact qV _ _
  . exact o3 _
 exact I1.xx hge (I1.B6.fresh hge)
theorem AU:∀(l:List c6) (k:Int) (i:Nat),(af k l)[i]? = (l[i]?).map λd=>.tuple [.int (k+(i:Nat)),d]
 | [],k,i=>by simp[af]
 |d::r,k,0=>by simp[af]
 |d::r,k,i+1=>by have:=AU r (k+1) i;simp only[af,P7];rw[this,show k+1+(i:Int)=k+((i+1:Nat):Int) by lia]
theorem AS:∀(l:List c6) (k:Int),(af k l).length=l.length
 | [],k=>rfl
 |d::r,k=>by rw[af,O0,AS r,O0]
theorem NI(hg:Gl X "enumerate")(hm:X.mg "enumerate" = none)(ha:ek X fr [a] ta Fl)(hs:j6 [a] X.env=[(false,eval a X.env)]:=by rfl):
  jZ X fr (.Tuple es k tp) (.Call (.Name "enumerate" p) [a] [] pos) (JW X.K ta) (D7 kq Fl):=⟨NM hg hm ha.p hs,by
 intro O h8 as σ H ds items R S hf q;delta D7 at hf;cases h1:Fl ds with
 |none=>rw[h1]at hf;cases hf
 |some l =>
  rw[h1]at hf;simp only[j4]at hf;refine ha.t O h8 as σ H ds l _ S h1 λvs H1 e1 r1=>?_
  delta kq at hf;split at hf
  . rename_i d1;cases hl:aT d1 with
    |none=>rw[hl]at hf;cases hf
    |some l1 =>
     rw[hl]at hf;cases hf;cases r1 with
     |cons r rr =>
      cases rr;obtain⟨a,kd,xs,rfl,s1,t1⟩:=r.Z6 hl;refine⟨a,kd,rfl,⟨xs,o9.Z6 s1⟩,q _ H1 e1 λH' e' i=>?_⟩
      have s1':bY kd X.K H' a xs:=e'.Z6 (uX.Z6 s1);have g1:=t1.length;rw[AS];refine⟨λhi=>⟨xs,xs[i]'(by lia),s1',J3 _⟩,λhi=>⟨xs,s1',by lia⟩,λx H'' y hi=>?_⟩
      obtain⟨pp,z1,z2,x',z3,z4⟩:=y;have z5:=z4 xs s1';subst z1;subst z3;obtain⟨dx,ex,hx⟩:=t1.get' z5;refine⟨i8.new z2,.tuple [.int (i:Int),dx],by rw[AU,ex];simp,λvb hv hO=>?_⟩
      refine .tup (N4.of (F4.mpr ⟨λz=>?_,λz=>?_,M3⟩)) (.cons (.int _) (.cons (qu hx e' (i8.new z2) hv) .nil))
      . obtain⟨o,z⟩:=hO _ z;rw[e' _ _ z]at z2;cases z2
      . obtain⟨_,o,z⟩:=hv _ z;rw[z]at z2;cases z2
  . cases hf⟩
end
end
section
variable{K:i9}{H h8 H':Hp}{nm m:Str}
theorem l9{α β:Type}{o:Option α}{f:α->Option β}{b:β}(h:o.bind f=some b):∃a,o=some a/\f a=some b:=by
 cases o with
 |none=>cases h
 |some a=>exact⟨a,rfl,h⟩
def E8(f:Str):List c6->List c6->Option c6
 | .str n::ns,d::l=>if n=f then some d else E8 f ns l
 |_,_=>none
def rV(nm:Str):c6->Option (List c6×List c6)
 | .dict [(.tuple [.str n,.list ns],.tuple l)]=>if n=nm then some (ns,l)else none
 |_=>none
theorem JV(nm:Str)(ns:List Str)(l:List c6):rV nm (qw nm ns l)=some (ns.map .str,l):=by
 show(if nm=nm then some (ns.map PyData.str,l)else none)=_
 rw[c7 rfl]
theorem yx{v:V}{d:c6}{ns l:List c6}(h:Dt K H v d)(e:rV nm d=some (ns,l)):
  ∃a C dx fv ms vs,v=.ref a/\cV K S9 nm=some (some (.ref C))/\H a=some (.ins C dx fv)/\fv=List.zip ms vs/\ns=ms.map .str/\q4 K H vs l:=by
 cases h with
 |ins h1 h2 h3 t =>
  rename_i a C dx fv nm' ms vs l';have e':(if nm'=nm then some (ms.map PyData.str,l')else none)=some (ns,l):=e
  split at e'
  . rename_i hn;cases e';subst hn;exact⟨a,C,dx,fv,ms,vs,rfl,h1,h2,h3,rfl,t⟩
  . cases e'
 |_=>cases e
theorem qm{K:i9}{H:Hp}{f:Str}:∀{ms:List Str} {vs:List V} {l:List c6},q4 K H vs l->(E8 f (ms.map .str) l=none/\(List.zip ms vs).lookup f=none)\/∃d u,E8 f (ms.map .str) l=some d/\(List.zip ms vs).lookup f=some u/\Dt K H u d
 | [],vs,l,h=>.inl ⟨rfl,rfl⟩
 |m::ms,[],[],.nil=>.inl ⟨rfl,rfl⟩
 |m::ms,v::vs,d::l,.cons h t=>by
  rw[o6,E8,mM,lS];by_cases c:m=f
  . subst c;rw[c7 rfl];exact .inr ⟨d,v,rfl,by simp,h⟩
  . have c':(f==m)=false:=by simpa using λz=>c z.symm
    rw[e9 c,c'];exact qm t
structure bz(K:i9)(nm:Str)(C:Addr):Prop where
 ns:cV K S9 nm=some (some (.ref C))
 cl:rB K C
theorem bz.eq{C C':Addr}(T:bz K nm C)(h:cV K S9 nm=some (some (.ref C'))):C'=C:=by rw[T.ns]at h;cases h;rfl
def Q4(nm f:Str)(d:c6):Option c6:=(rV nm d).bind λp=>E8 f p.1 p.2
noncomputable def A1(nm f:Str)(F:Ds->Option PV):Ds->Option PV:=λds=>(F ds).bind λpv=>(Q4 nm f pv.d).bind λd=>some (.dat d)
section
variable{X:Cx}{fr:Bool}{o e:Expr}{es:List Expr}{to te:TE}{t:TA}{F Fo:Ds->Option PV}{Fl:Ds->Option (List c6)}{nm f:Str}{C:Addr}{pos apos:Pos}
theorem RO(T:bz X.K nm C)(n:V6 X.K C f)(h:PX X fr o to F)(hb:aZ o f X.env (eval o X.env)=eval o X.env:=by rfl):PX X fr (.Attribute o f pos) (ou X.K to f) (A1 nm f F):=⟨qf h.p hb,by
 intro O h8 as σ H ds pv Q S hf q;obtain⟨p,h1,hf⟩:=l9 hf;obtain⟨d,h2,hf⟩:=l9 hf;cases hf;obtain⟨⟨ns,l⟩,h3,h4⟩:=l9 h2;refine h.t O h8 as σ H ds p _ S h1 λv H1 s1 r1=>?_
 obtain⟨a,C',dx,fv,ms,vs,rfl,c1,c2,rfl,rfl,c3⟩:=yx (r1.dt S.dm) h3;have ec:=T.eq c1;subst ec;rcases qm (f:=f) (ms:=ms) c3 with ⟨z1,z2⟩|⟨d',u,z1,z2,z3⟩
 . have h4':E8 f (ms.map .str) l=some d:=h4;rw[z1]at h4';cases h4'
 . have h4':E8 f (ms.map .str) l=some d:=h4;rw[z1]at h4';cases h4';exact⟨a,C',dx,_,u,rfl,o9 _ _ c2,T.cl,n,z2,q u H1 s1 z3⟩⟩
noncomputable def K4(nm m:Str)(f:List c6->Option PV)(Fo:Ds->Option PV)(Fl:Ds->Option (List c6)):Ds->Option PV:=λds=>(Fo ds).bind λpv=>(rV nm pv.d).bind λp=>match E8 m p.1 p.2 with
 |none=>(Fl ds).bind λl=>f (pv.d::l)
 |some _=>none
theorem DW{E:XK}{f:List c6->Option PV}(T:bz X.K nm C)(ho:PX X fr o to Fo)(h:ek X fr es t Fl):TX X.K fr (ki C m (A8 X.K f) [] E to t) (K4 nm m f Fo Fl):=by
 intro O h8 as σ H ds pv Q S hf q;obtain⟨p,h1,hf⟩:=l9 hf;obtain⟨⟨ns,l0⟩,h3,hf⟩:=l9 hf;refine ho.t O h8 as σ H ds p _ S h1 λv H1 s1 r1=>?_
 have dv:=r1.dt S.dm;obtain⟨a,C',dx,fv,ms,vs0,rfl,c1,c2,rfl,rfl,c3⟩:=yx dv h3;have ec:=T.eq c1;subst ec;rcases qm (f:=m) (ms:=ms) c3 with ⟨z1,z2⟩|⟨d',u,z1,z2,z3⟩
 . have hf':(match E8 m (ms.map .str) l0 with
     |none=>(Fl ds).bind λl=>f (p.d::l)
     |some _=>none)=some pv:=hf
   rw[z1]at hf';obtain⟨l,h4,hf⟩:=l9 hf';refine⟨a,dx,_,rfl,o9 _ _ c2,z2,?_⟩;refine h.t O h8 as σ H1 ds l _ (S.grow s1) h4 λvs H2 s2 r2=>?_
   have D:=((S.grow s1).grow s2).dm (fr:=fr);rw[dJ];have hh:∀H,n6 H (Y7 fr as) O=n6 H [] (O++(Y7 fr as).filterMap id):=λH=>nD (bs:=[])
   refine⟨O++(Y7 fr as).filterMap id,p.d::l,pv,λb hb=>?_,by rw[<-hh];exact .cons (dv.same (T7 s2)) r2,hf,λv H3 e3 r3=>q v H3 ((s1.trans s2).trans e3) ?_⟩
   . rcases List.mem_append.mp hb with hb|hb
     . exact D.o b hb
     . obtain⟨x,hx,e⟩:=List.mem_filterMap.mp hb;have e':x=some b:=e;subst e';exact D.a b hx
   . have s12:=s1.trans s2;cases pv with
     |dat d =>
      have r2':Dt X.K (n6 H3 [] (O++(Y7 fr as).filterMap id)) v d:=r3;rw[<-hh]at r2';exact r2'
     |own l =>
      obtain⟨b,xs,e3,e4,e5,r3⟩:=r3;refine⟨b,xs,e3,s12.free e4,e5,?_⟩;rw[show(some b::Y7 fr as:As)=[some b]++Y7 fr as from rfl,nD]
      exact r3
     |ob w c =>
      obtain⟨o,R,e3,e4,e5,r3⟩:=r3;refine⟨o,R,e3,e4,λb hb=>s12.free (e5 b hb),?_⟩
      rw[nD];rw[dJ]at r3;exact r3
 . have hf':(match E8 m (ms.map .str) l0 with
     |none=>(Fl ds).bind λl=>f (p.d::l)
     |some _=>none)=some pv:=hf
   rw[z1]at hf';cases hf'
noncomputable def T9(F:Ds->Option PV):Ds->Option PV:=λds=>(F ds).bind λpv=>match pv with
 | .dat d=>if LF d=true then some (.dat d)else none
 | .own l=>if pO l=true then some (.own l)else none
 | .ob _ _=>none
theorem DS.TU{O:List Addr}{as bs cs:As}{σ:St}{ds:Ds}(S:DS K O h8 as σ H ds)(e:i8 H H')(hb:∀b,some b∈cs->some b∈bs\/some b∈as)(a:Addr)(u:HO)(h:n6 H' bs O a=some u)(hu:¬Cell u):n6 H' cs O a=some u:=by
 obtain⟨z1,z2,z3⟩:=F4.mp h;refine F4.mpr ⟨z1,λz=>?_,z3⟩
 rcases hb a z with z|z
 . exact z2 z
 . obtain⟨_,c,zc⟩:=S.new a z;have:=e _ _ zc;rw[z3]at this;cases this;exact hu c.2
theorem UR(h:PX X false e te F):PX X fr e te (T9 F):=⟨h.p,by
 intro O h8 as σ H ds pv Q S hf q;obtain⟨p,h1,hf⟩:=l9 hf;cases p with
 |dat d =>
  simp only at hf;split at hf
  . rename_i hi;cases hf;refine h.t O h8 as σ H ds _ _ S h1 λv H1 s1 r1=>q v H1 s1 ?_
    exact Dt.lf (H:=n6 H1 [] O) (S.TU s1 λb z=>.inr (rC z)) r1 hi
  . cases hf
 |own l =>
  simp only at hf;split at hf
  . rename_i hi;cases hf;refine h.t O h8 as σ H ds _ _ S h1 λv H1 s1 r1=>q v H1 s1 ?_
    obtain⟨a,xs,e1,e2,e3,r⟩:=r1;refine⟨a,xs,e1,e2,e3,q4.lf (H:=n6 H1 (some a::[]) O) (S.TU s1 λb z=>?_) r hi⟩
    rcases List.mem_cons.mp z with z|z
    . exact .inl (by rw[z];exact A2)
    . exact .inr (rC z)
  . cases hf
 |ob w c=>cases hf⟩
end
end
section
variable{ds:Ds}{w:Option Addr}{p p':PF}{R O:List Addr}{K:i9}{Hv H H1 h8:Hp}{fv:List (Str×V)}{as:As}
def F7(f:Str)(p:PF):List (Str×PF)->List (Str×PF)
 | []=>[(f,p)]
 |(g,x)::r=>if g=f then(g,p)::r else(g,x)::F7 f p r
def q5(f:Str):List (Str×PF)->Option PF
 | []=>none
 |(g,x)::r=>if g=f then some x else q5 f r
inductive wQ(K:i9)(Hv H:Hp):V->PF->List Addr->Prop
 |dat {x d}:Dt K Hv x d->wQ K Hv H x (.dat d) []
 |own {a xs l}:H a=some (.lst xs)->q4 K Hv xs l->wQ K Hv H (.ref a) (.own l) [a]
 |dct {a kvs es}:H a=some (.dK kvs)->wO K Hv kvs es->wQ K Hv H (.ref a) (.dct es) [a]
section
variable{K:i9}{Hv Hv' H H':Hp}{v:Addr}{R Rf:List Addr}{c:OD}{fv:List (Str×V)}{fs:List (Str×PF)}{f:Str}{y:V}{p:PF}
theorem V9.cons{n:Str}(h:wQ K Hv H y p Rf)(d:∀b∈Rf,b∉R)(t:V9 K Hv H fv fs R):V9 K Hv H ((n,y)::fv) ((n,p)::fs) (Rf++R):=by
 cases h with
 |dat h=>exact .dat h t
 |own h1 h2=>exact .own h1 h2 (d _ A2) t
 |dct h1 h2=>exact .dct h1 h2 (d _ A2) t
theorem V9.put(t:V9 K Hv H fv fs R)(h:wQ K Hv H y p Rf)(d:∀b∈Rf,b∉R):∃R',V9 K Hv H (aM f y fv) (F7 f p fs) R'/\∀b∈R',b∈Rf\/b∈R:=by
 induction t with
 |nil =>
  refine⟨Rf++[],V9.cons h (λb _=>by simp) .nil,λb hb=>.inl (by simpa using hb)⟩
 | @dat n x dd fv fs R hd t ih =>
  obtain⟨R',i1,i2⟩:=ih d;rw[aM,F7];by_cases c:n=f
  . rw[c7 c,c7 c];exact⟨Rf++R,V9.cons h d t,λb hb=>List.mem_append.mp hb⟩
  . rw[e9 c,e9 c];exact⟨R',.dat hd i1,i2⟩
 | @own n a xs l fv fs R h1 h2 h3 t ih =>
  obtain⟨R',i1,i2⟩:=ih λb hb z=>d b hb (C4 _ z)
  rw[aM,F7];by_cases c:n=f
  . rw[c7 c,c7 c];exact⟨Rf++R,V9.cons h (λb hb z=>d b hb (C4 _ z)) t,λb hb=>(List.mem_append.mp hb).imp id (C4 _)⟩
  . rw[e9 c,e9 c];refine⟨a::R',.own h1 h2 (λz=>?_) i1,λb hb=>?_⟩
    . rcases i2 a z with z|z
      . exact d a z A2
      . exact h3 z
    . rcases List.mem_cons.mp hb with rfl|hb
      . exact .inr A2
      . exact(i2 b hb).imp id (C4 _)
 | @dct n a kvs es fv fs R h1 h2 h3 t ih =>
  obtain⟨R',i1,i2⟩:=ih λb hb z=>d b hb (C4 _ z)
  rw[aM,F7];by_cases c:n=f
  . rw[c7 c,c7 c];exact⟨Rf++R,V9.cons h (λb hb z=>d b hb (C4 _ z)) t,λb hb=>(List.mem_append.mp hb).imp id (C4 _)⟩
  . rw[e9 c,e9 c];refine⟨a::R',.dct h1 h2 (λz=>?_) i1,λb hb=>?_⟩
    . rcases i2 a z with z|z
      . exact d a z A2
      . exact h3 z
    . rcases List.mem_cons.mp hb with rfl|hb
      . exact .inr A2
      . exact(i2 b hb).imp id (C4 _)
theorem fS{n:Str}{x:V}:cU f ((n,x)::fv)=if n=f then some x else cU f fv:=by
 rw[lS];by_cases c:n=f
 . subst c;simp
 . have c':(f==n)=false:=by simpa using λz=>c z.symm
   rw[c',e9 c]
theorem V9.VB(t:V9 K Hv H fv fs R)(h:q5 f fs=none):fv.lookup f=none:=by
 induction t with
 |nil=>rfl
 | dat hd t ih => rw [q5] at h; rw [fS]; split at h; · cases h
                  . rename_i c;rw[e9 c];exact ih h
 | own h1 h2 h3 t ih => rw [q5] at h; rw [fS]; split at h; · cases h
                        . rename_i c;rw[e9 c];exact ih h
 | dct h1 h2 h3 t ih => rw [q5] at h; rw [fS]; split at h; · cases h
                        . rename_i c;rw[e9 c];exact ih h
theorem V9.look(t:V9 K Hv H fv fs R)(h:q5 f fs=some p):∃x Rf,fv.lookup f=some x/\wQ K Hv H x p Rf/\(∀b∈Rf,b∈R) /\
  ∀{Hv' H':Hp} {p':PF},i8 Hv Hv'->(∀b∈R,b∉Rf->∀o,H b=some o->H' b=some o)->wQ K Hv' H' x p' Rf->V9 K Hv' H' fv (F7 f p' fs) R:=by
 induction t with
 |nil=>cases h
 | @dat n x d fv fs R hd t ih =>
  rw[q5]at h;rw[fS];by_cases c:n=f
  . rw[c7 c]at h ⊢;cases h;refine⟨x,[],rfl,.dat hd,λb hb=>absurd hb (by simp),λ{Hv' H' p'} e e2 k=>?_⟩
    rw[F7,c7 c];exact V9.cons (Rf:=[]) k (λb hb=>absurd hb (by simp)) (t.same e λb hb=>e2 b hb (by simp))
  . rw[e9 c]at h ⊢;obtain⟨y,Rf,i1,i2,i3,i4⟩:=ih h;refine⟨y,Rf,i1,i2,i3,λ{Hv' H' p'} e e2 k=>?_⟩
    rw[F7,e9 c];exact .dat (hd.same e) (i4 e e2 k)
 | @own n a xs l fv fs R h1 h2 h3 t ih =>
  rw[q5]at h;rw[fS];by_cases c:n=f
  . rw[c7 c]at h ⊢;cases h;refine⟨_,[a],rfl,.own h1 h2,λb hb=>by rw[mem_singleton.mp hb];exact A2,λ{Hv' H' p'} e e2 k=>?_⟩
    rw[F7,c7 c];refine V9.cons (Rf:=[a]) k (λb hb=>by rw[mem_singleton.mp hb];exact h3) (t.same e λb hb=>e2 b (C4 _ hb) λz=>?_)
    rw[mem_singleton.mp z]at hb;exact h3 hb
  . rw[e9 c]at h ⊢;obtain⟨y,Rf,i1,i2,i3,i4⟩:=ih h;refine⟨y,Rf,i1,i2,λb hb=>C4 _ (i3 b hb),λ{Hv' H' p'} e e2 k=>?_⟩
    rw[F7,e9 c];exact .own (e2 a A2 (λz=>h3 (i3 a z)) _ h1) (h2.same e) h3 (i4 e (λb hb=>e2 b (C4 _ hb)) k)
 | @dct n a kvs es fv fs R h1 h2 h3 t ih =>
  rw[q5]at h;rw[fS];by_cases c:n=f
  . rw[c7 c]at h ⊢;cases h;refine⟨_,[a],rfl,.dct h1 h2,λb hb=>by rw[mem_singleton.mp hb];exact A2,λ{Hv' H' p'} e e2 k=>?_⟩
    rw[F7,c7 c];refine V9.cons (Rf:=[a]) k (λb hb=>by rw[mem_singleton.mp hb];exact h3) (t.same e λb hb=>e2 b (C4 _ hb) λz=>?_)
    rw[mem_singleton.mp z]at hb;exact h3 hb
  . rw[e9 c]at h ⊢;obtain⟨y,Rf,i1,i2,i3,i4⟩:=ih h;refine⟨y,Rf,i1,i2,λb hb=>C4 _ (i3 b hb),λ{Hv' H' p'} e e2 k=>?_⟩
    rw[F7,e9 c];exact .dct (e2 a A2 (λz=>h3 (i3 a z)) _ h1) (h2.same e) h3 (i4 e (λb hb=>e2 b (C4 _ hb)) k)
end
def dS(nm:Str)(i:Nat)(ds:Ds):Option (Option Addr×List (Str×PF)):=match ds[i]? with
 |some (some (.ob w (.ins n fs)))=>if n=nm then some (w,fs)else none
 |_=>none
theorem aN{nm:Str}{i:Nat}{fs:List (Str×PF)}(h:dS nm i ds=some (w,fs)):ds[i]? = some (some (.ob w (.ins nm fs))):=by
 delta dS at h;split at h
 . rename_i w' n fs' hd;split at h
   . rename_i hn;cases h;rw[hd,hn]
   . cases h
 . cases h
def AY:PF->Option c6
 | .dat d=>some d
 |_=>none
def qh:PF->Option (List c6)
 | .own l=>some l
 |_=>none
theorem OW{d:c6}(h:AY p=some d):p=.dat d:=by cases p<;>cases h;rfl
theorem tG{d:List c6}(h:qh p=some d):p=.own d:=by cases p<;>cases h;rfl
noncomputable def F6(nm:Str)(i:Nat)(f:Str):Ds->Option PV:=λds=>(dS nm i ds).bind λx=>(q5 f x.2).bind λp=>(AY p).bind λd=>some (.dat d)
noncomputable def gC(nm:Str)(i:Nat)(f:Str)(Fb:Ds->Option PV):Ds->Option PV:=λds=>(dS nm i ds).bind λx=>(q5 f x.2).bind λp=>(qh p).bind λl=>(Fb ds).bind λk=>j5 (.list l) k.d
section
variable{X:Cx}{fr:Bool}{i:Nat}{o e b:Expr}{te tb:TE}{F Fb:Ds->Option PV}{nm f:Str}{C:Addr}{pos pos' apos cpos:Pos}
theorem RK(T:bz X.K nm C)(n:V6 X.K C f)(h:PE X o (O2 i))(hb:aZ o f X.env (eval o X.env)=eval o X.env:=by rfl):PX X fr (.Attribute o f pos) (ou X.K (O2 i) f) (F6 nm i f):=⟨qf h hb,by
 intro O h8 as σ H ds pv Q S hf q;obtain⟨⟨w,fs⟩,h1,hf⟩:=l9 hf;obtain⟨p,h2,hf⟩:=l9 hf;obtain⟨d,h3,hf⟩:=l9 hf;cases hf;have e3:=OW h3;subst e3;obtain⟨v,R,e1,_,_,C',dx,fv,R',rfl,c1,c2,c3⟩:=S.slot i _ (aN h1);have ec:=T.eq c1;subst ec;obtain⟨x,Rf,l1,l2,_⟩:=c3.look h2;cases l2 with
 |dat l2=>exact⟨_,e1,v,C',dx,fv,x,rfl,c2,T.cl,n,l1,q x H (i8.refl H) (l2.same kK)⟩⟩
theorem UM(T:bz X.K nm C)(n:V6 X.K C f)(h:PE X o (O2 i))(hb:PX X fr b tb Fb)(hbs:aZ o f X.env (eval o X.env)=eval o X.env:=by rfl)(hs:sh b:=by intro _ _;rfl):PX X fr (.Subscript (.Attribute o f apos) b pos) (pV (IB X.K) (ou X.K (O2 i) f) tb) (gC nm i f Fb):=⟨Qo JP (qf h hbs) hb.p hs,by
 intro O h8 as σ H ds pv Q S hf q;obtain⟨⟨w,fs⟩,h1,hf⟩:=l9 hf;obtain⟨p,h2,hf⟩:=l9 hf;obtain⟨l,h3,hf⟩:=l9 hf;obtain⟨k,h4,hg⟩:=l9 hf;have e3:=tG h3;subst e3;obtain⟨v,R,e1,_,hR,C',dx,fv,R',rfl,c1,c2,c3⟩:=S.slot i _ (aN h1);have ec:=T.eq c1;subst ec;obtain⟨x,Rf,l1,l2,l3,l4⟩:=c3.look h2;cases l2 with
 |own y1 y2 =>
  rename_i a xs;refine⟨_,e1,v,C',dx,fv,_,rfl,c2,T.cl,n,l1,hb.t O h8 as σ H ds k _ S h4 λy H1 s1 r1=>?_⟩
  have dy:=r1.dt S.dm;generalize k.d=kk at hg dy;cases dy with
  |int j =>
   have hf':((L2.K5 l j).bind λd=>some (PV.dat d))=some pv:=hg
   cases h5:L2.K5 l j with
   |none=>rw[h5]at hf';cases hf'
   |some d =>
    rw[h5]at hf';cases hf';obtain⟨v,h3,h4⟩:=y2.K5 h5;exact .inl ⟨a,xs,j,v,rfl,rfl,G6.of (s1 _ _ y1),h3,q v H1 s1 (Dt.same (kK.trans (T7 s1)) h4)⟩
  |_=>cases hg⟩
end
section
variable{K:i9}{O:List Addr}{h8 H H1:Hp}{as:As}{σ:St}{ds:Ds}
theorem DS.adopt(S:DS K O h8 as σ H ds)(e1:i8 H H1)(i:Nat)(hR:∀b∈R,H b=none)(hC:∀b∈R,∃u:Cl,H1 b=some u.1):
  DS K O h8 (R.map some++as) σ H1 ds/\∀rg:Nat->List Addr,(∀i b,b∈rg i->some b∈as)->(∀i j b,b∈rg i->b∈rg j->i=j)->(∀(i:Nat) (pv:PV),ds[i]? = some (some pv)->az K O as H σ[i]? (rg i) pv) ->
   ∃rg':Nat->List Addr,(∀i b,b∈rg' i->some b∈R.map some++as)/\(∀i j b,b∈rg' i->b∈rg' j->i=j)/\(∀(i:Nat) (pv:PV),ds[i]? = some (some pv)->az K O (R.map some++as) H1 σ[i]? (rg' i) pv)/\(∀b∈R,b∈rg' i)/\∀b∈rg i,b∈rg' i:=by
 have hn:∀b∈R,some b∉as:=λb hb z=>by obtain⟨_,o,z⟩:=S.new b z;rw[hR b hb]at z;cases z
 have key:∀rg:Nat->List Addr,(∀i b,b∈rg i->some b∈as)->(∀i j b,b∈rg i->b∈rg j->i=j)->(∀(i:Nat) (pv:PV),ds[i]? = some (some pv)->az K O as H σ[i]? (rg i) pv) ->
   ∃rg':Nat->List Addr,(∀i b,b∈rg' i->some b∈R.map some++as)/\(∀i j b,b∈rg' i->b∈rg' j->i=j)/\(∀(i:Nat) (pv:PV),ds[i]? = some (some pv)->az K O (R.map some++as) H1 σ[i]? (rg' i) pv)/\(∀b∈R,b∈rg' i)/\∀b∈rg i,b∈rg' i:=λrg r1 r2 r3=>by
  refine⟨λj=>if j=i then R++rg j else rg j,λj b hb=>?_,λj k b h1 h2=>?_,λj pv hj=>(r3 j pv hj).yf (mE e1 hR) (λb _ o z=>e1 _ _ z) λb z=>?_,λb hb=>by dsimp only;rw[c7 rfl];exact iV _ hb,λb hb=>by dsimp only;rw[c7 rfl];exact L6 _ hb⟩
  . dsimp only at hb;split at hb
    . rcases List.mem_append.mp hb with z|z
      . exact iV _ (mem_map.mpr ⟨b,z,rfl⟩)
      . exact L6 _ (r1 j b z)
    . exact L6 _ (r1 j b hb)
  . dsimp only at h1 h2;split at h1
    . rename_i z1;split at h2
      . rename_i z2;rw[z1,z2]
      . rcases List.mem_append.mp h1 with z|z
        . exact absurd (r1 k b h2) (hn b z)
        . exact r2 j k b z h2
    . split at h2
      . rcases List.mem_append.mp h2 with z|z
        . exact absurd (r1 j b h1) (hn b z)
        . exact r2 j k b h1 z
      . exact r2 j k b h1 h2
  . dsimp only;split
    . exact L6 _ z
    . exact z
 obtain⟨rg,r1,r2,r3⟩:=S.gx;obtain⟨rg',k1,k2,k3,_⟩:=key rg r1 r2 r3;refine⟨⟨S.ls,S.same.trans e1,λb hb=>?_,S.cL,rg',k1,k2,k3⟩,key⟩
 rcases List.mem_append.mp hb with z|z
 . obtain⟨b',z1,z2⟩:=mem_map.mp z;cases z2;exact⟨S.same.free (hR b z1),hC b z1⟩
 . exact⟨(S.new b z).1,let ⟨o,z⟩:=(S.new b z).2;⟨o,e1 _ _ z⟩⟩
end
def iM:PV->Option PF
 | .dat d=>some (.dat d)
 | .own l=>some (.own l)
 | .ob _ (.dct es)=>some (.dct es)
 |_=>none
def gE(pv:PV):Option PF:=some (.dat pv.d)
noncomputable def S7(nm:Str)(i:Nat)(f:Str)(kp:PV->Option PF)(F:Ds->Option PV):Ds->Option Out:=λds=>(F ds).bind λpv=>(kp pv).bind λp=>(dS nm i ds).bind λx=>if x.2.length<900 then some (.next (ds.set i (some (.ob x.1 (.ins nm (F7 f p x.2))))))else none
theorem V9.len{fs:List (Str×PF)}(h:V9 K Hv H fv fs R):fv.length=fs.length:=by
 induction h with
 |nil=>rfl
 |dat _ _ ih=>rw[O0,O0,ih]
 |own _ _ _ _ ih=>rw[O0,O0,ih]
 |dct _ _ _ _ ih=>rw[O0,O0,ih]
section
variable{X:Cx}{fr:Bool}{i:Nat}{o e b:Expr}{te tb:TE}{F Fb Fk:Ds->Option PV}{nm f:Str}{C:Addr}{pos pos' apos cpos:Pos}
theorem SN{v:V}{pv:PV}(D:oj H as O)(r:RX K O as H H1 v pv)(h:iM pv=some p\/gE pv=some p):∃Rf,(∀b∈Rf,H b=none)/\(∀b∈Rf,∃u:Cl,H1 b=some u.1)/\wQ K (n6 H1 (Rf.map some++as) O) H1 v p Rf:=by
 rcases h with h|h
 . cases pv with
   |dat d=>cases h;exact⟨[],λb hb=>absurd hb (by simp),λb hb=>absurd hb (by simp),.dat r⟩
   |own l =>
    cases h;obtain⟨a,xs,rfl,e2,e3,r⟩:=r;refine⟨[a],λb hb=>?_,λb hb=>?_,.own e3 r⟩
    . rw[mem_singleton.mp hb];exact e2
    . rw[mem_singleton.mp hb];exact⟨Cl.l xs,e3⟩
   |ob w c =>
    cases c with
    |dct es =>
     cases h;obtain⟨a,R,rfl,_,e3,kvs,rfl,e4,e5⟩:=r;refine⟨[a],e3,λb hb=>?_,.dct e4 e5⟩
     rw[mem_singleton.mp hb];exact⟨Cl.d kvs,e4⟩
    |ins _ _=>cases h
 . cases h;exact⟨[],λb hb=>absurd hb (by simp),λb hb=>absurd hb (by simp),.dat (r.dt D)⟩
theorem Nv{kp:PV->Option PF}(T:bz X.K nm C)(n:V6 X.K C f)(h:PE X o (O2 i))(hk:∀pv p,kp pv=some p->iM pv=some p\/gE pv=some p)(he:PX X true e te F)(hs:aJ e (some (.Attribute o f pos')) pos.line X.env=pure false:=by rfl):M5 X (.Assign [.Attribute o f pos'] e pos) (Uv X.K (O2 i) te f) (S7 nm i f kp F):=⟨Vb h he.p hs,by
 intro O h8 as σ H ds D r S hf q;obtain⟨pv,h1,hf⟩:=l9 hf;obtain⟨p,h2,hf⟩:=l9 hf;obtain⟨⟨w,fs⟩,h3,hf⟩:=l9 hf;simp only at hf;split at hf
 . rename_i hl;cases hf;refine he.t O h8 as σ H ds pv _ S h1 λy H1 s1 r1=>?_
   obtain⟨Rf,k1,k2,k3⟩:=SN (S.dm (fr:=true)) r1 (hk pv p h2);obtain⟨S1,ad⟩:=S.adopt s1 i k1 k2;obtain⟨rg,r1',r2',r3'⟩:=S.gx;obtain⟨rg',g1,g2,g3,g4,g5⟩:=ad rg r1' r2' r3';obtain⟨v,R,e1,ew,hR,C',dx,fv,R',rfl,c1,c2,c3⟩:=g3 i _ (aN h3);have ec:=T.eq c1;subst ec;obtain⟨v0,R0,e10,ew0,hR0,C0,dx0,fv0,R0',rfl,c10,c20,c30⟩:=r3' i _ (aN h3);rw[e1]at e10;cases e10;have c2':=s1 _ _ c20;rw[c2]at c2';cases c2';have c30':=c30.same (H':=H1) (mE (as:=as) (O:=O) s1 k1) λb _ o z=>s1 _ _ z
   have dj:∀b∈Rf,b∉R0':=λb hb z=>by obtain⟨u,_,z⟩:=c30.at b z;rw[k1 b hb]at z;cases z
   obtain⟨R2,p1,p2⟩:=c30'.put (f:=f) k3 dj;refine⟨_,e1,v,C',dx,fv,rfl,c2,T.cl,n,by rw[c30.len];lia,q (Rf.map some++as) σ _ ?_⟩
   have nv:∀b∈R2,b≠v:=λb hb z=>by subst z;obtain⟨u,hu,z⟩:=p1.at b hb;rw[c2]at z;cases z;rcases hu with ⟨_,hu⟩|⟨_,hu⟩<;>cases hu
   have hv:v∈rg' i:=hR v A2;refine S1.FU (u:=Cl.i C' dx (aM f y fv)) (aN h3) g1 g2 g3 hv λsm=>⟨v,v::R2,e1,ew,λb hb=>?_,C',dx,_,R2,rfl,c1,M3,p1.same sm λb hb o z=>by rw[C3 (nv b hb)];exact z⟩
   rcases List.mem_cons.mp hb with rfl|hb
   . exact hv
   . rcases p2 b hb with z|z
     . exact g4 b z
     . exact g5 b (hR0 b (C4 _ z))
 . cases hf⟩
noncomputable def aW(nm:Str)(i:Nat)(f:Str)(Fk Fv:Ds->Option PV):Ds->Option Out:=λds=>(Fv ds).bind λpv=>(Fk ds).bind λk=>(dS nm i ds).bind λx=>(q5 f x.2).bind λp=>(qh p).bind λl=>match k.d with
 | .int k=>(fT l.length k).bind λj=>some (.next (ds.set i (some (.ob x.1 (.ins nm (F7 f (.own (l.set j pv.d)) x.2))))))
 |_=>none
noncomputable def mG(nm:Str)(i:Nat)(f:Str)(F:Ds->Option PV):Ds->Option Out:=λds=>(F ds).bind λpv=>(dS nm i ds).bind λx=>(q5 f x.2).bind λp=>(qh p).bind λl=>if l.length<1000000 then some (.next (ds.set i (some (.ob x.1 (.ins nm (F7 f (.own (l++[pv.d])) x.2))))))else none
theorem DS.PR{σ:St}{fs:List (Str×PF)}{u:Cl}{a v:Addr}{C' dx:Addr}(S:DS K O h8 as σ H ds)(hd:ds[i]? = some (some (.ob w (.ins nm fs))))(hl:q5 f fs=some p)(e1:σ[i]? = some (some (.ref v)))(hH:H v=some (.ins C' dx fv))(hx:fv.lookup f=some (.ref a))(hp:∀d,p≠.dat d)
  (hv:∀{Hv':Hp},i8 (n6 H as O) Hv'->wQ K Hv' (upd H a u.1) (.ref a) p' [a]):DS K O h8 as σ (upd H a u.1) (ds.set i (some (.ob w (.ins nm (F7 f p' fs))))):=by
 obtain⟨rg,r1,r2,r3⟩:=S.gx;obtain⟨v0,R0,e10,ew0,hR0,C0,dx0,fv0,R0',rfl,c10,c20,c30⟩:=r3 i _ hd;rw[e1]at e10;cases e10;rw[hH]at c20;cases c20;obtain⟨x0,Rf,l1,l2,l3,l4⟩:=c30.look hl;rw[hx]at l1;cases l1;have eR:Rf=[a]:=by
  cases l2 with
  |dat _=>exact absurd rfl (hp _)
  |own _ _=>rfl
  |dct _ _=>rfl
 subst eR;have ha:a∈R0':=l3 a A2;have nv:v≠a:=λz=>by subst z;obtain⟨u',hu,z⟩:=c30.at v ha;rw[hH]at z;cases z;rcases hu with ⟨_,hu⟩|⟨_,hu⟩<;>cases hu
 refine S.FU (u:=u) hd r1 r2 r3 (hR0 a (C4 _ ha)) λsm=>⟨v,v::R0',e1,ew0,hR0,C',dx,fv,R0',rfl,c10,by rw[C3 nv];exact hH,l4 sm (λb hb hn o z=>?_) (hv sm)⟩
 rw[C3 (λz=>hn (by rw[z];exact A2))]
 exact z
theorem Nu{k:Expr}{tk:TE}{ipos:Pos}(T:bz X.K nm C)(n:V6 X.K C f)(ho:PE X o (O2 i))(hk:PX X true k tk Fk)(he:PX X true e te F)
  (hbs:aZ o f X.env (eval o X.env)=eval o X.env:=by rfl)
  (ha:∀v,assign (.Subscript (.Attribute o f apos) k ipos) X.env v=(do
   let ov <- holding [v] (eval (.Attribute o f apos) X.env)
   let iv <- holding [v,ov] (eval k X.env)
   cc ipos
   holding [v,ov,iv] (setItem ov iv v)
   release [v,ov,iv] []):=by intro _;rfl)
  (hs:BX [.Subscript (.Attribute o f apos) k ipos] e pos.line X.env=pure false:=by rfl) (hw:BW [.Subscript (.Attribute o f apos) k ipos] e X.env=pure none:=by rfl)
  (h1:(jw [.Subscript (.Attribute o f apos) k ipos] X.env).map (·.2)=[assign (.Subscript (.Attribute o f apos) k ipos) X.env]:=by rfl) :
  M5 X (.Assign [.Subscript (.Attribute o f apos) k ipos] e pos) (kT te (OL (ou X.K (O2 i) f) tk Gg)) (aW nm i f Fk F):=⟨IT he.p (IZ (qf ho hbs) hk.p set_list ha) hs hw h1,by
 intro O h8 as σ H ds D r S hf q;obtain⟨pv,e1,hf⟩:=l9 hf;obtain⟨kv,e2,hf⟩:=l9 hf;obtain⟨⟨w,fs⟩,e3,hf⟩:=l9 hf;obtain⟨p,e4,hf⟩:=l9 hf;obtain⟨l,e5,hg⟩:=l9 hf;have e6:=tG e5;subst e6;split at hg
 . rename_i kk hkk;obtain⟨j,e7,hg⟩:=l9 hg;cases hg;refine he.t O h8 as σ H ds pv _ S e1 λv H1 s1 r1=>?_
   have S1:=S.grow s1;obtain⟨v0,R,z1,_,hR,C',dx,fv,R',rfl,c1,c2,c3⟩:=S1.slot i _ (aN e3);have ec:=T.eq c1;subst ec;obtain⟨x,Rf,l1,l2,l3,l4⟩:=c3.look e4;cases l2 with
   |own y1 y2 =>
    rename_i a xs;refine⟨_,z1,v0,C',dx,fv,_,rfl,c2,T.cl,n,l1,?_⟩;refine hk.t O h8 as σ H1 ds kv _ S1 e2 λw' H2 s2 r2=>?_
    have dk:=r2.dt S1.dm;rw[hkk]at dk;cases dk;have dv:=(r1.grow s2).dt S.dm;refine⟨a,xs,kk,j,rfl,rfl,s2 _ _ y1,by rw[y2.length];exact e7,q as σ _ ?_⟩
    exact(S1.grow s2).PR (u:=Cl.l _) (aN e3) e4 z1 (s2 _ _ c2) l1 (λd z=>by cases z) λsm=>.own M3 (((y2.same (T7 s2)).set j dv).same sm)
 . cases hg⟩
theorem Nw(T:bz X.K nm C)(n:V6 X.K C f)(ho:PE X o (O2 i))(he:PX X true e te F)(hbs:aZ o f X.env (eval o X.env)=eval o X.env:=by rfl)(hst:j6 [e] X.env=(false,eval e X.env)::j6 [] X.env:=by rfl)
  (hbase:aZ (.Attribute o f pos') "append" X.env (eval (.Attribute o f pos') X.env)=eval (.Attribute o f pos') X.env:=by rfl)
  (hfew:((C9 cpos (j6 [e] X.env)).all (λx=>!x.1)&&(bq cpos (dH [] X.env)).all (λx=>x.1.isSome)
   && decide ([e].length+([]:List bp).length+(if ([]:List bp).isEmpty then 0 else 1)<30))=true:=by rfl)
  (hline:(apos.endLine==cpos.line)=true:=by rfl) (hplain:(C9 cpos (j6 [] X.env)).any (·.1)=false:=by rfl)
  (hs:aJ (.Call (.Attribute (.Attribute o f pos') "append" apos) [e] [] cpos) none pos.line X.env=pure false:=by rfl) :
  M5 X (.Expr (.Call (.Attribute (.Attribute o f pos') "append" apos) [e] [] cpos) pos) (zf (Qg X.K "list" wY (ou X.K (O2 i) f) (iK te mT))) (mG nm i f F) :=
 ⟨xa (Gv CO Mb Ma yi (qf ho hbs) (iw he.p qg hst) hbase hfew hline hst hplain) hs,by
 intro O h8 as σ H ds D r S hf q;obtain⟨pv,e1,hf⟩:=l9 hf;obtain⟨⟨w,fs⟩,e3,hf⟩:=l9 hf;obtain⟨p,e4,hf⟩:=l9 hf;obtain⟨l,e5,hg⟩:=l9 hf;have e6:=tG e5;subst e6;split at hg
 . rename_i hl;cases hg;obtain⟨v0,R,z1,_,hR,C',dx,fv,R',rfl,c1,c2,c3⟩:=S.slot i _ (aN e3);have ec:=T.eq c1;subst ec;obtain⟨x,Rf,l1,l2,l3,l4⟩:=c3.look e4;cases l2 with
   |own y1 y2 =>
    rename_i a xs;refine⟨_,z1,v0,C',dx,fv,_,rfl,c2,T.cl,n,l1,.inl ⟨rfl,xs,G6.of y1⟩,?_⟩;refine he.t O h8 as σ H ds pv _ S e1 λv H1 s1 r1=>?_
    have hx:=y2.length;refine⟨a,xs,v,rfl,rfl,s1 _ _ y1,O1 (by lia) (pW (o3 _)),q as σ _ ?_⟩
    exact(S.grow s1).PR (u:=Cl.l _) (aN e3) e4 z1 (s1 _ _ c2) l1 (λd z=>by cases z) λsm=>.own M3 (((y2.same (T7 s1)).append (.cons (r1.dt S.dm) .nil)).same sm)
 . cases hg⟩
end
end
section
variable{N ps:List Str}{G:Ds->Option Out}
def jg(K:i9)(f:List PV->Option (PV×Ds)):Sp:=λvs H Q _=>∃(O:List Addr) (h8:Hp) (as:As) (args:List PV) (pv:PV) (ds':Ds),
 DS K O h8 as (vs.map some) H (args.map some)/\f args=some (pv,ds')/\∀as' Hm H' v,DS K O h8 as' (vs.map some) Hm ds'->i8 Hm H'->RX K O as' Hm H' v pv->Q v H'
def aL(t:Nat->Addr):Nat->List PV->List PV
 |_,[]=>[]
 |i,.ob _ c::r=>.ob (some (t i)) c::aL t (i+1) r
 |i,x::r=>x::aL t (i+1) r
def J5(t:Nat->Addr):Nat->List PV->Ds->Ds
 |_,[],_=>[]
 |i,.ob _ _::a,some (.ob w c)::r=>(if w=some (t i)then some (.ob none c)else none)::J5 t (i+1) a r
 |i,_::a,_::r=>none::J5 t (i+1) a r
 |i,_::a,[]=>none::J5 t (i+1) a []
def jP(args:List PV)(t:Nat->Addr):Out->Option (PV×Ds)
 | .retO pv ds=>some (pv,J5 t 0 args ds)
 | .next ds=>some (.dat .none,J5 t 0 args ds)
 |_=>none
noncomputable def nE(n N:Nat)(G:Ds->Option Out):List PV->Option (PV×Ds):=λargs=>if args.length=n then
 (open Classical in if h:∃r,∀t,(G ((aL t 0 args).map some++v9 (N-n) none)).bind (jP args t)=some r then some h.choose else none)else none
theorem lj{n N:Nat}{args:List PV}{r:PV×Ds}(hl:args.length=n)(h:∀t,(G ((aL t 0 args).map some++v9 (N-n) none)).bind (jP args t)=some r):nE n N G args=some r:=by
 delta nE;rw[c7 hl];have hx:∃r,∀t,(G ((aL t 0 args).map some++v9 (N-n) none)).bind (jP args t)=some r:=⟨r,h⟩;rw[dif_pos hx];have:=hx.choose_spec λ_=>(0:Nat)
 rw[h λ_=>(0:Nat)]at this
 exact this.symm
theorem Fg{n N:Nat}{args:List PV}{r:PV×Ds}(h:nE n N G args=some r):args.length=n/\∀t,(G ((aL t 0 args).map some++v9 (N-n) none)).bind (jP args t)=some r:=by
 delta nE at h;split at h
 . rename_i hl;split at h
   . rename_i hx;cases h;exact⟨hl,hx.choose_spec⟩
   . cases h
 . cases h
theorem zC(t:Nat->Addr):∀(args:List PV) (i k:Nat),(aL t i args)[k]? = (args[k]?).map λpv=>match pv with
  | .ob _ c=>.ob (some (t (i+k))) c
  |pv=>pv
 | [],i,k=>by simp[aL]
 |x::r,i,0=>by cases x<;>simp[aL]
 |x::r,i,k+1=>by
  have:=zC t r (i+1) k;rw[show i+1+k=i+(k+1)from by lia]at this
  cases x<;>(simp only[aL,P7];exact this)
theorem tQ(t:Nat->Addr):∀(args:List PV) (i k:Nat) (ds:Ds) (pv:PV),(J5 t i args ds)[k]? = some (some pv)->∃c w c0,pv=.ob none c/\args[k]? = some (.ob w c0)/\ds[k]? = some (some (.ob (some (t (i+k))) c))
 | [],i,k,ds,pv,h=>by simp[J5]at h
 |x::a,i,0,[],pv,h=>by cases x<;>simp[J5]at h
 |x::a,i,k+1,[],pv,h=>by
  have h':(J5 t (i+1) a [])[k]? = some (some pv):=by cases x<;>simpa [J5]using h
  obtain⟨c,w,c0,_,_,h⟩:=tQ t a (i+1) k [] pv h';simp at h
 |x::a,i,0,y::r,pv,h=>by
  cases x with
  |ob w0 c0 =>
   cases y with
   |none=>simp[J5]at h
   |some y =>
    cases y with
    |ob w c =>
     simp only[J5,wF,Cq]at h;split at h
     . rename_i hw;cases h;exact⟨c,w0,c0,rfl,rfl,by simp[hw]⟩
     . cases h
    |dat _=>simp[J5]at h
    |own _=>simp[J5]at h
  |dat _=>simp[J5]at h
  |own _=>simp[J5]at h
 |x::a,i,k+1,y::r,pv,h=>by
  have h':(J5 t (i+1) a r)[k]? = some (some pv):=by
   cases x with
   |ob w0 c0 =>
    cases y with
    |none=>simpa [J5]using h
    |some y=>cases y<;>simpa [J5]using h
   |dat _=>simpa [J5]using h
   |own _=>simpa [J5]using h
  obtain⟨c,w,c0,h1,h2,h3⟩:=tQ t a (i+1) k r pv h';exact⟨c,w,c0,h1,by rw[P7,h2],by rw[P7,h3,show i+1+k=i+(k+1)from by lia]⟩
theorem iE(t:Nat->Addr):∀(args:List PV) (i:Nat) (ds:Ds),(J5 t i args ds).length=args.length
 | [],_,_=>by simp[J5]
 |x::a,i,[]=>by cases x<;>simp[J5,iE t a]
 |x::a,i,y::r=>by
  cases x with
  |ob w c =>
   cases y with
   |none=>simp[J5,iE t a]
   |some y=>cases y<;>simp[J5,iE t a]
  |dat _=>simp[J5,iE t a]
  |own _=>simp[J5,iE t a]
section
variable{K:i9}{O:List Addr}{h8 H:Hp}{as:As}{σ:St}{ds:Ds}
theorem DS.slots(S:DS K O h8 as σ H ds){σ':St}{ds':Ds}(hl:σ'.length=ds'.length)(h:∀(i:Nat) (pv:PV),ds'[i]? = some (some pv)->∃pv0,ds[i]? = some (some pv0)/\∀rg,az K O as H σ[i]? rg pv0->az K O as H σ'[i]? rg pv):DS K O h8 as σ' H ds':=by
 obtain⟨rg,r1,r2,r3⟩:=S.gx;refine⟨hl,S.same,S.new,S.cL,rg,r1,r2,λi pv hd=>?_⟩
 obtain⟨pv0,h1,h2⟩:=h i pv hd;exact h2 _ (r3 i pv0 h1)
end
section
variable{P:A6}{w:t7}{K:i9}{mg:Str->Option e8}{base:Heap}
def addrOf:Option V->Addr
 |some (.ref a)=>a
 |_=>(0:Nat)
theorem DS.Uk{O:List Addr}{h8 H:Hp}{as:As}{vs:List V}{args:List PV}(S:DS K O h8 as (vs.map some) H (args.map some)):
  DS K O h8 as (L2.start N vs) H ((aL (λi=>addrOf vs[i]?) 0 args).map some++v9 (N.length-args.length) none):=by
 have hl:vs.length=args.length:=by have:=S.ls;simpa using this
 have lt:(aL (λi=>addrOf vs[i]?) 0 args).length=args.length:=by
  have:∀(a:List PV) (i:Nat) (t:Nat->Addr),(aL t i a).length=a.length:=by
   intro a;induction a with
   |nil=>intro i t;rfl
   |cons x r ih=>intro i t;cases x<;>simp[aL,ih]
  exact this _ _ _
 refine S.slots (by delta L2.start;simp[lt,hl]) λi pv hd=>?_
 rw[CD]at hd;split at hd
 . rename_i hi;rw[Q6,zC,Option.map_map]at hd;have hi':i<args.length:=by simpa [lt]using hi
   have hiv:i<vs.length:=by lia
   rw[J3 hi']at hd;have es:(L2.start N vs)[i]? = (vs.map some)[i]?:=by delta L2.start;rw[rp (by simpa using hiv)]
   have ea:(args.map some)[i]? = some (some args[i]):=by rw[Q6,J3 hi'];rfl
   refine⟨args[i],ea,λrg h=>?_⟩
   rw[es];simp only[jC,Function.comp,Cq]at hd;generalize args[i]=x at hd h;cases x with
   |dat d=>simp only at hd;rw[<-hd];exact h
   |own l=>simp only at hd;rw[<-hd];exact h
   |ob w c =>
    simp only at hd;rw[<-hd];obtain⟨v,R,z1,z2,z3,z4⟩:=h;refine⟨v,R,z1,.inr ?_,z3,z4⟩;rw[Q6]at z1;rw[J3 hiv]at z1;have z1':vs[i]=.ref v:=by simpa using z1
    rw[vG,J3 hiv,z1'];rfl
 . have:=rj hd;simp[Cy]at this
theorem rz.Ys{x qual:Str}{st:Stmt}{f:Addr}{fd:M7}{k:Nat}(F:rz K x qual st f fd)(S:iI N ps (D8 st))(hN:ps.length<=N.length)
  (hbody:∀(cdv:e8) (A:A5) (outer:List Env) (s:i5) (H:Hp) (E:XK),G7 k (A.deeper (cR qual (D8 st) s.heap.objs.size f cdv)) ->
   ∃t,fH (lz om P w K mg base N qual (D8 st) f cdv A outer s H E).uH (aw st) t G):Y0 P w K mg base om (k+1) f fd ps (jg K (nE ps.length N.length G)):=by
 have ln:∀vs H Q E,jg K (nE ps.length N.length G) vs H Q E->vs.length=ps.length:=λvs H Q E h=>by obtain⟨O,h8,as,args,pv,ds',h1,h2,h3⟩:=h;have:=h1.ls;have hl:=(Fg h2).1;simp at this;lia
 refine F.ok S ln λcdv A outer s H vs Q E hr h=>?_
 obtain⟨O,h8,as,args,pv,ds',h1,h2,h3⟩:=h;obtain⟨t,ht⟩:=hbody cdv A outer s H E hr;refine⟨t,ht.p,?_⟩;obtain⟨hl,h2⟩:=Fg h2;have e1:=h2 λi=>addrOf vs[i]?
 obtain⟨o,e1,e2⟩:=l9 e1;have S1:=DS.Uk (N:=N) h1;rw[hl]at S1;have hv:vs.length=ps.length:=by have:=h1.ls;simp at this;lia
 have fin:∀as' σ' Hm ds1,DS K O h8 as' σ' Hm ds1->DS K O h8 as' (vs.map some) Hm (J5 (λi=>addrOf vs[i]?) 0 args ds1):=λas' σ' Hm ds1 S2=>by
  refine S2.slots (by rw[iE,N9];lia) λi pv hd=>?_
  obtain⟨c,w0,c0,rfl,h4,h5⟩:=tQ _ _ _ _ _ _ hd;refine⟨_,h5,λrg hs=>?_⟩
  obtain⟨v,R,z1,z2,z3,z4⟩:=hs;refine⟨v,R,?_,.inl rfl,z3,z4⟩;have z2':addrOf vs[0+i]? = v:=by
   rcases z2 with z|z
   . cases z
   . exact ar z
  rw[vG]at z2';obtain⟨v',_,y1,_⟩:=h1.slot i (.ob w0 c0) (by rw[Q6,h4];rfl)
  rw[y1];rw[Q6]at y1;cases e:vs[i]? with
  |none=>rw[e]at y1;cases y1
  |some x =>
   rw[e]at y1 z2';have y1':x=.ref v':=by simpa using y1
   rw[y1']at z2';have z3':v'=v:=z2';rw[z3']
 refine ht.t O h8 as (L2.start N vs) H _ _ o S1 e1 ?_;cases o with
 |next ds1=>cases e2;exact λas' σ' H' S'=>h3 as' H' H' _ (fin _ _ _ _ S') (i8.refl _) Dt.non
 |retO pv' ds1=>cases e2;exact λas' σ' Hm H' v S' s r=>h3 as' Hm H' v (fin _ _ _ _ S') s r
 |ret pv'=>cases e2
 |brk ds1=>cases e2
 |cont ds1=>cases e2
 |up x=>cases e2
end
end
section
variable{E:XK}{CX:mO}{k:Nat}{f C:Addr}{fd:M7}{ps:List Str}{nm m:Str}{pl:Sem Bool}{to:TE}{Fd:Ds->Option (List c6)}
inductive AV where
 |d (x:c6)
 |s (i:Nat)
inductive yQ(K:i9)(Hv:Hp)(σ:St):List V->List AV->Prop
 |nil:yQ K Hv σ [] []
 |d {v x vs l}:Dt K Hv v x->yQ K Hv σ vs l->yQ K Hv σ (v::vs) (.d x::l)
 |s {v i vs l}:σ[i]? = some (some v)->yQ K Hv σ vs l->yQ K Hv σ (v::vs) (.s i::l)
def YE(K:i9)(t:TA)(F:Ds->Option (List AV)):Prop :=
 ∀(O:List Addr) (h8:Hp) (as:As) (σ:St) (H:Hp) (ds:Ds) (l:List AV) (Q:List V->Hp->Prop),DS K O h8 as σ H ds->F ds=some l->(∀vs H',i8 H H'->yQ K (n6 H' as O) σ vs l->Q vs H')->t σ H Q
structure qK(X:Cx)(es:List Expr)(t:TA)(F:Ds->Option (List AV)):Prop where
 p:PA X es t
 t:YE X.K t F
noncomputable def cz:Ds->Option (List AV):=λ_=>some []
noncomputable def G9(F:Ds->Option PV)(G:Ds->Option (List AV)):Ds->Option (List AV):=λds=>(F ds).bind λx=>(G ds).bind λl=>some (.d x.d::l)
noncomputable def eY(i:Nat)(G:Ds->Option (List AV)):Ds->Option (List AV):=λds=>match ds[i]? with
 |some (some (.ob _ _))=>(G ds).bind λl=>some (.s i::l)
 |_=>none
section
variable{X:Cx}{e:Expr}{es:List Expr}{te:TE}{t:TA}{F:Ds->Option PV}{Fl:Ds->Option (List AV)}
theorem Su:qK X [] mT cz:=⟨qg,by intro O h8 as σ H ds l Q S hf q;cases hf;exact q [] H (i8.refl H) .nil⟩
theorem NU(h:PX X true e te F)(k:qK X es t Fl)(hs:j6 (e::es) X.env=(false,eval e X.env)::j6 es X.env:=by rfl):qK X (e::es) (iK te t) (G9 F Fl):=⟨iw h.p k.p hs,by
 intro O h8 as σ H ds l Q S hf q;obtain⟨x,h1,hf⟩:=l9 hf;obtain⟨m,h2,hf⟩:=l9 hf;cases hf;refine h.t O h8 as σ H ds x _ S h1 λv H1 e1 r1=>?_
 refine k.t O h8 as σ H1 ds m _ (S.grow e1) h2 λvs H2 e2 r2=>?_
 exact q (v::vs) H2 (e1.trans e2) (.d ((r1.grow e2).dt (S.dm (fr:=true))) r2)⟩
theorem NT(i:Nat)(h:PE X e (O2 i))(k:qK X es t Fl)(hs:j6 (e::es) X.env=(false,eval e X.env)::j6 es X.env:=by rfl):qK X (e::es) (iK (O2 i) t) (eY i Fl):=⟨iw h k.p hs,by
 intro O h8 as σ H ds l Q S hf q;delta eY at hf;split at hf
 . rename_i w c hd;obtain⟨m,h2,hf⟩:=l9 hf;cases hf;obtain⟨v,R,e1,_⟩:=S.slot i _ hd;refine⟨_,e1,?_⟩;refine k.t O h8 as σ H ds m _ S h2 λvs H2 e2 r2=>?_
   exact q (_::vs) H2 e2 (.s e1 r2)
 . cases hf⟩
end
def mU(ds:Ds):List AV->Option (List PV)
 | []=>some []
 | .d x::l=>(mU ds l).bind λr=>some (.dat x::r)
 | .s i::l=>match ds[i]? with
  |some (some (.ob _ c))=>(mU ds l).bind λr=>some (.ob none c::r)
  |_=>none
def N3:List AV->List Nat
 | []=>[]
 | .d _::l=>N3 l
 | .s i::l=>i::N3 l
def GK:Option PV->Option (Option PV)->Option PV
 |some (.ob _ c),some (some (.ob w _))=>some (.ob w c)
 |_,_=>none
theorem Jv{x:Option PV}{o:Option (Option PV)}{pv:PV}(h:GK x o=some pv):∃w c w0 c0,o=some (some (.ob w c0))/\x=some (.ob w0 c)/\pv=.ob w c:=by
 delta GK at h;split at h
 . rename_i w0 c w c0;cases h;exact⟨w,c,w0,c0,rfl,rfl,rfl⟩
 . cases h
def bH:List AV->Ds->Ds->Ds
 | .s i::l,x::r,ds=>bH l r (ds.set i (GK x ds[i]?))
 | .d _::l,_::r,ds=>bH l r ds
 |_,_,ds=>ds
def gy:List AV->Nat->Option Nat
 | [],_=>none
 | .d _::l,j=>(gy l j).map (· + 1)
 | .s i::l,j=>if i=j then some 0 else(gy l j).map (· + 1)
theorem ji:∀{l:List AV} {j k:Nat},gy l j=some k->l[k]? = some (.s j)
 | [],j,k,h=>by cases h
 | .d x::l,j,k,h=>by simp only[gy,CJ]at h;obtain⟨m,h1,rfl⟩:=h;rw[P7];exact ji h1
 | .s i::l,j,k,h=>by
  simp only[gy]at h;split at h
  . rename_i e;cases h;rw[e];rfl
  . simp only[CJ]at h;obtain⟨m,h1,rfl⟩:=h;rw[P7];exact ji h1
theorem ax:∀{l:List AV} {j:Nat},j∈N3 l ↔ ∃k:Nat,l[k]? = some (AV.s j)
 | [],j=>by simp[N3]
 | .d x::l,j=>by
  rw[N3,ax];constructor
  . rintro⟨k,h⟩;exact⟨k+1,by rw[P7];exact h⟩
  . rintro⟨k,h⟩;cases k with
    |zero=>simp at h
    |succ k=>exact⟨k,by rw[P7]at h;exact h⟩
 | .s i::l,j=>by
  rw[N3,BR,ax];constructor
  . rintro(h|⟨k,h⟩)
    . exact⟨0,by rw[h];rfl⟩
    . exact⟨k+1,by rw[P7];exact h⟩
  . rintro⟨k,h⟩;cases k with
    |zero =>
     have h':i=j:=by simpa using h
     exact .inl h'.symm
    |succ k=>exact .inr ⟨k,by rw[P7]at h;exact h⟩
theorem iq:∀{l:List AV} {j k:Nat},(N3 l).Nodup->l[k]? = some (.s j)->gy l j=some k
 | [],j,k,_,h=>by simp at h
 | .d x::l,j,k,n,h=>by
  cases k with
  |zero=>simp at h
  |succ k =>
   rw[P7]at h;simp only[gy,iq (l:=l) n h,jC]
 | .s i::l,j,k,n,h=>by
  rw[N3,La]at n;cases k with
  |zero =>
   have h':i=j:=by simpa using h
   simp[gy,h']
  |succ k =>
   rw[P7]at h;have hij:i≠j:=λz=>n.1 (ax.mpr ⟨k,by rw[z];exact h⟩)
   simp only[gy,e9 hij,iq (l:=l) n.2 h,jC]
theorem Bs{K:i9}{Hv:Hp}{σ:St}{ds:Ds}:∀{vs:List V} {l:List AV} {args:List PV},yQ K Hv σ vs l->mU ds l=some args->vs.length=l.length/\args.length=l.length/\∀(k:Nat) (pv:PV),args[k]? = some pv ->
  (∃x v,l[k]? = some (AV.d x)/\pv=.dat x/\vs[k]? = some v/\Dt K Hv v x)\/∃i w c v,l[k]? = some (AV.s i)/\ds[i]? = some (some (.ob w c))/\pv=.ob none c/\vs[k]? = some v/\σ[i]? = some (some v)
 |_,_,args,.nil,h=>by cases h;exact⟨rfl,rfl,λk pv h=>by simp at h⟩
 |_,_,args,.d (v:=v) (x:=x) (vs:=vs) (l:=l) hd t,h=>by
  rw[mU]at h;obtain⟨r,h1,h⟩:=l9 h;cases h;obtain⟨i1,i2,i3⟩:=Bs t h1;refine⟨by simp[i1],by simp[i2],λk pv h=>?_⟩
  cases k with
  |zero =>
   have h':PV.dat x=pv:=by simpa using h
   exact .inl ⟨x,v,rfl,h'.symm,rfl,hd⟩
  |succ k =>
   rw[P7]at h;simp only[P7];exact i3 k pv h
 |_,_,args,.s (v:=v) (i:=i) (vs:=vs) (l:=l) hd t,h=>by
  rw[mU]at h;split at h
  . rename_i w c hi;obtain⟨r,h1,h⟩:=l9 h;cases h;obtain⟨i1,i2,i3⟩:=Bs t h1;refine⟨by simp[i1],by simp[i2],λk pv h=>?_⟩
    cases k with
    |zero =>
     have h':PV.ob none c=pv:=by simpa using h
     exact .inr ⟨i,w,c,v,rfl,hi,h'.symm,rfl,hd⟩
    |succ k =>
     rw[P7]at h;simp only[P7];exact i3 k pv h
  . cases h
theorem tw:∀{l:List AV} {ds' ds:Ds},(bH l ds' ds).length=ds.length
 | [],_,_=>by simp[bH]
 | .d _::l,x::r,ds=>by rw[bH];exact tw
 | .d _::l,[],ds=>by simp[bH]
 | .s i::l,[],ds=>by simp[bH]
 | .s i::l,x::r,ds=>by rw[bH,tw,Cf]
theorem tD:∀{l:List AV} {ds' ds:Ds} {j:Nat} {pv:PV},(N3 l).Nodup->ds'.length=l.length->(bH l ds' ds)[j]? = some (some pv) ->
  (j∉N3 l/\ds[j]? = some (some pv))\/∃(k:Nat) (w:Option Addr) (c:OD) (w0:Option Addr) (c0:OD),l[k]? = some (AV.s j)/\ds[j]? = some (some (.ob w c0))/\ds'[k]? = some (some (.ob w0 c))/\pv=.ob w c
 | [],_,ds,j,pv,_,_,h=>.inl ⟨by simp[N3],by simpa [bH]using h⟩
 | .d x::l,[],ds,j,pv,n,hl,h=>by simp at hl
 | .s x::l,[],ds,j,pv,n,hl,h=>by simp at hl
 | .d x::l,y::r,ds,j,pv,n,hl,h=>by
  rw[bH]at h;rcases tD (l:=l) n (by simpa using hl) h with h|⟨k,w,c,w0,c0,h1,h2,h3,h4⟩
  . exact .inl h
  . exact .inr ⟨k+1,w,c,w0,c0,by rw[P7];exact h1,h2,by rw[P7];exact h3,h4⟩
 | .s i::l,y::r,ds,j,pv,n,hl,h=>by
  rw[N3,La]at n;rw[bH]at h;rcases tD (l:=l) n.2 (by simpa using hl) h with ⟨h1,h2⟩|⟨k,w2,c2,w0,c0,h1,h2,h3,h4⟩
  . by_cases hij:i=j
    . subst hij;rw[qX,c7 rfl]at h2;split at h2
      . obtain⟨w,c,w0,c0,e1,e2,e3⟩:=Jv (ar h2);exact .inr ⟨0,w,c,w0,c0,rfl,e1,by rw[e2];rfl,e3⟩
      . cases h2
    . rw[fh hij]at h2;exact .inl ⟨by rw[N3,BR];exact λz=>z.elim (λz=>hij z.symm) h1,h2⟩
  . have hij:i≠j:=λz=>n.1 (ax.mpr ⟨k,by rw[z];exact h1⟩)
    rw[fh hij]at h2;exact .inr ⟨k+1,w2,c2,w0,c0,by rw[P7];exact h1,h2,by rw[P7];exact h3,h4⟩
theorem JX{H:Hp}{as bs:As}{O P:List Addr}(h:∀b,(b∈O\/some b∈as)↔(b∈P\/some b∈bs)):n6 H as O=n6 H bs P:=by
 funext b
 delta n6;by_cases c:b∈O\/some b∈as
 . rw[c7 c,c7 ((h b).mp c)]
 . rw[e9 c,e9 λz=>c ((h b).mpr z)]
section
variable{K:i9}{O:List Addr}{h8 H:Hp}{as:As}{σ:St}{ds:Ds}
theorem DS.QM(S:DS K O h8 as σ H ds){vs:List V}{l:List AV}{args:List PV}(ha:yQ K (n6 H as O) σ vs l)(hp:mU ds l=some args)(hn:(N3 l).Nodup):
  ∃Oc Hc ac,DS K Oc Hc ac (vs.map some) H (args.map some)/\∀as' Hm ds',DS K Oc Hc as' (vs.map some) Hm ds'->∃as2,DS K O h8 as2 σ Hm (bH l ds' ds)/\∀H' v pv,i8 Hm H'->RX K Oc as' Hm H' v pv->RX K O as2 Hm H' v pv:=by
 obtain⟨rg,r1,r2,r3⟩:=S.gx;obtain⟨l1,l2,l3⟩:=Bs ha hp;have hRI:∀b,b∈(N3 l).flatMap rg ↔ ∃i∈N3 l,b∈rg i:=λb=>List.mem_flatMap
 generalize hR:(N3 l).flatMap rg=RI at hRI;generalize hT:(as.filterMap id).filter (λb=>decide (b∉RI))=RT
 have hRT:∀b,b∈RT↔some b∈as/\b∉RI:=λb=>by
  rw[<-hT,List.mem_filter,wm,nY];constructor
  . rintro⟨⟨x,h1,h2⟩,h3⟩;have h2':x=some b:=h2;rw[h2']at h1;exact⟨h1,h3⟩
  . rintro⟨h1,h3⟩;exact⟨⟨_,h1,rfl⟩,h3⟩
 have RIas:∀b,b∈RI->some b∈as:=λb hb=>by obtain⟨i,_,h⟩:=(hRI b).mp hb;exact r1 i b h
 have mm:∀(R:List Addr) (b:Addr),some b∈R.map some↔b∈R:=λR b=>by rw[mem_map];exact⟨λ⟨x,h,e⟩=>by cases e;exact h,λh=>⟨b,h,rfl⟩⟩
 have hc:∀b o,n6 H (RI.map some) [] b=some o↔b∉RI/\H b=some o:=λb o=>by rw[F4,mm];exact⟨λ⟨_,h⟩=>h,λh=>⟨by simp,h⟩⟩
 have e0:∀H,n6 H (RI.map some) (O++RT)=n6 H as O:=λH=>JX λb=>by
  rw[mm,jD,hRT];constructor
  . rintro((h|⟨h,_⟩)|h)
    . exact .inl h
    . exact .inr h
    . exact .inr (RIas b h)
  . rintro(h|h)
    . exact .inl (.inl h)
    . by_cases c:b∈RI
      . exact .inr c
      . exact .inl (.inr ⟨h,c⟩)
 refine⟨O++RT,n6 H (RI.map some) [],RI.map some,⟨?_,o9,λa h=>?_,λa h=>?_,λk=>match l[k]? with|some (.s i)=>rg i|_=>[],λk b h=>?_,λk k' b h h'=>?_,λk pv h=>?_⟩,?_⟩
 . simp[l1,l2]
 . rw[mm]at h;exact⟨by delta n6;rw[c7 (.inr ((mm _ _).mpr h))],(S.new a (RIas a h)).2⟩
 . rcases List.mem_append.mp h with h|h
   . obtain⟨o,z⟩:=S.cL a h;exact⟨o,(hc a o).mpr ⟨λq=>S.nO (RIas a q) h,S.same _ _ z⟩⟩
   . obtain⟨h1,h2⟩:=(hRT a).mp h;obtain⟨_,u,z⟩:=S.new a h1;exact⟨_,(hc a _).mpr ⟨h2,z⟩⟩
 . dsimp only at h;split at h
   . rename_i i hi;rw[mm,hRI];exact⟨i,ax.mpr ⟨k,hi⟩,h⟩
   . simp at h
 . dsimp only at h h';split at h
   . rename_i i hi;split at h'
     . rename_i i' hi';have:=r2 i i' b h h';subst this;have q1:=iq hn hi;rw[iq hn hi']at q1;exact(ar q1).symm
     . simp at h'
   . simp at h
 . rw[Q6]at h;cases hk:args[k]? with
   |none=>rw[hk]at h;cases h
   |some pv0 =>
    rw[hk]at h;have h':pv0=pv:=by simpa using h
    subst h';rcases l3 k pv0 hk with ⟨x,v,z1,rfl,z3,z4⟩|⟨i,w,c,v,z1,z2,rfl,z3,z4⟩
    . exact⟨v,by rw[Q6,z3];rfl,by rw[e0];exact z4⟩
    . dsimp only;rw[z1];obtain⟨v',R,y1,y2,y3,y4⟩:=r3 i _ z2;rw[z4]at y1;have y1':v=.ref v':=by simpa using y1
      subst y1';exact⟨v',R,by rw[Q6,z3];rfl,.inl rfl,y3,by rw[e0];exact y4⟩
 intro as' Hm ds' S';obtain⟨rg',q1,q2,q3⟩:=S'.gx;have hl':ds'.length=l.length:=by have:=S'.ls;simp at this;lia
 have na:∀b,some b∈as'->b∉O/\b∉RT/\h8 b=none:=λb hb=>by
  have z:=(S'.new b hb).1;refine⟨λq=>?_,λq=>?_,?_⟩
  . obtain⟨o,y⟩:=S.cL b q;rw[(hc b o).mpr ⟨λq'=>S.nO (RIas b q') q,S.same _ _ y⟩]at z
    cases z
  . obtain⟨h1,h2⟩:=(hRT b).mp q;obtain⟨_,u,y⟩:=S.new b h1;rw[(hc b _).mpr ⟨h2,y⟩]at z;cases z
  . cases y:h8 b with
    |none=>rfl
    |some o =>
     rw[(hc b o).mpr ⟨λq'=>?_,S.same _ _ y⟩]at z
     . cases z
     . rw[(S.new b (RIas b q')).1]at y;cases y
 have e1:∀(H:Hp) (xs:As),n6 H (xs++as') (O++RT)=n6 H (xs++(as'++RT.map some)) O:=λH xs=>JX λb=>by
  rw[jD,jD,jD,jD,mm];constructor
  . rintro((h|h)|h|h)
    . exact .inl h
    . exact .inr (.inr (.inr h))
    . exact .inr (.inl h)
    . exact .inr (.inr (.inl h))
  . rintro(h|h|h|h)
    . exact .inl (.inl h)
    . exact .inr (.inl h)
    . exact .inr (.inr h)
    . exact .inl (.inr h)
 have e2:∀H:Hp,n6 H as' (O++RT)=n6 H (as'++RT.map some) O:=λH=>e1 H []
 have sm:i8 (n6 H as O) (n6 Hm (as'++RT.map some) O):=eh λb o h1 h2 h3=>by
  have hb:b∉RI:=λz=>h2 (RIas b z)
  refine⟨h1,λz=>?_,S'.same _ _ ((hc b o).mpr ⟨hb,h3⟩)⟩
  rcases List.mem_append.mp z with z|z
  . have:=(S'.new b z).1;rw[(hc b o).mpr ⟨hb,h3⟩]at this;cases this
  . exact h2 ((hRT b).mp ((mm _ _).mp z)).1
 refine⟨as'++RT.map some,⟨by rw[tw];exact S.ls,λb o h=>S'.same _ _ ((hc b o).mpr ⟨λq'=>?_,S.same _ _ h⟩),λb h=>?_,S.cL,λj=>match gy l j with|some k=>rg' k|none=>rg j,λj b h=>?_,λj j' b h h'=>?_,λj pv h=>?_⟩,λH' v pv s r=>?_⟩
 . rw[(S.new b (RIas b q')).1]at h;cases h
 . rcases List.mem_append.mp h with h|h
   . exact⟨(na b h).2.2,(S'.new b h).2⟩
   . obtain⟨h1,h2⟩:=(hRT b).mp ((mm _ _).mp h);obtain⟨z,u,y⟩:=S.new b h1;exact⟨z,u,S'.same _ _ ((hc b _).mpr ⟨h2,y⟩)⟩
 . dsimp only at h;split at h
   . exact iV _ (q1 _ b h)
   . rename_i hj;refine L6 _ ((mm _ _).mpr ((hRT b).mpr ⟨r1 j b h,λz=>?_⟩))
     obtain⟨i,hi,z⟩:=(hRI b).mp z;have:=r2 i j b z h;subst this;obtain⟨k,hk⟩:=ax.mp hi;rw[iq hn hk]at hj;cases hj
 . have no:∀(j j' k:Nat),gy l j=some k->gy l j'=none->b∈rg' k->b∈rg j'->False:=λj j' k hj hj' hb hb'=>by
     have z:=q1 k b hb;have:b∉RI:=λz=>by obtain⟨i,hi,z⟩:=(hRI b).mp z;have:=r2 i j' b z hb';subst this;obtain⟨k,hk⟩:=ax.mp hi;rw[iq hn hk]at hj';cases hj'
     exact(na b z).2.1 ((hRT b).mpr ⟨r1 j' b hb',this⟩)
   dsimp only at h h';split at h
   . rename_i k hk;split at h'
     . rename_i k' hk';have:=q2 k k' b h h';subst this;have z1:=ji hk;rw[ji hk']at z1;cases z1;rfl
     . rename_i hk';exact(no j j' k hk hk' h h').elim
   . rename_i hk;split at h'
     . rename_i k' hk';exact(no j' j k' hk' hk h' h).elim
     . exact r2 j j' b h h'
 . rcases tD hn hl' h with ⟨h1,h2⟩|⟨k,w,c,w0,c0,h1,h2,h3,rfl⟩
   . have:gy l j=none:=by
       cases z:gy l j with
       |none=>rfl
       |some k=>exact absurd (ax.mpr ⟨k,ji z⟩) h1
     dsimp only;rw[this];refine(r3 j pv h2).yf sm (λb hb o z=>S'.same _ _ ((hc b o).mpr ⟨λq=>?_,z⟩)) λb z=>z
     obtain⟨i,hi,y⟩:=(hRI b).mp q;have e:=r2 i j b y hb;subst e;exact h1 hi
   . dsimp only;rw[iq hn h1];obtain⟨v',R,y1,y2,y3,y4⟩:=q3 k _ h3;obtain⟨v0,R0,x1,x2,_⟩:=r3 j _ h2;have hk:k<args.length:=by rw[l2];exact(List.getElem?_eq_some_iff.mp h1).1
     rcases l3 k _ (J3 hk)with ⟨x,v,z1,_⟩|⟨i,w',c',v,z1,z2,z3,z4,z5⟩
     . rw[h1]at z1;cases z1
     . rw[h1]at z1;cases z1;rw[Q6,z4]at y1;have y1':v=.ref v':=by simpa using y1
       subst y1';rw[z5]at x1;have x1':v'=v0:=by simpa using x1
       subst x1';exact⟨v',R,z5,x2,y3,by rw[<-e2];exact y4⟩
 . cases pv with
   |dat d =>
    have r':Dt K (n6 H' as' (O++RT)) v d:=r;rw[e2]at r';exact r'
   |own l =>
    obtain⟨a,xs,y1,y2,y3,y4⟩:=r;refine⟨a,xs,y1,y2,y3,?_⟩;have:=e1 H' [some a];rw[show(some a::(as'++RT.map some):As)=[some a]++(as'++RT.map some)from rfl,<-this]
    exact y4
   |ob w c =>
    obtain⟨o,R,y1,y2,y3,y4⟩:=r;refine⟨o,R,y1,y2,y3,?_⟩;rw[<-e1 H' (R.map some)];exact y4
end
def Ww(K:i9)(te:TE)(F:Ds->Option (PV×Ds)):Prop :=
 ∀(O:List Addr) (h8:Hp) (as:As) (σ:St) (H:Hp) (ds:Ds) (pv:PV) (ds':Ds) (Q:VK),DS K O h8 as σ H ds->F ds=some (pv,ds')->(∀as' Hm H' v,DS K O h8 as' σ Hm ds'->i8 Hm H'->RX K O as' Hm H' v pv->Q v H')->te σ H Q
structure sU(X:Cx)(e:Expr)(te:TE)(F:Ds->Option (PV×Ds)):Prop where
 p:PE X e te
 t:Ww X.K te F
noncomputable def gD(f:List PV->Option (PV×Ds))(Fl:Ds->Option (List AV)):Ds->Option (PV×Ds):=λds=>(Fl ds).bind λl=>if (N3 l).Nodup then(mU ds l).bind λargs=>(f args).bind λr=>some (r.1,bH l r.2 ds)else none
section
variable{X:Cx}{e o:Expr}{es:List Expr}{te:TE}{t:TA}{F:Ds->Option PV}{FO:Ds->Option (PV×Ds)}{Fl:Ds->Option (List AV)}{pos pos' apos p:Pos}{f':List PV->Option (PV×Ds)}
theorem Mx(ha:qK X es t Fl):Ww X.K (ow (jg X.K f') [] E t) (gD f' Fl):=by
 intro O h8 as σ H ds pv ds' Q S hf q;obtain⟨l,h1,hf⟩:=l9 hf;split at hf
 . rename_i hn;obtain⟨args,h2,hf⟩:=l9 hf;obtain⟨⟨pv0,d0⟩,h3,hf⟩:=l9 hf;cases hf;refine ha.t O h8 as σ H ds l _ S h1 λvs H1 s1 r1=>?_
   obtain⟨Oc,Hc,ac,Sc,back⟩:=(S.grow s1).QM r1 h2 hn;rw[dJ];refine⟨Oc,Hc,ac,args,pv0,d0,Sc,h3,λas' Hm H' v S' s' r'=>?_⟩
   obtain⟨as2,S2,rr⟩:=back as' Hm d0 S';exact q as2 Hm H' v S2 s' (rr H' v pv0 s' r')
 . cases hf
theorem Nd{x:Str}(G:Y0 X.prog X.w X.K X.mg X.base CX k f fd ps (jg X.K f'))(hr:G7 k X.A)(hg:Gl X x)(hm:X.mg x=some (.ref f))(hk:iR X.K (.ref f)=true)(hb:Binds X.K fd ps [])(hx:Passes CX X E)
  (ha:qK X (e::es) t Fl) (hdb:(x==("__debug__" : Str))=false:=by decide) (he:j6 (e::es) X.env=(false,eval e X.env)::j6 es X.env:=by rfl) (hpl:(C9 pos (j6 es X.env)).any (·.1)=false:=by rfl) :
  sU X (.Call (.Name x p) (e::es) [] pos) (ow (jg X.K f') [] E t) (gD f' Fl):=⟨Es G hr hg hm hk hb .nil hx ha.p hdb he hpl,Mx ha⟩
noncomputable def G5(nm m:Str)(i:Nat)(f:List PV->Option (PV×Ds))(Fl:Ds->Option (List AV)):Ds->Option (PV×Ds):=λds=>(dS nm i ds).bind λx=>match q5 m x.2 with
 |none=>gD f (eY i Fl) ds
 |some _=>none
theorem Mw{i:Nat}(T:bz X.K nm C)(ha:qK X es t Fl):Ww X.K (ki C m (jg X.K f') [] E (O2 i) t) (G5 nm m i f' Fl):=by
 intro O h8 as σ H ds pv ds' Q S hf q;obtain⟨⟨w,fs⟩,h0,hf⟩:=l9 hf;have hd:=aN h0;have hf':(match q5 m fs with
  |none=>gD f' (eY i Fl) ds
  |some _=>none)=some (pv,ds'):=hf
 obtain⟨v,R,e1,_,hR,C',dx,fv,R',rfl,c1,c2,c3⟩:=S.slot i _ hd;have ec:=T.eq c1;subst ec;cases hl:q5 m fs with
 |some _=>rw[hl]at hf';cases hf'
 |none =>
  rw[hl]at hf';refine⟨_,e1,v,dx,fv,rfl,c2,c3.VB hl,?_⟩;obtain⟨l,h1,hf⟩:=l9 hf';delta eY at h1;rw[hd]at h1;obtain⟨l',h1f,h1'⟩:=l9 h1;cases h1';split at hf
  . rename_i hn;obtain⟨args,h2,hf⟩:=l9 hf;obtain⟨⟨pv0,d0⟩,h3,hf⟩:=l9 hf;cases hf;refine ha.t O h8 as σ H ds l' _ S h1f λvs H1 s1 r1=>?_
    obtain⟨Oc,Hc,ac,Sc,back⟩:=(S.grow s1).QM (.s e1 r1) h2 hn;rw[dJ];refine⟨Oc,Hc,ac,args,pv0,d0,Sc,h3,λas' Hm H' v S' s' r'=>?_⟩
    obtain⟨as2,S2,rr⟩:=back as' Hm d0 S';exact q as2 Hm H' v S2 s' (rr H' v pv0 s' r')
  . cases hf
theorem ip{i:Nat}(T:bz X.K nm C)(ho:PE X o (O2 i))(hm:Meth X.K C m f)(G:Y0 X.prog X.w X.K X.mg X.base CX k f fd ps (jg X.K f'))(hr:G7 k X.A)(hb:Binds X.K fd ps [])(hx:Passes CX X E)(ha:qK X (e::es) t Fl)
  (hst:j6 (e::es) X.env=(false,eval e X.env)::j6 es X.env:=by rfl) (hpl:(C9 pos (j6 es X.env)).any (·.1)=false:=by rfl)
  (ht:eval (.Call (.Attribute o m apos) (e::es) [] pos) X.env=(do
   let ov <- eval o X.env
   cc apos.atName
   let (f,first) <- holding [ov] (gM ov m pl)
   callWith pos f first (C9 pos (j6 (e::es) X.env)) (bq pos (dH [] X.env))):=by rfl) :
  sU X (.Call (.Attribute o m apos) (e::es) [] pos) (ki C m (jg X.K f') [] E (O2 i) t) (G5 nm m i f' Fl):=⟨Er ho T.cl hm G hr hb .nil hx ha.p hst hpl ht,Mw T ha⟩
theorem RL{fr:Bool}{Fo:Ds->Option PV}{fF:List c6->Option PV}(T:bz X.K nm C)(ho:PX X fr o to Fo)(hm:Meth X.K C m f)(G:Y0 X.prog X.w X.K X.mg X.base CX k f fd ps (A8 X.K fF))(hr:G7 k X.A)(hb:Binds X.K fd ps [])(hx:Passes CX X E)(ha:ek X fr (e::es) t Fd)
  (hst:j6 (e::es) X.env=(false,eval e X.env)::j6 es X.env:=by rfl) (hpl:(C9 pos (j6 es X.env)).any (·.1)=false:=by rfl)
  (ht:eval (.Call (.Attribute o m apos) (e::es) [] pos) X.env=(do
   let ov <- eval o X.env
   cc apos.atName
   let (f,first) <- holding [ov] (gM ov m pl)
   callWith pos f first (C9 pos (j6 (e::es) X.env)) (bq pos (dH [] X.env))):=by rfl) :
  PX X fr (.Call (.Attribute o m apos) (e::es) [] pos) (ki C m (A8 X.K fF) [] E to t) (K4 nm m fF Fo Fd):=⟨Er ho.p T.cl hm G hr hb .nil hx ha.p hst hpl ht,DW T ho ha⟩
theorem Ni{fr:Bool}{Fo:Ds->Option PV}{fF:List c6->Option PV}(T:bz X.K nm C)(ho:PX X fr o to Fo)(hm:Meth X.K C m f)(G:Y0 X.prog X.w X.K X.mg X.base CX k f fd ps (A8 X.K fF))(hr:G7 k X.A)(hb:Binds X.K fd ps [])(hx:Passes CX X E)
  (ht:eval (.Call (.Attribute o m apos) [] [] pos) X.env=(do
   let ov <- eval o X.env
   cc apos.atName
   let (f,first) <- holding [ov] (gM ov m pl)
   callWith pos f first (C9 pos (j6 [] X.env)) (bq pos (dH [] X.env))):=by rfl) :
  PX X fr (.Call (.Attribute o m apos) [] [] pos) (ki C m (A8 X.K fF) [] E to mT) (K4 nm m fF Fo c8):=⟨NQ ho.p T.cl hm G hr hb .nil hx ht,DW T ho Et⟩
noncomputable def J1(F:Ds->Option (PV×Ds)):Ds->Option Out:=λds=>(F ds).bind λr=>some (.next r.2)
noncomputable def lg:Ds->Option Out:=λds=>some (.retO (.dat .none) ds)
theorem IM(he:sU X e te FO)(hs:aJ e none pos.line X.env=pure false:=by rfl):M5 X (.Expr e pos) (zf te) (J1 FO):=⟨xa he.p hs,by intro O h8 as σ H ds D o S h q;obtain⟨⟨pv,d1⟩,e1,h⟩:=l9 h;cases h;exact he.t O h8 as σ H ds pv d1 _ S e1 λas' Hm H' v S' s' r'=>q _ _ _ (S'.grow s')⟩
theorem IK:M5 X (.Return none pos) Qa lg:=⟨Sg,by intro O h8 as σ H ds D o S h q;cases h;exact q as σ H H _ S (i8.refl H) Dt.non⟩
def GP:PV×Ds->Option OD
 |(.dat .none,some (.ob _ c)::_)=>some c
 |_=>none
theorem JC{r:PV×Ds}{c:OD}(h:GP r=some c):∃w d,r=(.dat .none,some (.ob w c)::d):=by
 delta GP at h;split at h
 . rename_i w c' d;cases h;exact⟨w,d,rfl⟩
 . cases h
noncomputable def rY(nm:Str)(f:List PV->Option (PV×Ds))(Fl:Ds->Option (List c6)):Ds->Option PV:=λds=>(Fl ds).bind λl=>(f (.ob none (.ins nm [])::l.map .dat)).bind λr=>(GP r).bind λc=>some (.ob none c)
theorem RM{x:Str}(T:bz X.K x C)(M:Mk X.K C f)(G:Y0 X.prog X.w X.K X.mg X.base CX k f fd ps (jg X.K f'))(hr:G7 (k+1) X.A)(hg:Gl X x)(hm:X.mg x=some (.ref C))(hb:Binds X.K fd ps [])(hx:Passes CX X E)
  (ha:ek X true (e::es) t Fd) (hdb:(x==("__debug__" : Str))=false:=by decide) (he:j6 (e::es) X.env=(false,eval e X.env)::j6 es X.env:=by rfl) (hpl:(C9 pos (j6 es X.env)).any (·.1)=false:=by rfl) :
  PX X true (.Call (.Name x p) (e::es) [] pos) (Qe C (jg X.K f') [] E t) (rY x f' Fd):=⟨So M G hr hg hm hb .nil hx ha.p hdb he hpl,by
 intro O h8 as σ H ds pv Q S hf q;obtain⟨l,h1,hf⟩:=l9 hf;obtain⟨r0,h2,hf⟩:=l9 hf;obtain⟨c,h3,hf⟩:=l9 hf;cases hf;obtain⟨w,dr,rfl⟩:=JC h3;refine ha.t O h8 as σ H ds l _ S h1 λvs H1 s1 r1=>λz dx hz hdx hne=>?_
 have S1:=S.grow s1;have nas:∀b,some b∈as->∃u,H1 b=some u:=λb hb=>let ⟨_,u,y⟩:=S1.new b hb;⟨_,y⟩
 generalize hT:as.filterMap id=RT;have hRT:∀b,b∈RT↔some b∈as:=λb=>by rw[<-hT,wm];exact⟨λ⟨x,h1,h2⟩=>by have h2':x=some b:=h2;rw[h2']at h1;exact h1,λh=>⟨_,h,rfl⟩⟩
 have sd:i8 H1 (upd H1 dx (.own z)):=i8.new hdx;have hzd:upd H1 dx (.own z) z=none:=by rw[C3 (λy=>hne y.symm)];exact hz
 have sz:i8 (upd H1 dx (.own z)) (upd (upd H1 dx (.own z)) z (.ins C dx [])):=i8.new hzd;have nz:∀b u,H1 b=some u->b≠z:=λb u h y=>by rw[y,hz]at h;cases h
 rw[dJ];refine⟨O++RT,upd H1 dx (.own z),[some z],_,_,_,?_,h2,λas' Hm H' v S' s' r'=>?_⟩
 . have hl:=r1.length;refine⟨by simp[hl],sz,λa h=>?_,λa h=>?_,λk=>if k=0 then[z]else[],λk b h=>?_,λk k' b h h'=>?_,λk pv h=>?_⟩
   . have:a=z:=by simpa using h
     subst this;exact⟨hzd,Cl.i C dx [],M3⟩
   . rcases List.mem_append.mp h with h|h
     . obtain⟨u,y⟩:=S1.cL a h;exact⟨u,sd _ _ (S1.same _ _ y)⟩
     . obtain⟨u,y⟩:=nas a ((hRT a).mp h);exact⟨u,sd _ _ y⟩
   . dsimp only at h;split at h
     . rw[mem_singleton.mp h];exact A2
     . simp at h
   . dsimp only at h h';split at h
     . split at h'
       . rename_i z1 z2;rw[z1,z2]
       . simp at h'
     . simp at h
   . cases k with
     |zero =>
      have h':PV.ob none (OD.ins x [])=pv:=by simpa using h
      rw[<-h'];exact⟨z,[z],rfl,.inl rfl,λb hb=>hb,C,dx,[],[],rfl,T.ns,M3,.nil⟩
     |succ k =>
      simp only[o6,P7,eU,Q6,CJ,Function.comp,Cq]at h;obtain⟨d,h3,rfl⟩:=h;obtain⟨v,y1,y2⟩:=r1.get h3;refine⟨v,by simp[y1],y2.same (eh λb o z1 z2 z3=>⟨λy=>?_,λy=>?_,sz _ _ (sd _ _ z3)⟩)⟩
      . rcases List.mem_append.mp y with y|y
        . exact z1 y
        . exact z2 ((hRT b).mp y)
      . have:b=z:=by simpa using y
        exact nz b o z3 this
 . obtain⟨v',R,y1,_,y2,y3⟩:=S'.slot 0 (.ob w c) rfl;have y1':z=v':=by simpa using y1
   subst y1';have ev:v=.non:=by cases r';rfl
   refine⟨ev,q _ H' (s1.trans ((sd.trans S'.same).trans s')) ⟨z,R,rfl,.inl rfl,λb hb=>?_,y3.same (eh λb o z1 z2 z3=>⟨λy=>z1 (iV _ y),λy=>?_,s' _ _ z3⟩) λb _ o y=>s' _ _ y⟩⟩
   . have:=(S'.new b (y2 b hb)).1;exact s1.free (sd.free this)
   . rcases List.mem_append.mp y with y|y
     . obtain⟨b',q1,q2⟩:=mem_map.mp y;cases q2;exact z2 (y2 b q1)
     . exact z1 (L6 _ ((hRT b).mpr y))⟩
end
end
section
variable{Fc:Ds->Option Bool}{G:Ds->Option Out}{ds:Ds}{o:Out}{m:Nat}{E Q:e8->i5->Prop}
section
variable{X:Cx}{K':i9}{fr:Bool}{i k:Nat}{o e b:Expr}{es:List Expr}{to tb:TE}{t:TA}{F Fo Fb:Ds->Option PV}{Fd:Ds->Option (List c6)}{nm f m:Str}{C g:Addr}{fd:M7}{ps:List Str}{pos pos' apos cpos:Pos}{CX:mO}{E:XK}{pl:Sem Bool}{fF:List c6->Option PV}
theorem Nk(eK:X.K=K')(T:bz K' nm C)(n:V6 K' C f)(h:PX X fr o to F)(hb:aZ o f X.env (eval o X.env)=eval o X.env:=by rfl):PX X fr (.Attribute o f pos) (ou K' to f) (A1 nm f F):=by subst eK;exact RO T n h hb
theorem Nh(eK:X.K=K')(T:bz K' nm C)(n:V6 K' C f)(h:PE X o (O2 i))(hb:aZ o f X.env (eval o X.env)=eval o X.env:=by rfl):PX X fr (.Attribute o f pos) (ou K' (O2 i) f) (F6 nm i f):=by subst eK;exact RK T n h hb
theorem RJ(eK:X.K=K')(T:bz K' nm C)(n:V6 K' C f)(h:PE X o (O2 i))(hb:PX X fr b tb Fb)(hbs:aZ o f X.env (eval o X.env)=eval o X.env:=by rfl)(hs:sh b:=by intro _ _;rfl):PX X fr (.Subscript (.Attribute o f apos) b pos) (pV (IB K') (ou K' (O2 i) f) tb) (gC nm i f Fb):=by subst eK;exact UM T n h hb hbs hs
theorem tq(eK:X.K=K')(T:bz K' nm C)(ho:PX X fr o to Fo)(hm:Meth K' C m g)(G:Y0 X.prog X.w K' X.mg X.base CX k g fd ps (A8 K' fF))(hr:G7 k X.A)(hb:Binds K' fd ps [])(hx:Passes CX X E)(ha:ek X fr (e::es) t Fd)
  (hst:j6 (e::es) X.env=(false,eval e X.env)::j6 es X.env:=by rfl) (hpl:(C9 pos (j6 es X.env)).any (·.1)=false:=by rfl)
  (ht:eval (.Call (.Attribute o m apos) (e::es) [] pos) X.env=(do
   let ov <- eval o X.env
   cc apos.atName
   let (f,first) <- holding [ov] (gM ov m pl)
   callWith pos f first (C9 pos (j6 (e::es) X.env)) (bq pos (dH [] X.env))):=by rfl) :
  PX X fr (.Call (.Attribute o m apos) (e::es) [] pos) (ki C m (A8 K' fF) [] E to t) (K4 nm m fF Fo Fd):=by subst eK;exact RL T ho hm G hr hb hx ha hst hpl ht
theorem ID(eK:X.K=K')(T:bz K' nm C)(ho:PX X fr o to Fo)(hm:Meth K' C m g)(G:Y0 X.prog X.w K' X.mg X.base CX k g fd ps (A8 K' fF))(hr:G7 k X.A)(hb:Binds K' fd ps [])(hx:Passes CX X E)
  (ht:eval (.Call (.Attribute o m apos) [] [] pos) X.env=(do
   let ov <- eval o X.env
   cc apos.atName
   let (f,first) <- holding [ov] (gM ov m pl)
   callWith pos f first (C9 pos (j6 [] X.env)) (bq pos (dH [] X.env))):=by rfl) :
  PX X fr (.Call (.Attribute o m apos) [] [] pos) (ki C m (A8 K' fF) [] E to mT) (K4 nm m fF Fo c8):=by subst eK;exact Ni T ho hm G hr hb hx ht
end
def GO(Fc:Ds->Option Bool)(G:Ds->Option Out):Ds->Nat:=λds=>open Classical in if h:∃m,∃o,E4 Fc G m ds=some o then h.choose else 0
theorem mQ{Fc:Ds->Option Bool}{G:Ds->Option Out}:∀{m:Nat} {ds:Ds} {o:Out},E4 Fc G m ds=some o->E4 Fc G (m+1) ds=some o
 | 0,ds,o,h=>by cases h
 |m+1,ds,o,h=>by
  rw[E4]at h ⊢;obtain⟨b,h1,h⟩:=l9 h;rw[h1];simp only[j4];cases b with
  |false=>exact h
  |true =>
   rw[c7 rfl]at h ⊢;obtain⟨r,h2,h⟩:=l9 h;rw[h2];simp only[j4];cases r with
   |next ds2=>exact mQ h
   |cont ds2=>exact mQ h
   |brk ds2=>exact h
   |ret pv=>exact h
   |up x=>exact h
   |retO pv ds2=>exact h
theorem xO(h:E4 Fc G m ds=some o)(n:Nat):E4 Fc G (m+n) ds=some o:=by
 induction n with
 |zero=>exact h
 |succ n ih=>exact mQ ih
theorem Ho(h:E4 Fc G m ds=some o):ej (GO Fc G) Fc G ds=some o:=by have hx:∃m,∃o,E4 Fc G m ds=some o:=⟨m,o,h⟩;delta ej GO;rw[dif_pos hx];obtain⟨o',h'⟩:=hx.choose_spec;rw[h'];have e1:=xO h' m;have e2:=xO h hx.choose;rw[Nat.add_comm]at e2;rw[e1]at e2;exact e2
theorem mul_list{prog:A6}{w:t7}{A:A5}{E:e8->i5->Prop}{s:i5}{l:Addr}{vs:List e8}{x:Int}{u:Tok}(hl:s.heap.IsList l vs.toArray)(hlo : -(2 ^ 63:Int)<=x)(hhi:x<2 ^ 63)(hsz:vs.length*x.toNat<=100000)
  (h:Q (.ref s.heap.objs.size) {s with heap:=s.heap.push {cls:=nN "list",data:=Data.seq (v9 x.toNat vs).flatten.toArray}}):wpAny (model prog w) A (ak .Mult (.ref l) (.int x u)) Q E s:=by
 obtain⟨⟨cls,d,data,sl⟩,ho,hcl,k,hd⟩:=id hl;simp only at hcl hd;subst hcl hd;have hsz':vs.toArray.size*x.toNat<=100000:=by simpa using hsz
 refine wpAny_binaryOp_repeat_ref (T:="list") (U:="int") (by decide) ⟨_,ho,rfl⟩ (λs'=>typeIs_int s' x u) noFill_list_mul F.fills_int_mul F.slot_int_rmul repeat_list F.slot_int_index.lookup
  (vB F.slot_int_rmul (typeIs_int s x u) F.entry_int_rmul (F.args_int_rmul_2 _ _) (lm_int_rmul_list_any x u l vs.toArray k d sl)
   ⟨ho,rfl,⟨_,ho,rfl⟩,vB F.slot_list_mul ⟨_,ho,rfl⟩ F.entry_list_mul (F.args_list_mul_2 _ _)
    (lm_list_mul_any l vs.toArray k d sl x u (by simp[Builtin.List.listFitsIndex];lia) (by lia) (by simp[Builtin.List.listTooLong,B9];lia))
    ⟨ho,?_⟩⟩)
 rw[listMul_foldl_if];exact h
def Gh(K:i9):R2:=λx y H Q=>∃a xs j,x=.ref a/\y=.int j/\G6 K H a xs/\(-(2 ^ 62)<j/\j<2 ^ 62)/\xs.length*j.toNat<=100000/\∀p,H p=none->Q (.ref p) (upd H p (.lst (v9 j.toNat xs).flatten))
theorem zr{xs:List V}{us:List e8}(h:Vals xs us):∀n,Vals (v9 n xs).flatten (v9 n us).flatten
 | 0=>.nil
 |n+1=>by rw[wA,wA,wk,wk];exact h.append (zr h n)
theorem Sw{X:Cx}:O9 X (ak .Mult) (Gh X.K):=by
 intro pins s σ H x y v u Q I rx ry h;obtain⟨a,xs,j,rfl,rfl,hH,hj,hz,q⟩:=h;cases rx;obtain⟨t,rfl⟩:=ry;obtain⟨its,r,p1,z1⟩:=I.list hH;have hl:=r.length;refine mul_list p1.isList (by lia) (by lia) (by rw[<-hl];exact hz) ?_
 refine⟨.ref _,_,I.VJ (t':=s.toks) (zr r _) ?_,rfl,q _ I.fresh⟩;rw[List.length_flatten,List.map_replicate,List.sum_replicate_nat,nQ];exact P5 hz (pW (by decide))
def mB:c6->c6->Option PV
 | .list l,.int j=>if (0<=j/\j.toNat<=100000)/\l.length*j.toNat<=100000 then some (.own (v9 j.toNat l).flatten)else none
 |_,_=>none
theorem Fs{K:i9}{H:Hp}{xs:List V}{l:List c6}(h:q4 K H xs l):∀n,q4 K H (v9 n xs).flatten (v9 n l).flatten
 | 0=>.nil
 |n+1=>by rw[wA,wA,wk,wk];exact h.append (Fs h n)
theorem Tx{K:i9}:bE K (Gh K) mB:=by
 intro O va H x y d e pv Q D hx hy hf q;cases hx with
 |lst hs ht =>
  cases hy with
  |int j =>
   rename_i a xs l;have hf':(if (0<=j/\j.toNat<=100000)/\l.length*j.toNat<=100000 then some (PV.own (v9 j.toNat l).flatten)else none)=some pv:=hf
   split at hf'
   . rename_i hz;cases hf';exact⟨a,xs,j,rfl,rfl,o9.seq hs,by lia,by rw[ht.length];exact hz.2,λp hp=>q _ _ (i8.new hp) (gu hp (Fs ht _))⟩
   . cases hf'
  |_=>cases hf
 |_=>cases hf
end
def Nb(K:i9):R2:=λx y H Q=>(mr λi j=>.bl (decide (i<j))) x y H Q\/UC K x y H Q
theorem Vu{X:Cx}(hu:X.A.units+64<cLine):O9 X (S8 .Lt) (Nb X.K):=Gx.or (Vv (by lia))
def tM:c6->c6->Option PV
 | .int i,.int j=>some (.dat (.bool (decide (i<j))))
 | .tuple [.int i,.int j],.tuple [.int i2,.int j2]=>some (.dat (.bool (HT.lexLt [i,j] [i2,j2])))
 |_,_=>none
theorem WK{K:i9}:bE K (Nb K) tM:=by
 intro O va H x y d e pv Q D hx hy hf q;delta tM at hf;split at hf
 . cases hx;cases hy;cases hf;exact .inl ⟨_,_,rfl,rfl,q _ H (i8.refl H) (Dt.bl _)⟩
 . cases hf;cases hx with
   |tup hs ht =>
    cases hy with
    |tup hs2 ht2 =>
     cases ht with
     |cons a1 t1 =>
      cases t1 with
      |cons a2 t2 =>
       cases t2;cases a1;cases a2;cases ht2 with
       |cons b1 t1 =>
        cases t1 with
        |cons b2 t2 =>
         cases t2;cases b1;cases b2;exact .inr ⟨_,_,_,_,rfl,rfl,o9.cy hs,o9.cy hs2,q _ H (i8.refl H) (Dt.bl _)⟩
 . cases hf
end L2
namespace Sx
def sm:Nat->(Nat->Int)->Int
 | 0,_=>0
 |n+1,f=>sm n f+f n
theorem l8{n:Nat}{f g:Nat->Int}(h:∀i,i<n->f i=g i):sm n f=sm n g:=by
 induction n with
 |zero=>rfl
 |succ n ih=>rw[sm,sm,ih λi hi=>h i (by lia),h n (by lia)]
theorem fO{n:Nat}{f:Nat->Int}(h:∀i,i<n->f i=0):sm n f=0:=by
 induction n with
 |zero=>rfl
 |succ n ih=>rw[sm,ih λi hi=>h i (by lia),h n (by lia)];rfl
theorem gq(n:Nat)(f g:Nat->Int):sm n (λi=>f i+g i)=sm n f+sm n g:=by
 induction n with
 |zero=>rfl
 |succ n ih=>rw[sm,sm,sm,ih];lia
theorem C6(n:Nat)(a:Int)(f:Nat->Int):sm n (λi=>a*f i)=a*sm n f:=by
 induction n with
 |zero=>rw[sm,sm,J6]
 |succ n ih=>rw[sm,sm,ih,eO]
theorem Eb(n:Nat)(a:Int)(f:Nat->Int):sm n (λi=>f i*a)=sm n f*a:=by rw[D3,<-C6];exact l8 λi _=>D3 _ _
theorem O6{n k:Nat}{f:Nat->Int}(hk:k<n)(h:∀i,i<n->i≠k->f i=0):sm n f=f k:=by
 induction n with
 |zero=>lia
 |succ n ih =>
  rw[sm];by_cases c:k=n
  . subst c;rw[fO λi hi=>h i (by lia) (by lia)]
    lia
  . rw[ih (by lia) λi hi hk=>h i (by lia) hk,h n (by lia) λz=>c z.symm]
    lia
theorem Uo{n k:Nat}{f:Nat->Int}(hk:k+1<n)(h:∀i,i<n->i≠k->i≠k+1->f i=0):sm n f=f k+f (k+1):=by
 induction n with
 |zero=>lia
 |succ n ih =>
  rw[sm];by_cases c:k+1=n
  . subst c;rw[O6 (k:=k) (by lia) λi hi hk=>h i (by lia) hk (by lia)]
  . rw[ih (by lia) λi hi h1 h2=>h i (by lia) h1 h2,h n (by lia) (by lia) λz=>c z.symm]
    lia
theorem nc(n m:Nat)(f:Nat->Nat->Int):sm n (λi=>sm m λj=>f i j)=sm m λj=>sm n λi=>f i j:=by
 induction n with
 |zero=>rw[sm];exact(fO λ_ _=>rfl).symm
 |succ n ih =>
  rw[sm,ih,<-gq];exact l8 λj _=>by rw[sm]
theorem gp(n:Nat)(f g:Nat->Int):sm n (λi=>f i-g i)=sm n f-sm n g:=by
 have e:(λi=>f i-g i)=λi=>f i+(-1)*g i:=by funext i;lia
 rw[e,gq,C6];lia
theorem uk{n k:Nat}(f:Nat->Int)(hk:k<n):sm n f=f k+sm n λi=>if i=k then 0 else f i:=by
 have:sm n f=sm n λi=>(if i=k then f k else 0)+(if i=k then 0 else f i):=l8 λi _=>by
  by_cases c:i=k
  . rw[c7 c,c7 c,c];lia
  . rw[e9 c,e9 c];lia
 rw[this,gq,O6 hk λi _ h=>by rw[e9 h],c7 rfl]
def skip(j c:Nat):Nat:=if c<j then c else c+1
def det:Nat->(Nat->Nat->Int)->Int
 | 0,_=>1
 |n+1,M=>sm (n+1) λj=>(-1) ^ j*M j 0*det n λc r=>M (skip j c) (r+1)
theorem Ry{j c n:Nat}(hj:j<n+1)(hc:c<n):skip j c<n+1:=by delta skip;split<;>lia
theorem Rx{j c:Nat}:skip j c≠j:=by delta skip;split<;>lia
theorem O8:∀{n:Nat} {M M':Nat->Nat->Int},(∀c r,c<n->r<n->M c r=M' c r)->det n M=det n M'
 | 0,_,_,_=>rfl
 |n+1,M,M',h=>by
  rw[det,det];refine l8 λj hj=>?_
  rw[h j 0 hj (by lia),O8 λc r hc hr=>h _ _ (Ry hj hc) (by lia)]
def v7(M:Nat->Nat->Int)(k:Nat)(v:Nat->Int):Nat->Nat->Int:=λc r=>if c=k then v r else M c r
theorem Z5(M:Nat->Nat->Int)(k:Nat)(v:Nat->Int)(r:Nat):v7 M k v k r=v r:=by delta v7;rw[c7 rfl]
theorem V1(M:Nat->Nat->Int){k c:Nat}(v:Nat->Int)(r:Nat)(h:c≠k):v7 M k v c r=M c r:=by delta v7;rw[e9 h]
def back(j k:Nat):Nat:=if k<j then k else k-1
theorem yb{j k:Nat}(h:k≠j):skip j (back j k)=k:=by
 delta back;by_cases c:k<j
 . rw[c7 c];delta skip;rw[c7 c]
 . rw[e9 c];delta skip;rw[e9 (by lia)];lia
theorem Tn{j k n:Nat}(hj:j<n+1)(hk:k<n+1)(h:k≠j):back j k<n:=by delta back;split<;>lia
theorem MM{j c d:Nat}(h:skip j c=skip j d):c=d:=by delta skip at h;split at h<;>split at h<;>lia
theorem nG:∀{n k:Nat} (M:Nat->Nat->Int) (a b:Int) (u v:Nat->Int),k<n->det n (v7 M k λr=>a*u r+b*v r)=a*det n (v7 M k u)+b*det n (v7 M k v)
 | 0,k,M,a,b,u,v,h=>by lia
 |n+1,k,M,a,b,u,v,h=>by
  rw[det,det,det,<-C6,<-C6,<-gq];refine l8 λj hj=>?_
  by_cases c:k=j
  . subst c;have e:∀w:Nat->Int,det n (λc r=>v7 M k w (skip k c) (r+1))=det n (λc r=>M (skip k c) (r+1)):=λw=>O8 λc r _ _=>V1 _ _ _ Rx
    rw[e,e,e,Z5,Z5,Z5];generalize det n _=D;generalize (-1:Int) ^ k=s;rw[eO,vE]
    congr 1
    . rw[<-G3,<-G3,<-G3,D3 s a]
    . rw[<-G3,<-G3,<-G3,D3 s b]
  . have e:∀w:Nat->Int,det n (λc r=>v7 M k w (skip j c) (r+1))=det n (v7 (λc r=>M (skip j c) (r+1)) (back j k) λr=>w (r+1)):=λw=>O8 λc' r _ _=>by
      delta v7;by_cases d:c'=back j k
      . rw[c7 d,d,yb c,c7 rfl]
      . rw[e9 d,e9 λz=>d (MM (j:=j) (by rw[z,yb c]))]
    rw[e,e,e,V1 _ _ _ (λz=>c z.symm),V1 _ _ _ (λz=>c z.symm),V1 _ _ _ (λz=>c z.symm),nG _ a b (λr=>u (r+1)) (λr=>v (r+1)) (Tn hj h c)]
    generalize det n _=D;generalize det n _=D';generalize (-1:Int) ^ j*M j 0=s;rw[eO]
    congr 1
    . rw[<-G3,<-G3,D3 s a]
    . rw[<-G3,<-G3,D3 s b]
theorem se:∀{n k:Nat} {M:Nat->Nat->Int},k+1<n->(∀r,r<n->M k r=M (k+1) r)->det n M=0
 | 0,k,M,h,_=>by lia
 |n+1,k,M,h,e=>by
  rw[det,Uo (k:=k) h]
  . have e2:det n (λc r=>M (skip k c) (r+1))=det n (λc r=>M (skip (k+1) c) (r+1)):=O8 λc r _ hr=>by
      by_cases d:c=k
      . subst d;rw[show skip c c=c+1 from by delta skip;rw[e9 (by lia)],show skip (c+1) c=c from by delta skip;rw[c7 (by lia)]]
        exact(e _ (by lia)).symm
      . rw[show skip k c=skip (k+1) c from by delta skip;split<;>split<;>lia]
    rw[e2,e 0 (by lia),Int.pow_succ]
    generalize det n _=D;generalize (-1:Int) ^ k=s;rw[Int.mul_neg_one,lH,lH];lia
  . intro j hj h1 h2;have:det n (λc r=>M (skip j c) (r+1))=0:=by
     by_cases c:j<k
     . refine se (k:=k-1) (by lia) λr hr=>?_
       rw[show skip j (k-1)=k from by delta skip;rw[e9 (by lia)];lia,show skip j (k-1+1)=k+1 from by delta skip;rw[e9 (by lia)];lia]
       exact e _ (by lia)
     . refine se (k:=k) (by lia) λr hr=>?_
       rw[show skip j k=k from by delta skip;rw[c7 (by lia)],show skip j (k+1)=k+1 from by delta skip;rw[c7 (by lia)]]
       exact e _ (by lia)
    rw[this,J6]
theorem kS(M:Nat->Nat->Int)(k:Nat):v7 M k (M k)=M:=by
 funext c r
 delta v7;by_cases h:c=k
 . rw[c7 h,h]
 . rw[e9 h]
theorem HX(M:Nat->Nat->Int)(k:Nat)(u v:Nat->Int):v7 (v7 M k u) k v=v7 M k v:=by
 funext c r
 delta v7;by_cases h:c=k
 . rw[c7 h,c7 h]
 . rw[e9 h,e9 h,e9 h]
theorem fk(M:Nat->Nat->Int){k l:Nat}(u v:Nat->Int)(h:k≠l):v7 (v7 M k u) l v=v7 (v7 M l v) k u:=by
 funext c r
 delta v7;by_cases h1:c=l
 . rw[c7 h1,e9 (by lia),c7 h1]
 . rw[e9 h1];by_cases h2:c=k
   . rw[c7 h2,c7 h2]
   . rw[e9 h2,e9 h2,e9 h1]
theorem xG{n k:Nat}(M:Nat->Nat->Int)(u v:Nat->Int)(h:k<n):det n (v7 M k λr=>u r+v r)=det n (v7 M k u)+det n (v7 M k v):=by have:=nG (n:=n) (k:=k) M 1 1 u v h;simpa using this
theorem sR{n i j:Nat}(hi:i<n)(hj:j<n)(hij:i≠j)(M:Nat->Nat->Int)(z:∀w,det n (v7 (v7 M i w) j w)=0)(u v:Nat->Int):det n (v7 (v7 M i u) j v) = - det n (v7 (v7 M i v) j u):=by
 have h:=z λr=>u r+v r
 rw[xG _ _ _ hj,fk _ _ _ hij,fk _ _ _ hij,xG _ _ _ hi,xG _ _ _ hi,fk _ _ _ hij.symm,fk _ _ _ hij.symm,fk _ _ _ hij.symm,fk _ _ _ hij.symm,z u,z v]at h;lia
theorem tV:∀(d:Nat) {n a:Nat} {M:Nat->Nat->Int},a+d+1<n->(∀r,r<n->M a r=M (a+d+1) r)->det n M=0
 | 0,n,a,M,h,e=>se h e
 |d+1,n,a,M,h,e=>by
  have hh:M=v7 (v7 M (a+d+1) (M (a+d+1))) (a+d+1+1) (M (a+d+1+1)):=by rw[kS,kS]
  rw[hh,sR (by lia) (by lia) (by lia) M (λw=>se (k:=a+d+1) (by lia) λr _=>by rw[V1 _ _ _ (by lia),Z5,Z5])]
  rw[tV d (a:=a) (by lia) λr hr=>?_]
  . rfl
  . rw[V1 _ _ _ (by lia),V1 _ _ _ (by lia),V1 _ _ _ (by lia),Z5]
    exact e r hr
theorem oY{n i j:Nat}{M:Nat->Nat->Int}(hi:i<n)(hj:j<n)(hij:i≠j)(e:∀r,r<n->M i r=M j r):det n M=0:=by
 rcases Nat.lt_or_ge i j with h|h
 . refine tV (j-i-1) (a:=i) (by lia) λr hr=>?_
   rw[show i+(j-i-1)+1=j from by lia]
   exact e r hr
 . refine tV (i-j-1) (a:=j) (by lia) λr hr=>?_
   rw[show j+(i-j-1)+1=i from by lia]
   exact(e r hr).symm
theorem OV{n i j:Nat}(hi:i<n)(hj:j<n)(hij:i≠j)(M:Nat->Nat->Int)(u v:Nat->Int):det n (v7 (v7 M i u) j v) = - det n (v7 (v7 M i v) j u) :=
 sR hi hj hij M (λw=>oY hi hj hij λr _=>by rw[V1 _ _ _ hij,Z5,Z5]) u v
theorem xD{n k:Nat}(M:Nat->Nat->Int)(h:k<n)(a:Nat->Int)(V:Nat->Nat->Int):∀m,det n (v7 M k λr=>sm m λi=>a i*V i r)=sm m λi=>a i*det n (v7 M k (V i))
 | 0=>by
  have:=nG (n:=n) M 0 0 (λ_=>0) (λ_=>0) h
  simp only[U6,lJ]at this;exact this
 |m+1=>by
  have:=nG (n:=n) M 1 (a m) (λr=>sm m λi=>a i*V i r) (V m) h
  simp only[dG]at this;show det n (v7 M k λr=>sm m (λi=>a i*V i r)+a m*V m r)=sm m (λi=>a i*det n (v7 M k (V i)))+a m*det n (v7 M k (V m))
  rw[this,xD M h a V m]
theorem xE:∀n,det n (λc r=>if c=r then 1 else 0)=1
 | 0=>rfl
 |n+1=>by
  rw[det,O6 (k:=0) (by lia)]
  . have e:det n (λc r=>if skip 0 c=r+1 then 1 else 0)=det n (λc r=>if c=r then 1 else 0):=O8 λc r _ _=>by
      rw[show skip 0 c=c+1 from by delta skip;rw[e9 (by lia)]]
      by_cases h:c=r
      . rw[c7 h,c7 (by lia)]
      . rw[e9 h,e9 (by lia)]
    rw[e,xE n,c7 rfl];rfl
  . intro j _ hj;rw[e9 hj,J6,U6]
def sN:Nat->(Nat->Nat)->Nat
 | 0,_=>0
 |n+1,f=>sN n f+f n
def pN:Nat->(Nat->Nat)->Nat
 | 0,_=>1
 |n+1,f=>pN n f*f n
theorem Iq(n:Nat)(f:Nat->Int):(sm n f).natAbs<=sN n λi=>(f i).natAbs:=by
 induction n with
 |zero=>exact o3 _
 |succ n ih =>
  rw[sm,sN];exact P5 (Cr _ _) (LL ih _)
theorem zh{n:Nat}{f g:Nat->Nat}(h:∀i,i<n->f i<=g i):sN n f<=sN n g:=by
 induction n with
 |zero=>exact o3 _
 |succ n ih=>exact Nat.add_le_add (ih λi hi=>h i (by lia)) (h n (by lia))
theorem Xi{n:Nat}{f g:Nat->Nat}(h:∀i,i<n->f i<=g i):pN n f<=pN n g:=by
 induction n with
 |zero=>exact o3 _
 |succ n ih=>exact vO (ih λi hi=>h i (by lia)) (h n (by lia))
theorem NW{n:Nat}{f g:Nat->Nat}(h:∀i,i<n->f i=g i):pN n f=pN n g:=by
 induction n with
 |zero=>rfl
 |succ n ih=>rw[pN,pN,ih λi hi=>h i (by lia),h n (by lia)]
theorem RD(n:Nat)(f:Nat->Nat):sN (n+1) f=f 0+sN n λi=>f (i+1):=by
 induction n with
 |zero=>rw[sN,sN,sN];lia
 |succ n ih=>rw[sN,ih,sN];lia
theorem RE(n a:Nat)(f:Nat->Nat):sN n (λi=>f i*a)=sN n f*a:=by
 induction n with
 |zero=>rw[sN,sN,Nat.zero_mul]
 |succ n ih=>rw[sN,sN,ih,BH]
theorem zS(x y:Nat->Nat):∀n,sN (n+1) (λj=>x j*pN n λc=>y (skip j c))<=pN (n+1) λc=>x c+y c
 | 0=>by simp[sN,pN]
 |n+1=>by
  rw[sN];have e1:sN (n+1) (λj=>x j*pN (n+1) λc=>y (skip j c))<=sN (n+1) λj=>(x j*pN n λc=>y (skip j c))*y (n+1):=zh λj hj=>by
   rw[pN,show skip j n=n+1 from by delta skip;rw[e9 (by lia)],BQ]
   exact o3 _
  rw[RE]at e1;have e2:pN (n+1) (λc=>y (skip (n+1) c))=pN (n+1) y:=NW λc hc=>by rw[show skip (n+1) c=c from by delta skip;rw[c7 hc]]
  have e3:pN (n+1) y<=pN (n+1) λc=>x c+y c:=Xi λc _=>by lia
  have e4:=zS x y n;rw[e2];refine P5 (LL e1 _) ?_;show _<=(pN (n+1) λc=>x c+y c)*(x (n+1)+y (n+1))
  rw[BG,Nat.add_comm,nQ (x (n+1))];exact Nat.add_le_add (pk _ e3) (pk _ e4)
theorem yG:∀(n:Nat) (M:Nat->Nat->Int),(det n M).natAbs<=pN n λc=>sN n λr=>(M c r).natAbs
 | 0,M=>by simp[det,pN]
 |n+1,M=>by
  rw[det];refine P5 (Iq _ _) ?_;have e:(λc=>sN (n+1) λr=>(M c r).natAbs)=λc=>(M c 0).natAbs+sN n λr=>(M c (r+1)).natAbs:=by funext c;rw[RD]
  rw[e];refine P5 (zh λj hj=>?_) (zS (λc=>(M c 0).natAbs) (λc=>sN n λr=>(M c (r+1)).natAbs) n)
  rw[aE,aE];have:((-1:Int) ^ j).natAbs=1:=by rw[Int.natAbs_pow];simp
  rw[this,Nat.one_mul];exact wz _ (yG n _)
end Sx
namespace Sx
structure Pb where
 m:Nat
 n:Nat
 A:Nat->Nat->Int
 b:Nat->Int
 u:Nat->Option Int
 c:Nat->Nat->Int
structure Tb where
 B:Nat->Nat
 full:Nat->Bool
 size:Int
 inv:Nat->Nat->Int
 pr:Nat->Nat->Int
 rt:Nat->Int
def dot(m:Nat)(x y:Nat->Int):Int:=sm m λr=>x r*y r
theorem jm{m:Nat}{x y x' y':Nat->Int}(h:∀r,r<m->x r=x' r)(h':∀r,r<m->y r=y' r):dot m x y=dot m x' y':=l8 λr hr=>by rw[h r hr,h' r hr]
theorem nF(m l:Nat)(x:Nat->Int)(a:Nat->Int)(V:Nat->Nat->Int):dot m x (λr=>sm l λi=>a i*V i r)=sm l λi=>a i*dot m x (V i):=by
 delta dot;have:sm m (λr=>x r*sm l λi=>a i*V i r)=sm m λr=>sm l λi=>a i*(x r*V i r):=l8 λr _=>by rw[<-C6];exact l8 λi _=>by rw[<-G3,<-G3,D3 (x r)]
 rw[this,nc];exact l8 λi _=>C6 _ _ _
theorem Fz(m:Nat)(a:Int)(x y:Nat->Int):dot m (λr=>a*x r) y=a*dot m x y:=by delta dot;rw[<-C6];exact l8 λr _=>G3 _ _ _
theorem tU(m:Nat)(a:Int)(x y:Nat->Int):dot m x (λr=>a*y r)=a*dot m x y:=by delta dot;rw[<-C6];exact l8 λr _=>by rw[<-G3,<-G3,D3 a]
theorem Fw(m:Nat)(x y z:Nat->Int):dot m x (λr=>y r-z r)=dot m x y-dot m x z:=by delta dot;rw[<-gp];exact l8 λr _=>Int.mul_sub _ _ _
def unit(q:Nat):Nat->Int:=λp=>if p=q then 1 else 0
theorem oX{m q:Nat}(x:Nat->Int)(h:q<m):dot m x (unit q)=x q:=by
 delta dot;rw[O6 h λi _ hi=>by delta unit;rw[e9 hi,J6]]
 delta unit;rw[c7 rfl,cq]
theorem HU{m p:Nat}(x:Nat->Int)(h:p<m):(sm m λq=>x q*unit q p)=x p:=by
 rw[O6 h λi _ hi=>by delta unit;rw[e9 (λz=>hi z.symm),J6]]
 delta unit;rw[c7 rfl,cq]
theorem HY{m k:Nat}{M:Nat->Nat->Int}{v w:Nat->Int}(h:∀p,p<m->v p=w p):det m (v7 M k v)=det m (v7 M k w):=O8 λc r _ hr=>by
 delta v7;split
 . exact h r hr
 . rfl
def Tb.M(P:Pb)(T:Tb):Nat->Nat->Int:=λk=>P.A (T.B k)
structure H9(P:Pb)(T:Tb):Prop where
 bn:∀k,k<P.m->T.B k<P.n
 inj:∀k l,k<P.m->l<P.m->T.B k=T.B l->k=l
 sg:∃s:Int,(s=1\/s = -1)/\s*T.size=det P.m (T.M P)/\∀r,r<P.m->∀x,s*dot P.m (T.inv r) x=det P.m (v7 (T.M P) r x)
 pos:0<T.size
 span:∀p q,p<P.m->q<P.m->sm P.m (λk=>T.inv k q*P.A (T.B k) p)=if p=q then T.size else 0
 pr:∀t q,q<P.m->T.pr t q=sm P.m λk=>P.c t (T.B k)*T.inv k q
theorem rG{s:Int}(h:s=1\/s = -1):s*s=1:=by rcases h with h|h<;>rw[h]<;>rfl
section
variable{P:Pb}{T:Tb}
theorem H9.left(L:H9 P T){r k:Nat}(hr:r<P.m)(hk:k<P.m):dot P.m (T.inv r) (P.A (T.B k))=if r=k then T.size else 0:=by
 obtain⟨s,h1,h2,h3⟩:=L.sg;have e:=h3 r hr (P.A (T.B k));have key:s*dot P.m (T.inv r) (P.A (T.B k))=s*(if r=k then T.size else 0):=by
  rw[e];by_cases c:r=k
  . subst c;rw[c7 rfl,h2];exact V7 _ (kS (T.M P) r)
  . rw[e9 c,J6];exact oY hr hk c λp _=>by
     rw[Z5,V1 _ _ _ (λz=>c z.symm)]
     rfl
 have:s*(s*dot P.m (T.inv r) (P.A (T.B k)))=s*(s*(if r=k then T.size else 0)):=by rw[key]
 rw[<-G3,<-G3,rG h1,dG,dG]at this;exact this
theorem H9.by(L:H9 P T)(x:Nat->Int){p:Nat}(hp:p<P.m):(sm P.m λk=>dot P.m (T.inv k) x*P.A (T.B k) p)=T.size*x p:=by
 have:(sm P.m λk=>dot P.m (T.inv k) x*P.A (T.B k) p)=sm P.m λk=>sm P.m λq=>x q*(T.inv k q*P.A (T.B k) p):=l8 λk _=>by delta dot;rw[<-Eb];exact l8 λq _=>by rw[D3 (T.inv k q),G3]
 rw[this,nc];have:(sm P.m λq=>sm P.m λk=>x q*(T.inv k q*P.A (T.B k) p))=sm P.m λq=>x q*(if p=q then T.size else 0):=l8 λq hq=>by rw[C6,L.span p q hp hq]
 rw[this,O6 hp λi _ hi=>by rw[e9 (λz=>hi z.symm),J6],c7 rfl,D3]
theorem H9.ratio(L:H9 P T){s:Int}(h1:s=1\/s = -1)(h3:∀r,r<P.m->∀x,s*dot P.m (T.inv r) x=det P.m (v7 (T.M P) r x)){r l:Nat}(hr:r<P.m)(hl:l<P.m)(hrl:r≠l)(a x:Nat->Int):
  T.size*(s*det P.m (v7 (v7 (T.M P) l a) r x))=dot P.m (T.inv l) a*dot P.m (T.inv r) x-dot P.m (T.inv r) a*dot P.m (T.inv l) x:=by
 have e1:T.size*det P.m (v7 (v7 (T.M P) l a) r x)=det P.m (v7 (v7 (T.M P) l a) r λp=>sm P.m λk=>dot P.m (T.inv k) x*P.A (T.B k) p):=by
  have:=nG (n:=P.m) (v7 (T.M P) l a) T.size 0 x (λ_=>0) hr
  simp only[J6,lJ,U6]at this;rw[<-this];exact HY λp hp=>(L.by x hp).symm
 have e2:=xD (n:=P.m) (k:=r) (v7 (T.M P) l a) hr (λk=>dot P.m (T.inv k) x) (λk=>P.A (T.B k)) P.m
 have e3:(sm P.m λk=>dot P.m (T.inv k) x*det P.m (v7 (v7 (T.M P) l a) r (P.A (T.B k))))=sm P.m λk=>(if k=r then dot P.m (T.inv r) x*(s*dot P.m (T.inv l) a)else 0)+(if k=l then dot P.m (T.inv l) x*(-(s*dot P.m (T.inv r) a))else 0):=l8 λk hk=>by
  by_cases c1:k=r
  . subst c1;rw[c7 rfl,e9 hrl,lJ,h3 l hl a]
    congr 1
    rw[fk _ _ _ hrl.symm];exact V7 (λz=>det P.m (v7 z l a)) (kS (T.M P) k)
  . by_cases c2:k=l
    . subst c2;rw[e9 c1,c7 rfl,J2,h3 r hr a]
      congr 1
      rw[OV hl hr (λz=>hrl z.symm) (T.M P) a (P.A (T.B k))]
      congr 1
      exact V7 (λz=>det P.m (v7 z r a)) (kS (T.M P) k)
    . rw[e9 c1,e9 c2];rw[oY hk hr c1 λp _=>by rw[V1 _ _ _ c1,V1 _ _ _ c2,Z5];rfl]
      rw[J6];rfl
 have e5:(sm P.m λk=>if k=r then dot P.m (T.inv r) x*(s*dot P.m (T.inv l) a)else 0)=dot P.m (T.inv r) x*(s*dot P.m (T.inv l) a):=by rw[O6 hr (λi _ h=>by rw[e9 h]),c7 rfl]
 have e6:(sm P.m λk=>if k=l then dot P.m (T.inv l) x*(-(s*dot P.m (T.inv r) a))else 0)=dot P.m (T.inv l) x*(-(s*dot P.m (T.inv r) a)):=by rw[O6 hl (λi _ h=>by rw[e9 h]),c7 rfl]
 rw[gq,e5,e6]at e3;have e4:T.size*(s*det P.m (v7 (v7 (T.M P) l a) r x))=s*(T.size*det P.m (v7 (v7 (T.M P) l a) r x)):=by rw[<-G3,<-G3,D3 T.size]
 rw[e4,e1,e2,e3];have ss:=rG h1;generalize dot P.m (T.inv r) x=X;generalize dot P.m (T.inv l) x=Y;generalize dot P.m (T.inv l) a=U;generalize dot P.m (T.inv r) a=V;grind
def Tb.i0(P:Pb)(T:Tb)(a r:Nat):Int:=dot P.m (T.inv r) (P.A a)
def Tb.rest(P:Pb)(T:Tb)(t a:Nat):Int:=P.c t a*T.size-dot P.m (T.pr t) (P.A a)
structure Bx(P:Pb)(T:Tb)(a l:Nat)(g:Int)(T':Tb):Prop where
 b:∀k,k<P.m->T'.B k=if k=l then a else T.B k
 size:T'.size=g*T.i0 P a l
 il:∀q,q<P.m->T'.inv l q=g*T.inv l q
 ir:∀r q,r<P.m->q<P.m->r≠l->T.size*T'.inv r q=T.inv r q*(g*T.i0 P a l)-g*T.i0 P a r*T.inv l q
 pr:∀t q,q<P.m->T.size*T'.pr t q=T.pr t q*(g*T.i0 P a l)+g*T.rest P t a*T.inv l q
theorem H9.exact(L:H9 P T){a l:Nat}(hl:l<P.m)(g:Int):∀r q,r<P.m->q<P.m->r≠l->∃z,T.size*z=T.inv r q*(g*T.i0 P a l)-g*T.i0 P a r*T.inv l q:=λr q hr hq hrl=>by obtain⟨s,h1,h2,h3⟩:=L.sg;have e:=L.ratio h1 h3 hr hl hrl (P.A a) (unit q);rw[oX _ hq,oX _ hq]at e;refine⟨g*(s*det P.m (v7 (v7 (T.M P) l (P.A a)) r (unit q))),?_⟩;delta Tb.i0;generalize s*det P.m (v7 (v7 (T.M P) l (P.A a)) r (unit q))=D at e ⊢;generalize dot P.m (T.inv l) (P.A a)=U at e ⊢;generalize dot P.m (T.inv r) (P.A a)=V at e ⊢;grind
theorem rJ{m l:Nat}(f:Nat->Int)(h:l<m)(g:Nat->Int):(sm m λk=>if k=l then g k else f k)=g l+(sm m f-f l):=by
 rw[uk _ h,c7 rfl,uk f h];have:(sm m λi=>if i=l then 0 else if i=l then g i else f i)=sm m λi=>if i=l then 0 else f i:=l8 λi _=>by
  by_cases c:i=l
  . rw[c7 c,c7 c]
  . rw[e9 c,e9 c,e9 c]
 rw[this];lia
theorem uC(L:H9 P T)(t:Nat)(x:Nat->Int):dot P.m (T.pr t) x=sm P.m λk=>P.c t (T.B k)*dot P.m (T.inv k) x:=by
 delta dot;have:(sm P.m λr=>T.pr t r*x r)=sm P.m λr=>sm P.m λk=>P.c t (T.B k)*(T.inv k r*x r):=l8 λr hr=>by rw[L.pr t r hr,<-Eb];exact l8 λk _=>by rw[G3]
 rw[this,nc];exact l8 λk _=>C6 _ _ _
theorem AQ(L:H9 P T){a l:Nat}(hl:l<P.m){g:Int}(iv:Nat->Nat->Int)(il:∀q,q<P.m->iv l q=g*T.inv l q)(ir:∀r q,r<P.m->q<P.m->r≠l->T.size*iv r q=T.inv r q*(g*T.i0 P a l)-g*T.i0 P a r*T.inv l q)(t:Nat){q:Nat}(hq:q<P.m):
  T.size*(sm P.m λk=>P.c t (if k=l then a else T.B k)*iv k q)=T.pr t q*(g*T.i0 P a l)+g*T.rest P t a*T.inv l q:=by
 have e1:(T.size*sm P.m λk=>P.c t (if k=l then a else T.B k)*iv k q)=sm P.m λk=>if k=l then T.size*(P.c t a*(g*T.inv l q))else(g*T.i0 P a l)*(P.c t (T.B k)*T.inv k q)-(g*T.inv l q)*(P.c t (T.B k)*T.i0 P a k):=by
  rw[<-C6];refine l8 λk hk=>?_
  by_cases c:k=l
  . subst c;rw[c7 rfl,c7 rfl,il q hq]
  . rw[e9 c,e9 c];have:=ir k q hk hq c;generalize P.c t (T.B k)=w;generalize iv k q=z at this ⊢;generalize T.inv k q=y at this ⊢;generalize T.inv l q=x at this ⊢;generalize T.i0 P a l=U at this ⊢;generalize T.i0 P a k=V at this ⊢;grind
 have e2:=uC L t (P.A a);rw[e1,rJ _ hl,gp,C6,C6,<-L.pr t q hq];have e3:(sm P.m λk=>P.c t (T.B k)*T.i0 P a k)=dot P.m (T.pr t) (P.A a):=e2.symm
 rw[e3];delta Tb.rest;generalize dot P.m (T.pr t) (P.A a)=W;generalize T.i0 P a l=U;generalize T.inv l q=x;generalize P.c t (T.B l)=w;grind
theorem H9.Wm(L:H9 P T){a l:Nat}(hl:l<P.m)(g:Int)(t:Nat){q:Nat}(hq:q<P.m):∃z,T.size*z=T.pr t q*(g*T.i0 P a l)+g*T.rest P t a*T.inv l q:=by
 have:∃iv:Nat->Nat->Int,(∀q,q<P.m->iv l q=g*T.inv l q)/\∀r q,r<P.m->q<P.m->r≠l->T.size*iv r q=T.inv r q*(g*T.i0 P a l)-g*T.i0 P a r*T.inv l q:=by
  refine⟨λr q=>if r=l then g*T.inv l q else(T.inv r q*(g*T.i0 P a l)-g*T.i0 P a r*T.inv l q)/T.size,λq _=>by simp,λr q hr hq h=>?_⟩
  simp only[e9 h];obtain⟨z,hz⟩:=L.exact (a:=a) hl g r q hr hq h;rw[<-hz,CT _ (by have:=L.pos;lia)]
 obtain⟨iv,h1,h2⟩:=this;exact⟨_,AQ L hl iv h1 h2 t hq⟩
theorem dh{a x y:Int}(h:0<a)(e:a*x=a*y):x=y:=wI (by lia) e
theorem H9.turn(L:H9 P T){a l:Nat}{g:Int}{T':Tb}(ha:a<P.n)(hb:∀k,k<P.m->T.B k≠a)(hl:l<P.m)(hg:g=1\/g = -1)(hp:0<g*T.i0 P a l)(U:Bx P T a l g T'):H9 P T':=by
 obtain⟨s,h1,h2,h3⟩:=L.sg;have gg:=rG hg;have ss:=rG h1;have eM:∀(r:Nat) (x:Nat->Int),det P.m (v7 (T'.M P) r x)=det P.m (v7 (v7 (T.M P) l (P.A a)) r x):=λr x=>O8 λc p hc _=>by
  delta v7 Tb.M;by_cases c1:c=r
  . rw[c7 c1,c7 c1]
  . rw[e9 c1,e9 c1,U.b c hc];by_cases c2:c=l
    . rw[c7 c2,c7 c2]
    . rw[e9 c2,e9 c2]
 have eD:det P.m (T'.M P)=det P.m (v7 (T.M P) l (P.A a)):=O8 λc p hc _=>by
  delta v7 Tb.M;rw[U.b c hc];by_cases c2:c=l
  . rw[c7 c2,c7 c2]
  . rw[e9 c2,e9 c2]
 have ep:=L.pos;refine⟨λk hk=>?_,λk k' hk hk' e=>?_,⟨s*g,?_,?_,λr hr x=>?_⟩,by rw[U.size];exact hp,λp q hp' hq=>?_,λt q hq=>?_⟩
 . rw[U.b k hk];split
   . exact ha
   . exact L.bn k hk
 . rw[U.b k hk,U.b k' hk']at e;split at e
   . rename_i c1;split at e
     . rename_i c2;rw[c1,c2]
     . exact absurd e.symm (hb k' hk')
   . split at e
     . exact absurd e (hb k hk)
     . exact L.inj k k' hk hk' e
 . rcases h1 with h1|h1<;>rcases hg with hg|hg<;>rw[h1,hg]<;>simp
 . rw[U.size,eD,<-h3 l hl (P.A a)];delta Tb.i0;generalize dot P.m (T.inv l) (P.A a)=V;grind
 . rw[eM];by_cases c:r=l
   . subst c;rw[HX,<-h3 r hr x];have:dot P.m (T'.inv r) x=g*dot P.m (T.inv r) x:=by rw[<-Fz];exact jm (λq hq=>U.il q hq) λ_ _=>rfl
     rw[this];generalize dot P.m (T.inv r) x=V;grind
   . have e:=L.ratio h1 h3 hr hl c (P.A a) x;refine dh ep ?_;have e2:T.size*dot P.m (T'.inv r) x=dot P.m (T.inv r) x*(g*T.i0 P a l)-g*T.i0 P a r*dot P.m (T.inv l) x:=by
      rw[<-Fz];have:dot P.m (λq=>T.size*T'.inv r q) x=sm P.m λq=>(g*T.i0 P a l)*(T.inv r q*x q)-(g*T.i0 P a r)*(T.inv l q*x q):=l8 λq hq=>by simp only;rw[U.ir r q hr hq c];generalize T.inv r q=y;generalize T.inv l q=z;generalize T.i0 P a l=U;generalize T.i0 P a r=V;grind
      rw[this,gp,C6,C6];delta dot;rw[D3 (g*T.i0 P a l)]
     have e3:T.size*(s*g*dot P.m (T'.inv r) x)=s*g*(T.size*dot P.m (T'.inv r) x):=by generalize dot P.m (T'.inv r) x=V;grind
     rw[e3,e2];delta Tb.i0;generalize det P.m (v7 (v7 (T.M P) l (P.A a)) r x)=D at e ⊢;generalize dot P.m (T.inv l) (P.A a)=U at e ⊢;generalize dot P.m (T.inv r) (P.A a)=V at e ⊢;generalize dot P.m (T.inv r) x=W at e ⊢;generalize dot P.m (T.inv l) x=Y at e ⊢;grind
 . refine dh ep ?_;have e1:(T.size*sm P.m λk=>T'.inv k q*P.A (T'.B k) p)=sm P.m λk=>if k=l then T.size*(g*T.inv l q*P.A a p)else(g*T.i0 P a l)*(T.inv k q*P.A (T.B k) p)-(g*T.inv l q)*(T.i0 P a k*P.A (T.B k) p):=by
    rw[<-C6];refine l8 λk hk=>?_
    rw[U.b k hk];by_cases c:k=l
    . subst c;rw[c7 rfl,c7 rfl,U.il q hq]
    . rw[e9 c,e9 c];have:=U.ir k q hk hq c;generalize P.A (T.B k) p=w;generalize T'.inv k q=z at this ⊢;generalize T.inv k q=y at this ⊢;generalize T.inv l q=x at this ⊢;generalize T.i0 P a l=U at this ⊢;generalize T.i0 P a k=V at this ⊢;grind
   have e2:=L.by (P.A a) hp';have e3:(sm P.m λk=>T.i0 P a k*P.A (T.B k) p)=T.size*P.A a p:=e2
   rw[e1,rJ _ hl,gp,C6,C6,e3,L.span p q hp' hq,U.size];generalize T.i0 P a l=U;generalize T.inv l q=x;generalize P.A (T.B l) p=w;split<;>grind
 . refine dh ep ?_;rw[U.pr t q hq,<-AQ L hl T'.inv U.il U.ir t hq]
   congr 1
   exact l8 λk hk=>by rw[U.b k hk]
end
end Sx
namespace Sx
def uv(P:Pb)(j:Nat):Int:=(P.u j).getD 0
def Tb.am(P:Pb)(T:Tb)(k:Nat):Int:=dot P.m (T.inv k) T.rt
def fsum(P:Pb)(T:Tb)(f:Nat->Int):Int:=sm P.n λj=>if T.full j=true then uv P j*f j else 0
def Tb.sg(T:Tb)(a:Nat):Int:=if T.full a=true then -1 else 1
theorem oB(T:Tb)(a:Nat):(T.full a=true/\T.sg a = -1)\/(T.full a=false/\T.sg a=1):=by
 delta Tb.sg;cases h:T.full a
 . exact .inr ⟨rfl,by simp⟩
 . exact .inl ⟨rfl,by simp⟩
structure Ok(P:Pb)(T:Tb):Prop where
 u6:H9 P T
 rt:∀p,p<P.m->T.rt p=P.b p-fsum P T λj=>P.A j p
 fu:∀j,j<P.n->T.full j=true->P.u j≠none/\∀k,k<P.m->T.B k≠j
 lo:∀k,k<P.m->0<=T.am P k
 hi:∀k v,k<P.m->P.u (T.B k)=some v->T.am P k<=v*T.size
theorem mI{P:Pb}{T T':Tb}{a:Nat}(ha:a<P.n)(h:∀j,j<P.n->T'.full j=if j=a then !T.full a else T.full j)(f:Nat->Int):fsum P T' f=fsum P T f+T.sg a*(uv P a*f a):=by
 delta fsum;rw[uk _ ha,uk (λj=>if T.full j=true then uv P j*f j else 0) ha,h a ha,c7 rfl]
 have e:(sm P.n λi=>if i=a then 0 else if T'.full i=true then uv P i*f i else 0)=sm P.n λi=>if i=a then 0 else if T.full i=true then uv P i*f i else 0:=l8 λi hi=>by
  by_cases c:i=a
  . rw[c7 c,c7 c]
  . rw[e9 c,e9 c,h i hi,e9 c]
 rw[e];rcases oB T a with ⟨h1,h2⟩|⟨h1,h2⟩<;>rw[h1,h2]<;>simp<;>lia
theorem mH{P:Pb}{T T':Tb}(h:∀j,j<P.n->T'.full j=T.full j)(f:Nat->Int):fsum P T' f=fsum P T f:=l8 λj hj=>by rw[h j hj]
section
variable{P:Pb}{T T':Tb}
theorem H9.Ge(L:H9 P T){k:Nat}(hk:k<P.m)(t:Nat):T.rest P t (T.B k)=0:=by
 delta Tb.rest;rw[uC L,O6 hk λi hi h=>by rw[L.left hi hk,e9 h,J6],L.left hk hk,c7 rfl]
 lia
theorem H9.KQ(L:H9 P T){y:Nat->Int}{s:Int}(h:∀p,p<P.m->s*T.rt p=sm P.m λk=>y k*P.A (T.B k) p){k:Nat}(hk:k<P.m):s*T.am P k=T.size*y k:=by
 delta Tb.am;rw[<-tU];have e:dot P.m (T.inv k) (λr=>s*T.rt r)=dot P.m (T.inv k) λr=>sm P.m λi=>y i*P.A (T.B i) r:=jm (λ_ _=>rfl) λr hr=>h r hr
 rw[e,nF,O6 hk λi hi h=>by rw[L.left hk hi,e9 (λz=>h z.symm),J6],L.left hk hk,c7 rfl,D3]
theorem H9.MT(L:H9 P T){p:Nat}(hp:p<P.m):(sm P.m λk=>T.am P k*P.A (T.B k) p)=T.size*T.rt p:=L.by T.rt hp
structure qJ(P:Pb)(T:Tb)(a:Nat)(top bot:Int):Prop where
 nn:0<=top
 pb:0<bot
 own:∀v,P.u a=some v->top<=v*bot
 dn:∀k,k<P.m->0<T.sg a*T.i0 P a k->top*(T.sg a*T.i0 P a k)<=T.am P k*bot
 up:∀k v,k<P.m->T.sg a*T.i0 P a k<0->P.u (T.B k)=some v->top*(-(T.sg a*T.i0 P a k))<=(v*T.size-T.am P k)*bot
structure HN(P:Pb)(T:Tb)(a:Nat)(T':Tb):Prop where
 b:∀k,k<P.m->T'.B k=T.B k
 size:T'.size=T.size
 inv:∀k q,k<P.m->q<P.m->T'.inv k q=T.inv k q
 pr:∀t q,q<P.m->T'.pr t q=T.pr t q
 full:∀j,j<P.n->T'.full j=if j=a then !T.full a else T.full j
 rt:∀p,p<P.m->T'.rt p=T.rt p-T.sg a*(uv P a*P.A a p)
theorem H9.same(L:H9 P T)(hb:∀k,k<P.m->T'.B k=T.B k)(hs:T'.size=T.size)(hi:∀k q,k<P.m->q<P.m->T'.inv k q=T.inv k q)(hp:∀t q,q<P.m->T'.pr t q=T.pr t q):H9 P T':=by
 have eM:∀c r,c<P.m->r<P.m->T'.M P c r=T.M P c r:=λc r hc _=>by delta Tb.M;rw[hb c hc]
 obtain⟨s,h1,h2,h3⟩:=L.sg;refine⟨λk hk=>by rw[hb k hk];exact L.bn k hk,λk l hk hl e=>L.inj k l hk hl (by rw[hb k hk,hb l hl]at e;exact e),⟨s,h1,by rw[hs,h2];exact(O8 eM).symm,λr hr x=>?_⟩,by rw[hs];exact L.pos,λp q hp' hq=>?_,λt q hq=>?_⟩
 . rw[jm (x:=T'.inv r) (x':=T.inv r) (y:=x) (y':=x) (λq hq=>hi r q hr hq) (λ_ _=>rfl),h3 r hr x]
   exact O8 λc p hc hp'=>by
    delta v7;split
    . rfl
    . exact(eM c p hc hp').symm
 . rw[hs,<-L.span p q hp' hq];exact l8 λk hk=>by rw[hi k q hk hq,hb k hk]
 . rw[hp t q hq,L.pr t q hq];exact l8 λk hk=>by rw[hi k q hk hq,hb k hk]
theorem Ok.flip(K:Ok P T){a:Nat}{v:Int}(ha:a<P.n)(hb:∀k,k<P.m->T.B k≠a)(hv:P.u a=some v)(S:qJ P T a v 1)(F:HN P T a T'):Ok P T'/\∀k,k<P.m->T'.am P k=T.am P k-T.sg a*v*T.i0 P a k:=by
 have L':=K.u6.same F.b F.size F.inv F.pr;have euv:uv P a=v:=by delta uv;rw[hv];rfl
 have am:∀k,k<P.m->T'.am P k=T.am P k-T.sg a*v*T.i0 P a k:=λk hk=>by
  delta Tb.am Tb.i0;have e:dot P.m (T'.inv k) T'.rt=dot P.m (T.inv k) λp=>T.rt p-(T.sg a*v)*P.A a p:=jm (λq hq=>F.inv k q hk hq) λp hp=>by rw[F.rt p hp,euv,G3]
  rw[e,Fw,tU]
 refine⟨⟨L',λp hp=>?_,λj hj hf=>?_,λk hk=>?_,λk w hk hw=>?_⟩,am⟩
 . rw[F.rt p hp,K.rt p hp,mI ha F.full];lia
 . rw[F.full j hj]at hf;by_cases c:j=a
   . subst c;exact⟨by rw[hv];simp,λk hk=>by rw[F.b k hk];exact hb k hk⟩
   . rw[e9 c]at hf;obtain⟨h1,h2⟩:=K.fu j hj hf;exact⟨h1,λk hk=>by rw[F.b k hk];exact h2 k hk⟩
 . rw[am k hk];have h0:=K.lo k hk;have hd:=S.dn k hk;have hn:=S.nn;by_cases c:0<T.sg a*T.i0 P a k
   . have:=hd c;generalize T.sg a=g at *;generalize T.i0 P a k=y at *;grind
   . have:v*(T.sg a*T.i0 P a k)<=0:=vz hn (by lia)
     generalize T.sg a=g at *;generalize T.i0 P a k=y at *;grind
 . rw[F.b k hk]at hw;rw[am k hk,F.size];have h0:=K.hi k w hk hw;have hn:=S.nn;by_cases c:T.sg a*T.i0 P a k<0
   . have:=S.up k w hk c hw;generalize T.sg a=g at *;generalize T.i0 P a k=y at *;grind
   . have:0<=v*(T.sg a*T.i0 P a k):=bN hn (by lia)
     generalize T.sg a=g at *;generalize T.i0 P a k=y at *;grind
structure Move(P:Pb)(T:Tb)(a l:Nat)(g:Int)(tp:Bool)(T':Tb):Prop where
 tn:Bx P T a l g T'
 full:∀j,j<P.n->T'.full j=if j=a then false else if j=T.B l then tp else T.full j
 rt:∀p,p<P.m->T'.rt p=T.rt p+(if T.full a=true then uv P a*P.A a p else 0)-(if tp=true then uv P (T.B l)*P.A (T.B l) p else 0)
structure At(P:Pb)(T:Tb)(a l:Nat)(tp:Bool)(top bot:Int):Prop where
 dn:tp=false->top=T.am P l/\bot=T.sg a*T.i0 P a l
 up:tp=true->top=uv P (T.B l)*T.size-T.am P l/\bot = -(T.sg a*T.i0 P a l)/\P.u (T.B l)≠none
def jM(P:Pb)(T:Tb)(a l:Nat)(top bot:Int)(k:Nat):Int:=if k=l then T.size*(if T.full a=true then uv P a*bot-top else top)else T.am P k*bot-T.sg a*T.i0 P a k*top
theorem Ip(m:Nat)(x y:Int)(f g h:Nat->Int):(sm m λk=>(x*f k-y*g k)*h k)=x*(sm m λk=>f k*h k)-y*sm m λk=>g k*h k:=by
 rw[<-C6,<-C6,<-gp];exact l8 λk _=>by generalize f k=a;generalize g k=b;generalize h k=c;grind
theorem Ok.xi(K:Ok P T){a l:Nat}{g top bot:Int}{tp:Bool}(L':H9 P T')(hl:l<P.m)(A:At P T a l tp top bot)(M:Move P T a l g tp T'){k:Nat}(hk:k<P.m):(bot*T.size)*T'.am P k=T'.size*jM P T a l top bot k:=by
 refine L'.KQ (y:=jM P T a l top bot) (λp hp=>?_) hk
 have e:(sm P.m λk=>jM P T a l top bot k*P.A (T'.B k) p)=sm P.m λk=>if k=l then T.size*(if T.full a=true then uv P a*bot-top else top)*P.A a p else(bot*T.am P k-(T.sg a*top)*T.i0 P a k)*P.A (T.B k) p:=l8 λk hk=>by
  rw[M.tn.b k hk];delta jM;by_cases c:k=l
  . rw[c7 c,c7 c,c7 c]
  . rw[e9 c,e9 c,e9 c];generalize P.A (T.B k) p=z;generalize T.i0 P a k=y;generalize T.am P k=x;generalize T.sg a=g;grind
 have e2:(sm P.m λk=>T.i0 P a k*P.A (T.B k) p)=T.size*P.A a p:=K.u6.by (P.A a) hp
 rw[e,rJ _ hl,Ip,K.u6.MT hp,e2,M.rt p hp];generalize P.A (T.B l) p=z;generalize P.A a p=w;generalize T.rt p=r;have dn:=A.dn;have up:=A.up;generalize T.i0 P a l=y at *;generalize T.am P l=x at *;generalize uv P (T.B l)=ul at *;rcases oB T a with ⟨h1,h2⟩|⟨h1,h2⟩<;>rw[h1]<;>rw[h2]at dn up ⊢ <;> cases tp
 . obtain⟨e3,e4⟩:=dn rfl;simp;grind
 . obtain⟨e3,e4,_⟩:=up rfl;simp;grind
 . obtain⟨e3,e4⟩:=dn rfl;simp;grind
 . obtain⟨e3,e4,_⟩:=up rfl;simp;grind
theorem yq{a b c:Int}(h:0<c)(e:c*a<=c*b):a<=b:=wH e h
theorem Ok.move(K:Ok P T){a l:Nat}{g top bot:Int}{tp:Bool}(ha:a<P.n)(hb:∀k,k<P.m->T.B k≠a)(hl:l<P.m)(hg:g=1\/g = -1)(hp:0<g*T.i0 P a l)(S:qJ P T a top bot)(A:At P T a l tp top bot)(M:Move P T a l g tp T'):Ok P T':=by
 have L':=K.u6.turn ha hb hl hg hp M.tn;have hs:=K.u6.pos;have hs':=L'.pos;have hbp:=S.pb;have am:=λk hk=>K.xi L' hl A M (k:=k) hk
 have hBa:T.B l≠a:=hb l hl;have sb:0<bot*T.size:=G0 hbp hs;refine⟨L',λp hp=>?_,λj hj hf=>?_,λk hk=>?_,λk w hk hw=>?_⟩
 . -- rights
   rw[M.rt p hp,K.rt p hp];have f1:∃T1:Tb,(∀j,j<P.n->T1.full j=if j=a then false else T.full j)/\fsum P T1 (λj=>P.A j p)=fsum P T (λj=>P.A j p)-(if T.full a=true then uv P a*P.A a p else 0):=by
    refine⟨{T with full:=λj=>if j=a then false else T.full j},λj _=>rfl,?_⟩
    cases h:T.full a
    . rw[mH (T:=T) λj _=>?_]
      . simp
      . show(if j=a then false else T.full j)=T.full j
        split
        . rename_i c;rw[c,h]
        . rfl
    . rw[mI (T:=T) ha λj _=>?_]
      . delta Tb.sg;rw[h];simp;lia
      . show(if j=a then false else T.full j)=if j=a then !T.full a else T.full j
        rw[h];rfl
   obtain⟨T1,g1,g2⟩:=f1;have h1:T1.full (T.B l)=false:=by
    rw[g1 _ (K.u6.bn l hl),e9 hBa];cases h:T.full (T.B l)
    . rfl
    . exact absurd rfl ((K.fu _ (K.u6.bn l hl) h).2 l hl)
   have f2:fsum P T' (λj=>P.A j p)=fsum P T1 (λj=>P.A j p)+(if tp=true then uv P (T.B l)*P.A (T.B l) p else 0):=by
    cases tp
    . rw[mH (T:=T1) λj hj=>?_]
      . simp
      . rw[M.full j hj,g1 j hj];by_cases c:j=a
        . rw[c7 c,c7 c]
        . rw[e9 c,e9 c];split
          . rename_i c2;rw[c2];have:=h1;rw[g1 _ (K.u6.bn l hl),e9 hBa]at this;exact this.symm
          . rfl
    . rw[mI (T:=T1) (K.u6.bn l hl) λj hj=>?_]
      . delta Tb.sg;rw[h1];simp
      . rw[M.full j hj,h1];by_cases c:j=a
        . rw[c7 c,e9 (λz=>hBa (by rw[<-z];exact c)),g1 j hj,c7 c]
        . rw[e9 c];split
          . rfl
          . rw[g1 j hj,e9 c]
   rw[f2,g2];lia
 . rw[M.full j hj]at hf;by_cases c:j=a
   . rw[c7 c]at hf;cases hf
   . rw[e9 c]at hf;by_cases c2:j=T.B l
     . rw[c7 c2]at hf;refine⟨by rw[c2];exact(A.up hf).2.2,λk hk=>?_⟩
       rw[M.tn.b k hk];split
       . exact λz=>c z.symm
       . rename_i c3;rw[c2];exact λz=>c3 (K.u6.inj k l hk hl z)
     . rw[e9 c2]at hf;obtain⟨h1,h2⟩:=K.fu j hj hf;refine⟨h1,λk hk=>?_⟩
       rw[M.tn.b k hk];split
       . exact λz=>c z.symm
       . exact h2 k hk
 . -- from uI on
   have e:=am k hk;have y0:0<=jM P T a l top bot k:=by
    delta jM;by_cases c:k=l
    . rw[c7 c];refine bN (by lia) ?_
      split
      . rename_i hf;obtain⟨v,hv⟩:=Option.ne_none_iff_exists'.mp (K.fu a ha hf).1;have:=S.own v hv;have euv:uv P a=v:=by delta uv;rw[hv];rfl
        rw[euv];lia
      . exact S.nn
    . rw[e9 c];have h0:=K.lo k hk;have hn:=S.nn;by_cases c2:0<T.sg a*T.i0 P a k
      . have:=S.dn k hk c2;rw[D3 top]at this;lia
      . have h1:T.sg a*T.i0 P a k*top<=0:=CY (by lia) hn
        have h2:0<=T.am P k*bot:=bN h0 (by lia)
        lia
   have:0<=T'.size*jM P T a l top bot k:=bN (by lia) y0
   rw[<-e]at this;exact yq sb (by rw[J6];exact this)
 . have e:=am k hk;have y1:jM P T a l top bot k<=w*(bot*T.size):=by
    rw[M.tn.b k hk]at hw;delta jM;by_cases c:k=l
    . rw[c7 c]at hw ⊢;have ho:=S.own w hw;have hn:=S.nn;have euv:uv P a=w:=by delta uv;rw[hw];rfl
      have:(if T.full a=true then uv P a*bot-top else top)<=w*bot:=by
       split
       . rw[euv];lia
       . exact ho
      have h2:=bP this (by lia:0<=T.size)
      have h3:T.size*(w*bot)=w*(bot*T.size):=by grind
      lia
    . rw[e9 c]at hw ⊢;have h0:=K.hi k w hk hw;have hn:=S.nn;by_cases c2:T.sg a*T.i0 P a k<0
      . have:=S.up k w hk c2 hw;generalize T.sg a*T.i0 P a k=z at *;generalize T.am P k=x at *;grind
      . have h1:0<=T.sg a*T.i0 P a k*top:=bN (by lia) hn
        have h2:=iX h0 (by lia:0<=bot)
        have h3:w*T.size*bot=w*(bot*T.size):=by grind
        lia
   have:T'.size*jM P T a l top bot k<=T'.size*(w*(bot*T.size)):=bP y1 (by lia)
   rw[<-e]at this;refine yq sb ?_;have h3:T'.size*(w*(bot*T.size))=bot*T.size*(w*T'.size):=by grind
   lia
end
end Sx
namespace Sx
def Neg(w:Nat->Int):Prop:=w 0<0\/(w 0=0/\(w 1<0\/(w 1=0/\w 2<0)))
theorem Neg.mul{w:Nat->Int}{p:Int}(hp:0<p)(h:Neg w):Neg λt=>p*w t:=by
 have m:∀x:Int,x<0->p*x<0:=λx hx=>Me hp hx
 rcases h with h|⟨h0,h|⟨h1,h⟩⟩
 . exact .inl (m _ h)
 . exact .inr ⟨by simp[h0],.inl (m _ h)⟩
 . exact .inr ⟨by simp[h0],.inr ⟨by simp[h1],m _ h⟩⟩
theorem Neg.congr{w v:Nat->Int}(e:∀t,t<3->w t=v t)(h:Neg w):Neg v:=by
 delta Neg at *;rw[e 0 (by decide),e 1 (by decide),e 2 (by decide)]at h
 exact h
theorem Neg.nq{w:Nat->Int}{p:Int}(hp:0<p)(h:Neg λt=>p*w t):Neg w:=by
 have m:∀x:Int,p*x<0->x<0:=λx hx=>Int.lt_of_not_ge λz=>by
  have:=bN (by lia:0<=p) z
  lia
 have z:∀x:Int,p*x=0->x=0:=λx hx=>(Int.mul_eq_zero.mp hx).resolve_left (by lia)
 rcases h with h|⟨h0,h|⟨h1,h⟩⟩
 . exact .inl (m _ h)
 . exact .inr ⟨z _ h0,.inl (m _ h)⟩
 . exact .inr ⟨z _ h0,.inr ⟨z _ h1,m _ h⟩⟩
theorem Neg.add{w v:Nat->Int}(h:Neg w)(k:Neg v\/∀t,t<3->v t=0):Neg λt=>w t+v t:=by
 delta Neg at *;dsimp only;rcases k with k|k
 . lia
 . have:=k 0 (by decide);have:=k 1 (by decide);have:=k 2 (by decide)
   lia
theorem iy{w:Nat->Int}(h:∀t,t<3->w t=0):¬Neg w:=by
 delta Neg;have:=h 0 (by decide);have:=h 1 (by decide);have:=h 2 (by decide)
 lia
theorem Jy{w v:Nat->Int}(h:¬Neg w)(k:¬Neg v):¬Neg λt=>w t+v t:=by delta Neg at *;dsimp only;lia
theorem Ag{w:Nat->Int}{p:Int}(hp:0<=p)(h:¬Neg w):¬Neg λt=>p*w t:=by
 rcases Lw hp with hp|hp
 . exact λz=>h (z.nq hp)
 . refine iy λt _=>?_
   rw[<-hp,U6]
theorem Jx{w:Nat->Int}{p:Int}(hp:0<=p)(h:Neg w):¬Neg λt=>-(p*w t):=by
 rcases Lw hp with hp|hp
 . have:=h.mul hp;unfold Neg at *;dsimp only at *;lia
 . refine iy λt _=>?_
   rw[<-hp,U6];rfl
theorem Qr{f:Nat->Nat->Int}:∀m,(∀r,r<m->¬Neg (f r))->¬Neg λt=>sm m λr=>f r t
 | 0,_=>iy λt _=>rfl
 |m+1,h=>Jy (Qr m λr hr=>h r (by lia)) (h m (by lia))
section
variable{P:Pb}{T T' T2:Tb}
def Tb.obj(P:Pb)(T:Tb)(t:Nat):Int:=T.size*fsum P T (P.c t)+sm P.m λk=>T.am P k*P.c t (T.B k)
theorem my(L:H9 P T)(a t:Nat):(sm P.m λk=>T.i0 P a k*P.c t (T.B k))=P.c t a*T.size-T.rest P t a:=by
 have e:(sm P.m λk=>T.i0 P a k*P.c t (T.B k))=dot P.m (T.pr t) (P.A a):=by rw[uC L];exact l8 λk _=>D3 _ _
 delta Tb.rest;rw[e];lia
theorem Ok.OP(K:Ok P T){a:Nat}{v:Int}(ha:a<P.n)(hv:P.u a=some v)(F:HN P T a T')(am:∀k,k<P.m->T'.am P k=T.am P k-T.sg a*v*T.i0 P a k)(t:Nat):T'.obj P t=T.obj P t+v*(T.sg a*T.rest P t a):=by
 have euv:uv P a=v:=by delta uv;rw[hv];rfl
 have e:(sm P.m λk=>T'.am P k*P.c t (T'.B k))=(sm P.m λk=>T.am P k*P.c t (T.B k))-(T.sg a*v)*sm P.m λk=>T.i0 P a k*P.c t (T.B k):=by
  rw[<-C6,<-gp];refine l8 λk hk=>?_
  rw[am k hk,F.b k hk];generalize T.am P k=x;generalize T.i0 P a k=y;generalize T.sg a=g;generalize P.c t (T.B k)=z;grind
 delta Tb.obj;rw[e,F.size,mI ha F.full,euv,my K.u6];generalize T.sg a=g;generalize T.rest P t a=r;generalize P.c t a=z;generalize fsum P T (P.c t)=w;grind
theorem Kd(K:Ok P T){a l:Nat}{g:Int}{tp:Bool}(ha:a<P.n)(hb:∀k,k<P.m->T.B k≠a)(hl:l<P.m)(M:Move P T a l g tp T')(f:Nat->Int):fsum P T' f=fsum P T f-(if T.full a=true then uv P a*f a else 0)+(if tp=true then uv P (T.B l)*f (T.B l)else 0):=by
 have hBa:T.B l≠a:=hb l hl;have hBn:=K.u6.bn l hl;have hBf:T.full (T.B l)=false:=by
  cases h:T.full (T.B l)
  . rfl
  . exact absurd rfl ((K.fu _ hBn h).2 l hl)
 delta fsum;have e:(sm P.n λj=>if T'.full j=true then uv P j*f j else 0)=sm P.n λj=>((if T.full j=true then uv P j*f j else 0)+(if j=a then -(if T.full a=true then uv P a*f a else 0)else 0))+(if j=T.B l then(if tp=true then uv P (T.B l)*f (T.B l)else 0)else 0):=l8 λj hj=>by
  rw[M.full j hj];by_cases c:j=a
  . have c2:j≠T.B l:=λz=>hBa (by rw[<-z];exact c)
    rw[c]at *;simp only[c7];rw[e9 c2];simp;lia
  . by_cases c2:j=T.B l
    . rw[c2]at *;simp[hBa,hBf]
    . simp[c,c2]
 have e2:(sm P.n λj=>if j=a then -(if T.full a=true then uv P a*f a else 0)else 0) = -(if T.full a=true then uv P a*f a else 0):=by rw[O6 ha (λi _ h=>by rw[e9 h]),c7 rfl]
 have e3:(sm P.n λj=>if j=T.B l then(if tp=true then uv P (T.B l)*f (T.B l)else 0)else 0)=(if tp=true then uv P (T.B l)*f (T.B l)else 0):=by rw[O6 hBn (λi _ h=>by rw[e9 h]),c7 rfl]
 rw[e,gq,gq,e2,e3];lia
theorem Ok.Oo(K:Ok P T){a l:Nat}{g top bot:Int}{tp:Bool}(ha:a<P.n)(hb:∀k,k<P.m->T.B k≠a)(hl:l<P.m)(L':H9 P T')(A:At P T a l tp top bot)(M:Move P T a l g tp T')(t:Nat):(bot*T.size)*T'.obj P t=T'.size*(bot*T.obj P t+top*(T.sg a*T.rest P t a)):=by
 have e1:((bot*T.size)*sm P.m λk=>T'.am P k*P.c t (T'.B k))=T'.size*sm P.m λk=>if k=l then T.size*(if T.full a=true then uv P a*bot-top else top)*P.c t a else(bot*T.am P k-(T.sg a*top)*T.i0 P a k)*P.c t (T.B k):=by
  rw[<-C6,<-C6];refine l8 λk hk=>?_
  rw[<-G3,K.xi L' hl A M hk,M.tn.b k hk];delta jM;by_cases c:k=l
  . rw[c7 c,c7 c,c7 c,G3]
  . rw[e9 c,e9 c,e9 c];generalize P.c t (T.B k)=z;generalize T.i0 P a k=y;generalize T.am P k=x;generalize T.sg a=g;grind
 rw[rJ _ hl,Ip,my K.u6]at e1;delta Tb.obj;rw[eO,e1,Kd K ha hb hl M];generalize (sm P.m λk=>T.am P k*P.c t (T.B k))=N
 generalize fsum P T (P.c t)=w;generalize T.rest P t a=r;generalize P.c t a=ca;generalize P.c t (T.B l)=cl;have dn:=A.dn;have up:=A.up;generalize T.i0 P a l=y at *;generalize T.am P l=x at *;generalize uv P (T.B l)=ul at *;rcases oB T a with ⟨h1,h2⟩|⟨h1,h2⟩<;>rw[h1]<;>rw[h2]at dn up ⊢ <;> cases tp
 . obtain⟨e3,e4⟩:=dn rfl;simp;grind
 . obtain⟨e3,e4,_⟩:=up rfl;simp;grind
 . obtain⟨e3,e4⟩:=dn rfl;simp;grind
 . obtain⟨e3,e4,_⟩:=up rfl;simp;grind
def cmp(P:Pb)(T' T:Tb)(t:Nat):Int:=T'.obj P t*T.size-T.obj P t*T'.size
theorem qG(t:Nat):T'.size*cmp P T2 T t=T.size*cmp P T2 T' t+T2.size*cmp P T' T t:=by delta cmp;grind
theorem Ef(L:H9 P T)(L':H9 P T')(hb:∀k,k<P.m->T'.B k=T.B k)(hr:∀p,p<P.m->T'.rt p=T.rt p){k:Nat}(hk:k<P.m):T.size*T'.am P k=T'.size*T.am P k:=by
 refine L'.KQ (λp hp=>?_) hk
 rw[hr p hp,<-L.MT hp];exact l8 λi hi=>by rw[hb i hi]
theorem Ee(K:Ok P T)(K':Ok P T')(hf:∀j,j<P.n->T'.full j=T.full j){p:Nat}(hp:p<P.m):T'.rt p=T.rt p:=by rw[K.rt p hp,K'.rt p hp,mH hf]
theorem MQ(K:Ok P T)(K':Ok P T')(hb:∀k,k<P.m->T'.B k=T.B k)(hf:∀j,j<P.n->T'.full j=T.full j)(t:Nat):cmp P T' T t=0:=by
 have e:(T.size*sm P.m λk=>T'.am P k*P.c t (T'.B k))=T'.size*sm P.m λk=>T.am P k*P.c t (T.B k):=by
  rw[<-C6,<-C6];refine l8 λk hk=>?_
  rw[<-G3,Ef K.u6 K'.u6 hb (λp hp=>Ee K K' hf hp) hk,hb k hk,G3]
 delta cmp Tb.obj;rw[mH hf];generalize (sm P.m λk=>T'.am P k*P.c t (T'.B k))=x at *
 generalize (sm P.m λk=>T.am P k*P.c t (T.B k))=y at *
 generalize fsum P T (P.c t)=w;grind
structure M9(P:Pb)(T:Tb)(a:Nat):Prop where
 an:a<P.n
 u0:P.u a≠some 0
 neg:Neg λt=>T.sg a*T.rest P t a
theorem M9.nb(E:M9 P T a)(L:H9 P T):∀k,k<P.m->T.B k≠a:=λk hk z=>by
 refine iy (λt _=>?_) E.neg
 rw[<-z,L.Ge hk,J6]
inductive Step(P:Pb)(T:Tb)(a:Nat)(top:Int)(T':Tb):Prop
 |flip {v}:P.u a=some v->top=v->qJ P T a v 1->HN P T a T'->Step P T a top T'
 |move {l g tp bot}:l<P.m->(g=1\/g = -1)->0<g*T.i0 P a l->qJ P T a top bot->At P T a l tp top bot->Move P T a l g tp T' ->
   (top=0->∀k,k<P.m->(0<T.sg a*T.i0 P a k/\T.am P k=0)\/(T.sg a*T.i0 P a k<0/\∃v,P.u (T.B k)=some v/\T.am P k=v*T.size)->T.B l<=T.B k)->Step P T a top T'
theorem Step.ok(S:Step P T a top T')(K:Ok P T)(E:M9 P T a):Ok P T':=by
 cases S with
 |flip hv ht hs F=>exact(K.flip E.an (E.nb K.u6) hv hs F).1
 |move hl hg hp hs A M _=>exact K.move E.an (E.nb K.u6) hl hg hp hs A M
theorem Step.nn(S:Step P T a top T'):0<=top:=by
 cases S with
 |flip hv ht hs F=>rw[ht];exact hs.nn
 |move hl hg hp hs A M _=>exact hs.nn
theorem Step.Xr(S:Step P T a top T')(K:Ok P T)(E:M9 P T a):(0<top->Neg (cmp P T' T))/\(top=0->∀t,cmp P T' T t=0):=by
 have key:∃q:Int,(0<top->0<q)/\(top=0->q=0)/\∃d:Int,0<d/\∀t,d*cmp P T' T t=q*(T.sg a*T.rest P t a):=by
  cases S with
  |flip hv ht hs F =>
   have fo:=K.OP E.an hv F (K.flip E.an (E.nb K.u6) hv hs F).2;rename_i v;refine⟨top*T.size,λh=>G0 h K.u6.pos,λh=>by rw[h,U6],1,by decide,λt=>?_⟩
   delta cmp;rw[fo t,F.size,ht];grind
  | @move l g tp bot hl hg hp hs A M hz =>
   have K':=K.move E.an (E.nb K.u6) hl hg hp hs A M;refine⟨T'.size*top,λh=>G0 K'.u6.pos h,λh=>by rw[h,J6],bot,hs.pb,λt=>?_⟩
   have:=K.Oo E.an (E.nb K.u6) hl K'.u6 A M t;delta cmp;generalize T'.obj P t=x at *;generalize T.obj P t=y at *;generalize T.sg a*T.rest P t a=z at *;grind
 obtain⟨q,q1,q2,d,d1,d2⟩:=key;constructor
 . intro h;exact Neg.nq d1 ((E.neg.mul (q1 h)).congr λt _=>(d2 t).symm)
 . intro h t;have:=d2 t;rw[q2 h,U6]at this;exact(Int.mul_eq_zero.mp this).resolve_left (by lia)
end
end Sx
namespace Sx
theorem IV:∀(N:Nat) (f:Nat->Nat),(∀i,i<=N->f i<N)->∃p q,p<q/\q<=N/\f p=f q
 | 0,f,h=>absurd (h 0 (o3 _)) (by lia)
 |N+1,f,h=>by
  by_cases c:∃p,p<=N/\f p=f (N+1)
  . obtain⟨p,h1,h2⟩:=c;exact⟨p,N+1,by lia,o3 _,h2⟩
  . have hne:∀p,p<=N->f p≠f (N+1):=λp hp z=>c ⟨p,hp,z⟩
    obtain⟨p,q,h1,h2,h3⟩:=IV N (λi=>if f i=N then f (N+1)else f i) λi hi=>by
     have:=h i (by lia)
     have:=h (N+1) (o3 _);have:=hne i hi;split<;>lia
    refine⟨p,q,h1,by lia,?_⟩
    have:=hne p (by lia)
    have:=hne q h2;split at h3<;>split at h3<;>lia
def enc(b:Nat)(f:Nat->Nat):Nat->Nat
 | 0=>0
 |k+1=>enc b f k*b+f k
theorem qD{b:Nat}{f:Nat->Nat}:∀k,(∀i,i<k->f i<b)->enc b f k<b ^ k
 | 0,_=>by simp[enc]
 |k+1,h=>by
  have h1:=qD k λi hi=>h i (by lia)
  have h2:=h k (by lia)
  rw[enc,qQ];have:(enc b f k+1)*b<=b ^ k*b:=pk _ h1;rw[BH]at this;lia
theorem xC{b:Nat}{f g:Nat->Nat}:∀k,(∀i,i<k->f i<b)->(∀i,i<k->g i<b)->enc b f k=enc b g k->∀i,i<k->f i=g i
 | 0,_,_,_,i,hi=>by lia
 |k+1,hf,hg,e,i,hi=>by
  rw[enc,enc]at e;have h1:=hf k (by lia)
  have h2:=hg k (by lia)
  have e1:f k=g k:=by have:=V7 (· % b) e;rw[Nat.add_mod,Lj,vG,Nat.mod_mod,Li h1,Nat.add_mod,Lj,vG,Nat.mod_mod,Li h2]at this;exact this
  by_cases c:i=k
  . rw[c];exact e1
  . refine xC k (λi hi=>hf i (by lia)) (λi hi=>hg i (by lia)) ?_ i (by lia)
    have hb:0<b:=by lia
    exact Nat.eq_of_mul_eq_mul_right hb (by lia)
structure Chain(P:Pb) where
 T:Nat->Tb
 a:Nat->Nat
 top:Nat->Int
 cf:Nat->Bool
structure Chain.Ok{P:Pb}(C:Chain P):Prop where
 ok:∀i,Sx.Ok P (C.T i)
 en:∀i,M9 P (C.T i) (C.a i)
 cr:∀i,C.cf i=true->∀j,j<C.a i->¬M9 P (C.T i) j
 st:∀i,Step P (C.T i) (C.a i) (C.top i) (C.T (i+1))
 cn:∀i,C.cf (i+1)=true↔C.top i=0
def cB(P:Pb)(T:Tb)(j:Nat):Prop:=∃k,k<P.m/\T.B k=j
structure Bd(P:Pb)(T:Tb)(j:Nat)(τ:Bool):Prop where
 b:∀k,k<P.m->T.B k=j->T.am P k=if τ=true then uv P j*T.size else 0
 n:¬cB P T j->T.full j=τ
def good(P:Pb)(j:Nat)(τ:Bool):Prop:=uv P j≠0\/(P.u j=none/\τ=false)
section
variable{P:Pb}{T T':Tb}{a l j:Nat}{g bot:Int}{tp τ:Bool}
theorem Bd.move(K:Ok P T)(K':Ok P T')(hj:j<P.n)(ha:a<P.n)(hb:∀k,k<P.m->T.B k≠a)(hl:l<P.m)(hbot:0<bot)(A:At P T a l tp 0 bot)(M:Move P T a l g tp T')(G:good P j τ)(B:Bd P T j τ):Bd P T' j τ:=by
 have hs:=K.u6.pos;have hs':=K'.u6.pos;have sb:0<bot*T.size:=G0 hbot hs;constructor
 . intro k hk e;have am:=K.xi K'.u6 hl A M hk;rw[M.tn.b k hk]at e;delta jM at am;by_cases c:k=l
   . rw[c7 c]at e am;subst e;have nb:¬cB P T a:=λ⟨k,hk,z⟩=>hb k hk z
     have hf:=B.n nb;rw[hf]at am;refine dh sb ?_;rw[am];cases τ<;>simp<;>grind
   . rw[e9 c]at e am;have:=B.b k hk e;rw[this]at am;refine dh sb ?_;rw[am];cases τ<;>simp<;>grind
 . intro nb;rw[M.full j hj];by_cases c:j=a
   . exact absurd ⟨l,hl,by rw[M.tn.b l hl,c7 rfl,c]⟩ nb
   . rw[e9 c];by_cases c2:j=T.B l
     . rw[c7 c2];have hb':=B.b l hl c2.symm;cases tp with
       |false =>
        have e:=(A.dn rfl).1;cases τ with
        |false=>rfl
        |true =>
         rw[<-e,c7 rfl]at hb';rcases G with G|G
         . have:=Int.mul_eq_zero.mp hb'.symm;lia
         . cases G.2
       |true =>
        obtain⟨e,_,hu⟩:=A.up rfl;cases τ with
        |true=>rfl
        |false =>
         rw[hb']at e;rcases G with G|G
         . rw[<-c2,e9 (by decide),qP]at e
           have:=Int.mul_eq_zero.mp e.symm;lia
         . rw[<-c2]at hu;exact absurd G.1 hu
     . rw[e9 c2];refine B.n λ⟨k,hk,e⟩=>nb ⟨k,hk,?_⟩
       rw[M.tn.b k hk,e9 λz=>c2 (by rw[<-e,z]),e]
theorem Bd.same(K:Ok P T)(K':Ok P T')(hj:j<P.n)(hb:∀k,k<P.m->T'.B k=T.B k)(hf:∀j,j<P.n->T'.full j=T.full j)(B:Bd P T j τ):Bd P T' j τ:=by
 constructor
 . intro k hk e;rw[hb k hk]at e;have h1:=Ef K.u6 K'.u6 hb (λp hp=>Ee K K' hf hp) hk
   rw[B.b k hk e]at h1;refine dh K.u6.pos ?_;rw[h1];cases τ<;>simp<;>grind
 . intro nb;rw[hf j hj];exact B.n λ⟨k,hk,e⟩=>nb ⟨k,hk,by rw[hb k hk];exact e⟩
theorem MX(L:H9 P T)(L2:H9 P T')(s t:Nat):T.size*T'.rest P t s=T'.size*T.rest P t s+sm P.m λr=>-(T'.i0 P s r*T.rest P t (T'.B r)):=by
 have e1:=my L2 s t;have e2:(sm P.m λr=>T'.i0 P s r*dot P.m (T.pr t) (P.A (T'.B r)))=T'.size*dot P.m (T.pr t) (P.A s):=by rw[<-nF,<-tU];exact jm (λ_ _=>rfl) λp hp=>L2.by (P.A s) hp
 have e3:(sm P.m λr=>-(T'.i0 P s r*T.rest P t (T'.B r)))=(sm P.m λr=>T'.i0 P s r*dot P.m (T.pr t) (P.A (T'.B r)))-T.size*sm P.m λr=>T'.i0 P s r*P.c t (T'.B r):=by
  rw[<-C6,<-gp];refine l8 λr _=>?_
  delta Tb.rest;generalize dot P.m (T.pr t) (P.A (T'.B r))=x;generalize T'.i0 P s r=y;generalize P.c t (T'.B r)=z;grind
 rw[e3,e2,e1];delta Tb.rest;generalize dot P.m (T.pr t) (P.A s)=x;generalize dot P.m (T'.pr t) (P.A s)=y;grind
end
structure Zero(P:Pb)(T:Tb)(a:Nat)(T':Tb)(l:Nat)(tp:Bool)(bot:Int):Prop where
 hl:l<P.m
 pb:0<bot
 at_:At P T a l tp 0 bot
 mv:∃g,Move P T a l g tp T'
 xW:∀k,k<P.m->(0<T.sg a*T.i0 P a k/\T.am P k=0)\/(T.sg a*T.i0 P a k<0/\∃v,P.u (T.B k)=some v/\T.am P k=v*T.size)->T.B l<=T.B k
theorem Step.zero{P:Pb}{T T':Tb}{a:Nat}(S:Step P T a 0 T')(E:M9 P T a):∃l tp bot,Zero P T a T' l tp bot:=by
 cases S with
 |flip hv ht hs F=>exact absurd rfl (by have:=E.u0;rw[hv,<-ht]at this;exact this)
 | @move l g tp bot hl hg hp hs A M hz=>exact⟨l,tp,bot,hl,hs.pb,A,⟨g,M⟩,hz rfl⟩
section
variable{P:Pb}{T T':Tb}{a l j:Nat}{bot:Int}{tp:Bool}
theorem Zero.Xw(Z:Zero P T a T' l tp bot)(h:cB P T' j)(nb:¬cB P T j):j=a:=by
 obtain⟨g,M⟩:=Z.mv;obtain⟨k,hk,e⟩:=h;rw[M.tn.b k hk]at e;by_cases c:k=l
 . rw[c7 c]at e;exact e.symm
 . rw[e9 c]at e;exact absurd ⟨k,hk,e⟩ nb
theorem Zero.Wt(Z:Zero P T a T' l tp bot)(h:cB P T j)(nb:¬cB P T' j):j=T.B l:=by
 obtain⟨g,M⟩:=Z.mv;obtain⟨k,hk,e⟩:=h;by_cases c:k=l
 . rw[<-c];exact e.symm
 . exact absurd ⟨k,hk,by rw[M.tn.b k hk,e9 c];exact e⟩ nb
end
theorem ik{Q:Nat->Prop}{p q:Nat}(h0:Q p)(hs:∀i,p<=i->i<q->Q i->Q (i+1)):∀i,p<=i->i<=q->Q i:=by
 intro i hp hq;induction i with
 |zero =>
  have:p=0:=by lia
  rw[<-this];exact h0
 |succ i ih =>
  by_cases c:p=i+1
  . rw[<-c];exact h0
  . exact hs i (by lia) (by lia) (ih (by lia) (by lia))
theorem Og{P:Pb}{C:Chain P}(H:C.Ok){p q:Nat}(hpq:p<q)(hz:∀i,p<=i->i<q->C.top i=0)(hc:∀i,p<=i->i<q->C.cf i=true)
  (hb:∀k,k<P.m->(C.T q).B k=(C.T p).B k) (hf:∀j,j<P.n->(C.T q).full j=(C.T p).full j):False:=by
 have zs:∀i,p<=i->i<q->∃l tp bot,Zero P (C.T i) (C.a i) (C.T (i+1)) l tp bot:=λi h1 h2=>by have s:=H.st i;rw[hz i h1 h2]at s;exact s.zero (H.en i)
 have nbE:∀i,¬cB P (C.T i) (C.a i):=λi ⟨k,hk,e⟩=>(H.en i).nb (H.ok i).u6 k hk e
 have bpq:∀j,cB P (C.T q) j↔cB P (C.T p) j:=λj=>⟨λ⟨k,hk,e⟩=>⟨k,hk,by rw[<-hb k hk];exact e⟩,λ⟨k,hk,e⟩=>⟨k,hk,by rw[hb k hk];exact e⟩⟩
 have fick:∀j i k,p<=i->i<=q->p<=k->k<=q->¬cB P (C.T i) j->cB P (C.T k) j->∃i',p<=i'/\i'<q/\C.a i'=j:=λj i k hi1 hi2 hk1 hk2 nb bk=>by
  apply sj;intro no;have up:∀x,p<=x->x<q->¬cB P (C.T x) j->¬cB P (C.T (x+1)) j:=λx h1 h2 h3 h4=>by obtain⟨l,tp,bot,Z⟩:=zs x h1 h2;exact no ⟨x,h1,h2,(Z.Xw h4 h3).symm⟩
  have q1:=ik (Q:=λx=>¬cB P (C.T x) j) (p:=i) (q:=q) nb (λx h1 h2 h3=>up x (by lia) h2 h3) q hi2 (o3 _)
  have q2:¬cB P (C.T p) j:=λz=>q1 ((bpq j).mpr z)
  exact ik (Q:=λx=>¬cB P (C.T x) j) (p:=p) (q:=q) q2 (λx h1 h2 h3=>up x h1 h2 h3) k hk1 hk2 bk
 have mx:∃i1,p<=i1/\i1<q/\∀i,p<=i->i<q->C.a i<=C.a i1:=by
  have:∀d,p+d<q->∃i1,p<=i1/\i1<=p+d/\∀i,p<=i->i<=p+d->C.a i<=C.a i1:=by
   intro d;induction d with
   |zero =>
    intro _;refine⟨p,o3 _,by lia,λi h1 h2=>?_⟩
    have:i=p:=by lia
    rw[this];exact o3 _
   |succ d ih =>
    intro hd;obtain⟨i1,h1,h2,h3⟩:=ih (by lia)
    by_cases c:C.a (p+(d+1))<=C.a i1
    . refine⟨i1,h1,by lia,λi g1 g2=>?_⟩
      by_cases e:i=p+(d+1)
      . rw[e];exact c
      . exact h3 i g1 (by lia)
    . refine⟨p+(d+1),by lia,o3 _,λi g1 g2=>?_⟩
      by_cases e:i=p+(d+1)
      . rw[e];exact o3 _
      . have:=h3 i g1 (by lia)
        lia
  obtain⟨i1,h1,h2,h3⟩:=this (q-1-p) (by lia)
  exact⟨i1,h1,by lia,λi g1 g2=>h3 i g1 (by lia)⟩
 obtain⟨i1,hi1,hi1',hmax⟩:=mx;have lv:∃i2 l tp bot,p<=i2/\i2<q/\Zero P (C.T i2) (C.a i2) (C.T (i2+1)) l tp bot/\(C.T i2).B l=C.a i1:=by
  apply sj;intro no;have up:∀x,p<=x->x<q->cB P (C.T x) (C.a i1)->cB P (C.T (x+1)) (C.a i1):=λx h1 h2 h3=>by apply sj;intro h4;obtain⟨l,tp,bot,Z⟩:=zs x h1 h2;exact no ⟨x,l,tp,bot,h1,h2,Z,(Z.Wt h3 h4).symm⟩
  obtain⟨l,tp,bot,Z⟩:=zs i1 hi1 hi1';obtain⟨g,M⟩:=Z.mv;have b1:cB P (C.T (i1+1)) (C.a i1):=⟨l,Z.hl,by rw[M.tn.b l Z.hl,c7 rfl]⟩
  have q1:=ik (Q:=λx=>cB P (C.T x) (C.a i1)) (p:=i1+1) (q:=q) b1 (λx h1 h2 h3=>up x (by lia) h2 h3) q (by lia) (o3 _)
  exact nbE i1 (ik (Q:=λx=>cB P (C.T x) (C.a i1)) (p:=p) (q:=q) ((bpq _).mp q1) (λx h1 h2 h3=>up x h1 h2 h3) i1 hi1 (by lia))
 obtain⟨i2,l,tp,bot,hi2,hi2',Z,hl⟩:=lv;have bd:∀i,p<=i->i<q->good P (C.a i) ((C.T i).full (C.a i))/\∀x,p<=x->x<=q->Bd P (C.T x) (C.a i) ((C.T i).full (C.a i)):=λi h1 h2=>by
  have hn:=(H.en i).an;have G:good P (C.a i) ((C.T i).full (C.a i)):=by
   cases e:P.u (C.a i)with
   |none =>
    refine .inr ⟨e,?_⟩;cases f:(C.T i).full (C.a i)
    . rfl
    . exact absurd e ((H.ok i).fu _ hn f).1
   |some v =>
    refine .inl λz=>(H.en i).u0 ?_
    unfold uv at z;rw[e]at z;have z':v=0:=z;rw[e,z']
  have up:∀x,p<=x->x<q->Bd P (C.T x) (C.a i) ((C.T i).full (C.a i))->Bd P (C.T (x+1)) (C.a i) ((C.T i).full (C.a i)):=λx g1 g2 B=>by obtain⟨l,tp,bot,Z⟩:=zs x g1 g2;obtain⟨g,M⟩:=Z.mv;exact B.move (H.ok x) (H.ok (x+1)) hn (H.en x).an ((H.en x).nb (H.ok x).u6) Z.hl Z.pb Z.at_ M G
  have B0:Bd P (C.T i) (C.a i) ((C.T i).full (C.a i)):=⟨λk hk e=>absurd ⟨k,hk,e⟩ (nbE i),λ_=>rfl⟩
  have q1:=ik (Q:=λx=>Bd P (C.T x) (C.a i) ((C.T i).full (C.a i))) (p:=i) (q:=q) B0 (λx g1 g2 g3=>up x (by lia) g2 g3) q (by lia) (o3 _)
  have q2:Bd P (C.T p) (C.a i) ((C.T i).full (C.a i)):=q1.same (H.ok q) (H.ok p) hn (λk hk=>(hb k hk).symm) λj hj=>(hf j hj).symm
  exact⟨G,ik (Q:=λx=>Bd P (C.T x) (C.a i) ((C.T i).full (C.a i))) q2 up⟩
 have K1:=H.ok i1;have K2:=H.ok i2;have E1:=H.en i1;have E2:=H.en i2;have C1:=H.cr i1 (hc i1 hi1 hi1');have tb2:cB P (C.T i2) (C.a i1):=⟨l,Z.hl,hl⟩;have sne:C.a i2≠C.a i1:=λz=>nbE i2 (by rw[z];exact tb2)
 have nn1:∀i,p<=i->i<q->C.a i≠C.a i1->¬Neg λt=>(C.T i1).sg (C.a i)*(C.T i1).rest P t (C.a i):=λi g1 g2 ne h=>by have:=hmax i g1 g2;exact C1 (C.a i) (by lia) ⟨(H.en i).an,(H.en i).u0,h⟩
 have e0:=MX K1.u6 K2.u6 (C.a i2);refine absurd ((E2.neg.mul K1.u6.pos).congr (v:=λt=>(C.T i2).size*((C.T i2).sg (C.a i2)*(C.T i1).rest P t (C.a i2))+sm P.m λr=>-(((C.T i2).sg (C.a i2)*(C.T i2).i0 P (C.a i2) r)*(C.T i1).rest P t ((C.T i2).B r))) λt _=>?_) (Jy (Ag (by have:=K2.u6.pos;lia) ?_) (Qr P.m λr hr=>?_))
 . have:=e0 t;have e3:(sm P.m λr=>-(((C.T i2).sg (C.a i2)*(C.T i2).i0 P (C.a i2) r)*(C.T i1).rest P t ((C.T i2).B r)))=(C.T i2).sg (C.a i2)*sm P.m λr=>-((C.T i2).i0 P (C.a i2) r*(C.T i1).rest P t ((C.T i2).B r)):=by
    rw[<-C6];refine l8 λr _=>?_
    generalize (C.T i2).sg (C.a i2)=x;generalize (C.T i2).i0 P (C.a i2) r=y;generalize (C.T i1).rest P t ((C.T i2).B r)=z;grind
   rw[e3];generalize (C.T i2).sg (C.a i2)=x at *;generalize (sm P.m λr=>-((C.T i2).i0 P (C.a i2) r*(C.T i1).rest P t ((C.T i2).B r)))=y at *
   generalize (C.T i2).rest P t (C.a i2)=z at *;generalize (C.T i1).rest P t (C.a i2)=w at *;grind
 . -- the entering one
   by_cases c:cB P (C.T i1) (C.a i2)
   . obtain⟨k,hk,e⟩:=c;exact iy λt _=>by rw[<-e,K1.u6.Ge hk,J6]
   . have f2:=((bd i2 hi2 hi2').2 i1 hi1 (by lia)).n c
     have:(C.T i2).sg (C.a i2)=(C.T i1).sg (C.a i2):=by unfold Tb.sg;rw[f2]
     rw[this];exact nn1 i2 hi2 hi2' sne
 . -- the chosen ones
   by_cases c:cB P (C.T i1) ((C.T i2).B r)
   . obtain⟨k,hk,e⟩:=c;exact iy λt _=>by rw[<-e,K1.u6.Ge hk,J6];rfl
   . obtain⟨i',g1,g2,g3⟩:=fick ((C.T i2).B r) i1 i2 hi1 (by lia) hi2 (by lia) c ⟨r,hr,rfl⟩
     obtain⟨G,B⟩:=bd i' g1 g2;rw[g3]at G B;generalize hτ:(C.T i').full ((C.T i2).B r)=τ at G B;have f1:=(B i1 hi1 (by lia)).n c
     have am:=(B i2 hi2 (by lia)).b r hr rfl
     by_cases ct:(C.T i2).B r=C.a i1
     . -- the greatest
       have erl:r=l:=K2.u6.inj r l hr Z.hl (by rw[ct,hl])
       subst erl;have hp:=Z.pb;have dn:=Z.at_.dn;have up:=Z.at_.up;have etp:τ=tp:=by
        cases tp with
        |false =>
         cases τ with
         |false=>rfl
         |true =>
          have:=(dn rfl).1;rw[am,c7 rfl]at this;rcases G with G|G
          . have:=Int.mul_eq_zero.mp this.symm;have:=K2.u6.pos;lia
          . cases G.2
        |true =>
         cases τ with
         |true=>rfl
         |false =>
          obtain⟨h1,_,h2⟩:=up rfl;rw[am]at h1;rcases G with G|G
          . rw[e9 (by decide),qP]at h1
            have:=Int.mul_eq_zero.mp h1.symm;have:=K2.u6.pos;lia
          . exact absurd G.1 h2
       have sg1:(C.T i1).sg ((C.T i2).B r)=if tp=true then -1 else 1:=by unfold Tb.sg;rw[f1,etp]
       have ng:Neg λt=>(C.T i1).sg ((C.T i2).B r)*(C.T i1).rest P t ((C.T i2).B r):=by have:=E1.neg;rw[<-ct]at this;exact this
       rw[sg1]at ng;cases tp with
       |false =>
        have h1:=(dn rfl).2;have:=Jx (p:=(C.T i2).sg (C.a i2)*(C.T i2).i0 P (C.a i2) r) (by lia) ng
        simp at this;exact this
       |true =>
        have h1:=(up rfl).2.1;have:=Jx (p:=-((C.T i2).sg (C.a i2)*(C.T i2).i0 P (C.a i2) r)) (by lia) ng
        refine λz=>this (z.congr λt _=>?_)
        simp;grind
     . have hle:(C.T i2).B r<C.a i1:=by have:=hmax i' g1 g2;lia
       have hn:=nn1 i' g1 g2 (by rw[g3];exact ct)
       rw[g3]at hn;have xW:=Z.xW r hr;rw[hl]at xW;cases τ with
       |false =>
        have sg1:(C.T i1).sg ((C.T i2).B r)=1:=by unfold Tb.sg;rw[f1];rfl
        rw[sg1]at hn;have hp:¬0<(C.T i2).sg (C.a i2)*(C.T i2).i0 P (C.a i2) r:=λz=>by
         have:=xW (.inl ⟨z,by rw[am];rfl⟩)
         lia
        have:=Ag (p:=-((C.T i2).sg (C.a i2)*(C.T i2).i0 P (C.a i2) r)) (by lia) hn
        refine λz=>this (z.congr λt _=>?_)
        grind
       |true =>
        have sg1:(C.T i1).sg ((C.T i2).B r) = -1:=by unfold Tb.sg;rw[f1];rfl
        rw[sg1]at hn;have hp:¬(C.T i2).sg (C.a i2)*(C.T i2).i0 P (C.a i2) r<0:=λz=>by
         have hu:=(K1.fu _ (K2.u6.bn r hr) f1).1;obtain⟨v,hv⟩:=Option.ne_none_iff_exists'.mp hu;have euv:uv P ((C.T i2).B r)=v:=by unfold uv;rw[hv];rfl
         have:=xW (.inr ⟨z,v,hv,by rw[am,c7 rfl,euv]⟩)
         lia
        have:=Ag (p:=(C.T i2).sg (C.a i2)*(C.T i2).i0 P (C.a i2) r) (by lia) hn
        refine λz=>this (z.congr λt _=>?_)
        grind
theorem Oi{P:Pb}{C:Chain P}(H:C.Ok):False:=by
 have hB:∀i k,k<P.m->(C.T i).B k<P.n:=λi k hk=>(H.ok i).u6.bn k hk
 let fb:Nat->Nat->Nat:=λi j=>if (C.T i).full j=true then 1 else 0
 have hF:∀i j,j<P.n->fb i j<2:=λi j _=>by dsimp only[fb];split<;>lia
 let key:Nat->Nat:=λi=>(enc P.n (C.T i).B P.m*2 ^ P.n+enc 2 (fb i) P.n)*2+(if C.cf i=true then 1 else 0)
 have hk:∀i,key i<(P.n ^ P.m*2 ^ P.n)*2:=λi=>by have h1:=qD P.m (hB i);have h2:=qD P.n (hF i);have h3:(enc P.n (C.T i).B P.m+1)*2 ^ P.n<=P.n ^ P.m*2 ^ P.n:=pk _ h1;rw[BH]at h3;dsimp only[key];split<;>lia
 obtain⟨p,q,hpq,_,e⟩:=IV _ key λi _=>hk i
 dsimp only[key]at e;have h2p:=qD P.n (hF p);have h2q:=qD P.n (hF q);have e1:(enc P.n (C.T p).B P.m*2 ^ P.n+enc 2 (fb p) P.n)=(enc P.n (C.T q).B P.m*2 ^ P.n+enc 2 (fb q) P.n)/\(C.cf p=C.cf q):=by generalize enc P.n (C.T p).B P.m*2 ^ P.n+enc 2 (fb p) P.n=x at e;generalize enc P.n (C.T q).B P.m*2 ^ P.n+enc 2 (fb q) P.n=y at e;cases hp:C.cf p<;>cases hq:C.cf q<;>rw[hp,hq]at e<;>simp only[A9,M6,aG]at e<;>first|exact⟨by lia,rfl⟩|(exfalso;lia)
 obtain⟨e1,ec⟩:=e1;have hz:0<2 ^ P.n:=Nat.two_pow_pos _;have e2:enc P.n (C.T p).B P.m=enc P.n (C.T q).B P.m:=by have:=V7 (· / 2 ^ P.n) e1;rw[nQ,Nat.mul_add_div hz,Lh h2p,nQ,Nat.mul_add_div hz,Lh h2q]at this;lia
 have e3:enc 2 (fb p) P.n=enc 2 (fb q) P.n:=by rw[e2]at e1;lia
 have hb:∀k,k<P.m->(C.T q).B k=(C.T p).B k:=λk hk=>(xC P.m (hB p) (hB q) e2 k hk).symm
 have hf:∀j,j<P.n->(C.T q).full j=(C.T p).full j:=λj hj=>by have:=xC P.n (hF p) (hF q) e3 j hj;dsimp only[fb]at this;cases h1:(C.T p).full j<;>cases h2:(C.T q).full j<;>rw[h1,h2]at this<;>simp at this<;>rfl
 have st:∀i,(0<C.top i->Neg (cmp P (C.T (i+1)) (C.T i)))/\(C.top i=0->∀t,cmp P (C.T (i+1)) (C.T i) t=0):=λi=>(H.st i).Xr (H.ok i) (H.en i)
 have nn:∀i,0<=C.top i:=λi=>(H.st i).nn
 have le:∀d i,Neg (cmp P (C.T (i+d)) (C.T i))\/∀t,t<3->cmp P (C.T (i+d)) (C.T i) t=0:=by
  intro d;induction d with
  |zero=>intro i;exact .inr λt _=>by delta cmp;simp
  |succ d ih =>
   intro i;have tr:=λt=>qG (P:=P) (T:=C.T i) (T':=C.T (i+d)) (T2:=C.T (i+d+1)) t
   have p1:=(H.ok (i+d)).u6.pos;have p2:=(H.ok i).u6.pos;have p3:=(H.ok (i+d+1)).u6.pos;by_cases c:0<C.top (i+d)
   . refine .inl (Neg.nq p1 (Neg.congr (λt _=>(tr t).symm) (Neg.add (((st (i+d)).1 c).mul p2) ?_)))
     rcases ih i with h|h
     . exact .inl (h.mul p3)
     . exact .inr λt ht=>by rw[h t ht,J6]
   . have z:=(st (i+d)).2 (by have:=nn (i+d);lia)
     rcases ih i with h|h
     . refine .inl (Neg.nq p1 (Neg.congr (λt _=>?_) (h.mul p3)))
       have:=tr t;rw[z t,J6,J2]at this;exact this.symm
     . refine .inr λt ht=>?_
       have:=tr t;rw[z t,h t ht,J6,J6,J2]at this;exact(Int.mul_eq_zero.mp this).resolve_left (by lia)
 have allz:∀i,p<=i->i<q->C.top i=0:=λi h1 h2=>by
  apply sj;intro c;have c':0<C.top i:=by have:=nn i;lia
  have a1:=le (i-p) p;rw[show p+(i-p)=i from by lia]at a1
  have a2:=(st i).1 c';have a3:=le (q-(i+1)) (i+1);rw[show i+1+(q-(i+1))=q from by lia]at a3
  have pp:=(H.ok p).u6.pos;have pi:=(H.ok i).u6.pos;have pj:=(H.ok (i+1)).u6.pos;have pq:=(H.ok q).u6.pos;have b1:Neg (cmp P (C.T (i+1)) (C.T p)):=by
   have tr:=λt=>qG (P:=P) (T:=C.T p) (T':=C.T i) (T2:=C.T (i+1)) t
   refine Neg.nq pi (Neg.congr (λt _=>(tr t).symm) (Neg.add (a2.mul pp) ?_))
   rcases a1 with h|h
   . exact .inl (h.mul pj)
   . exact .inr λt ht=>by rw[h t ht,J6]
  have b2:Neg (cmp P (C.T q) (C.T p)):=by
   have tr:=λt=>qG (P:=P) (T:=C.T p) (T':=C.T (i+1)) (T2:=C.T q) t
   refine Neg.nq pj (Neg.congr (λt _=>?_) (Neg.add (b1.mul pq) (v:=λt=>(C.T p).size*cmp P (C.T q) (C.T (i+1)) t) ?_))
   . rw[tr t];lia
   . rcases a3 with h|h
     . exact .inl (h.mul pp)
     . exact .inr λt ht=>by rw[h t ht,J6]
  exact iy (λt _=>MQ (H.ok p) (H.ok q) hb hf t) b2
 have cfq:C.cf q=true:=by
  have:=(H.cn (q-1)).mpr (allz (q-1) (by lia) (by lia))
  rw[show q-1+1=q from by lia]at this
  exact this
 have cfs:∀i,p<=i->i<q->C.cf i=true:=λi h1 h2=>by
  by_cases c:i=p
  . rw[c,ec];exact cfq
  . have:=(H.cn (i-1)).mpr (allz (i-1) (by lia) (by lia))
    rw[show i-1+1=i from by lia]at this
    exact this
 exact Og H hpq allz cfs hb hf
end Sx
set_option maxHeartbeats 4000000
namespace Law
open PySem L2
section
abbrev aO:c6:=(.tuple [(.int 0),(.int 1)])
abbrev dz:c6:=(.tuple [(.int 0),(.int 1),(.int 2)])
def W0:Ds->Option Bool:=(j8 (c9 V4 (b9 1) (fC (.int 0))))
def W2:Ds->Option Out:=(i6 (i7 2 (c9 bJ (b9 0) (b9 1))) (i6 (i7 0 (b9 1)) (i7 1 (b9 2))))
def O4:List c6->Option PV:=D2 2 3 (i6 (ej (rQ 1) W0 W2) (P4 0))
def U9:List c6->Option PV:=D2 2 3 (i6 (D1 (j8 (c9 O3 (b9 1) (fC (.int 0)))) AK t9) (i6 (i7 2 (g0 O4 (c5 (g0 ph (c5 (b9 0) c8)) (c5 (g0 ph (c5 (b9 1) c8)) c8)))) (i6 (D1 (j8 (c9 nt (b9 1) (fC (.int 0)))) (i7 2 (aa Q3 (b9 2))) t9) (u9 (C2 (c5 (c9 aj (b9 0) (b9 2)) (c5 (c9 aj (b9 1) (b9 2)) c8)))))))
def kL:List c6->Option PV:=D2 2 5 (i6 (i7 2 (g0 O4 (c5 (g0 ph (c5 (c9 j5 (b9 0) (fC (.int 0))) c8)) (c5 (c9 j5 (b9 1) (fC (.int 1))) c8)))) (i6 (i7 3 (g0 O4 (c5 (g0 ph (c5 (c9 j5 (b9 1) (fC (.int 0))) c8)) (c5 (c9 j5 (b9 0) (fC (.int 1))) c8)))) (i6 (i7 4 (c9 B4 (c9 aj (c9 j5 (b9 0) (fC (.int 0))) (b9 2)) (c9 aj (c9 j5 (b9 1) (fC (.int 0))) (b9 3)))) (u9 (C2 (c5 (b9 4) (c5 (c9 B4 (c9 aj (c9 j5 (b9 0) (fC (.int 1))) (b9 3)) (c9 aj (c9 j5 (b9 1) (fC (.int 1))) (b9 2))) c8)))))))
def T5:Ds->Option Out:=(i7 1 (c9 B4 (c9 j5 (g0 U9 (c5 (b9 1) (c5 (b9 2) c8))) (fC (.int 0))) (b9 2)))
def E9:List c6->Option PV:=D2 1 3 (i6 (i7 1 (fC (.int 1))) (i6 (F8 (L8 (b9 0)) (z9 2) T5) (P4 1)))
def fX:List c6->Option PV:=D2 2 2 (u9 (c9 B4 (c9 j5 (b9 0) (fC (.int 0))) (c9 aj (b9 1) (c9 j5 (b9 0) (fC (.int 1))))))
def mf:Ds->Option PV:=(c9 j5 (c9 j5 (b9 0) (b9 2)) (fC (.int 1)))
def gS:List c6->Option PV:=D2 2 2 (u9 (g0 E9 (c5 (m9 (L8 (b9 0)) m7 m6 mf) c8)))
def R5:Ds->Option PV:=(C2 (c5 (b9 0) (c5 (g0 fX (c5 (c9 j5 (b9 1) (b9 3)) (c5 (b9 4) c8))) c8)))
def R3:Ds->Option Bool:=(j8 (c9 V4 (c9 j5 (b9 1) (b9 3)) (fC aO)))
def eV:List c6->Option PV:=D2 3 3 (u9 (m9 (D7 kq (c5 (b9 0) c8)) (N7 2) R3 R5))
def gR:List c6->Option PV:=D2 2 3 (i6 (R8 2 (c9 mB (K9 (c5 (fC (.int 0)) c8)) (b9 0))) (i6 (S6 2 (b9 1) (fC (.int 1))) (P4 2)))
def mW:Ds->Option PV:=(c9 B4 (b9 0) (b9 1))
def jI:List c6->Option PV:=D2 2 2 (u9 (g0 wV (c5 (m9 (D7 cD (c5 (b9 0) (c5 (b9 1) c8))) (N7 2) m6 mW) c8)))
def P0:Ds->Option PV:=(c9 B4 (c9 j5 (b9 2) (b9 0)) (b9 1))
def U1:List c6->Option PV:=D2 2 2 (u9 (g0 wV (c5 (m9 (L8 (b9 1)) (N7 2) m6 P0) c8)))
def pF:Ds->Option PV:=(c9 aj (c9 oz (c9 B4 (b9 0) (b9 5)) (c9 B4 (b9 4) (b9 1))) (b9 6))
def fJ:List c6->Option PV:=D2 5 5 (i6 (D1 (fE (j8 (c9 O3 (b9 2) (fC (.int 0)))) (j8 (c9 O3 (b9 3) (b9 4)))) (P4 0) t9) (u9 (m9 (D7 cD (c5 (b9 0) (c5 (b9 1) c8))) (N7 2) m6 pF)))
def aS:Ds->Option PV:=(c9 j5 (c9 j5 (A1 "Table" "weights" (b9 1)) (b9 2)) (b9 0))
def E6:List c6->Option PV:=D2 2 2 (u9 (m9 (L8 (A1 "Table" "chosen" (b9 0))) m7 m6 aS))
def Y4:Ds->Option PV:=(jl (j8 (c9 gz (b9 0) (fC .none))) (fC .none) (g0 kL (c5 (b9 0) (c5 (C2 (c5 (fC (.int 1)) (c5 (b9 1) c8))) c8))))
def Y3:Ds->Option PV:=(c9 j5 (b9 0) (fC (.int 1)))
def G4:Ds->Option PV:=(c9 j5 (b9 0) (fC (.int 1)))
def F9:Ds->Option Bool:=(j8 (c9 cI (b9 0) (fC .none)))
def Y2:Ds->Option PV:=(g0 fX (c5 (b9 0) (c5 (F6 "Table" 1 "unit") c8)))
def Y1:Ds->Option PV:=(jl (j8 (c9 gz (b9 0) (fC .none))) (fC .none) (g0 fX (c5 (b9 0) (c5 (F6 "Table" 1 "unit") c8))))
def V8:List PV->Option (PV×Ds):=nE 3 5 (i6 (i7 3 (m9 (D7 cD (c5 (b9 2) (c5 (F6 "Table" 0 "scales") c8))) (N7 2) m6 Y4)) (i6 (i7 4 (c9 v8 (m9 (L8 (b9 1)) m7 m6 Y3) (m9 (L8 (b9 3)) m7 F9 G4))) (i6 (S7 "Table" 0 "unit" gE (g0 E9 (c5 (b9 4) c8))) (i6 (S7 "Table" 0 "rights" iM (m9 (L8 (b9 1)) m7 m6 Y2)) (S7 "Table" 0 "limits" gE (m9 (L8 (b9 3)) m7 m6 Y1))))))
def P1:Ds->Option PV:=(g0 kL (c5 (c9 j5 (b9 0) (b9 4)) (c5 (C2 (c5 (b9 1) (c5 (fC (.int 1)) c8))) c8)))
def W8:Ds->Option PV:=(c9 j5 (b9 0) (fC (.int 1)))
def W7:Ds->Option PV:=(g0 fX (c5 (b9 0) (c5 (b9 5) c8)))
def W9:Ds->Option Out:=(i6 (i7 3 (m9 (D7 cD (c5 (b9 1) (c5 (F6 "Table" 0 "scales") c8))) (N7 2) m6 P1)) (i6 (i7 4 (g0 E9 (c5 (m9 (L8 (b9 3)) m7 m6 W8) c8))) (i6 (mG "Table" 0 "multiples" (b9 4)) (mG "Table" 0 "weights" (m9 (L8 (b9 3)) m7 m6 W7)))))
def T4:List PV->Option (PV×Ds):=nE 2 5 (i6 (S7 "Table" 0 "multiples" iM (K9 c8)) (i6 (S7 "Table" 0 "weights" iM (K9 c8)) (F8 (L8 (fC dz)) (z9 2) W9)))
def bX:Ds->Option PV:=(g0 gS (c5 (b9 3) (c5 (b9 0) c8)))
def bW:Ds->Option PV:=(g0 eV (c5 (b9 4) (c5 (b9 0) (c5 (b9 1) c8))))
def fN:Ds->Option PV:=(g0 gR (c5 (g0 J9 (c5 (b9 6) c8)) (c5 (b9 0) c8)))
def fM:Ds->Option PV:=(T9 (K4 "Table" "first_prices" E6 (K8 1) (c5 (b9 0) c8)))
def Z3:List PV->Option (PV×Ds):=nE 6 6 (i6 (S7 "Table" 0 "scales" gE (m9 (D7 I0 (c5 (g0 J9 (c5 (b9 1) c8)) c8)) m7 m6 bX)) (i6 (S7 "Table" 0 "columns" gE (m9 (D7 kq (c5 (F6 "Table" 0 "scales") c8)) (N7 2) m6 bW)) (i6 (J1 (G5 "Table" "set_weights" 0 T4 (G9 (b9 1) cz))) (i6 (J1 (G5 "Table" "set_limits" 0 V8 (G9 (b9 3) (G9 (b9 4) cz)))) (i6 (S7 "Table" 0 "chosen" iM (g0 oN (c5 (b9 5) c8))) (i6 (S7 "Table" 0 "full" iM (c9 mB (K9 (c5 (fC (.bool false)) c8)) (g0 J9 (c5 (b9 1) c8)))) (i6 (S7 "Table" 0 "size" gE (fC (.int 1))) (i6 (S7 "Table" 0 "inverse" gE (m9 (D7 I0 (c5 (g0 J9 (c5 (b9 5) c8)) c8)) m7 m6 fN)) (S7 "Table" 0 "prices" iM (m9 (L8 (fC dz)) m7 m6 fM))))))))))
def N5:List c6->Option PV:=D2 3 3 (u9 (c9 oz (c9 B4 (c9 j5 (c9 j5 (A1 "Table" "weights" (b9 0)) (b9 1)) (b9 2)) (A1 "Table" "size" (b9 0))) (g0 U1 (c5 (c9 j5 (A1 "Table" "prices" (b9 0)) (b9 1)) (c5 (c9 j5 (A1 "Table" "columns" (b9 0)) (b9 2)) c8)))))
def dU:Ds->Option PV:=(g0 jI (c5 (b9 0) (c5 (A1 "Table" "rights" (b9 1)) c8)))
def M8:List c6->Option PV:=D2 1 1 (u9 (m9 (L8 (A1 "Table" "inverse" (b9 0))) m7 m6 dU))
def gZ:Ds->Option PV:=(g0 U1 (c5 (b9 0) (c5 (c9 j5 (A1 "Table" "columns" (b9 1)) (b9 2)) c8)))
def R4:List c6->Option PV:=D2 2 2 (u9 (m9 (L8 (A1 "Table" "inverse" (b9 0))) m7 m6 gZ))
def bC:Ds->Option Out:=(aW "Table" 0 "rights" (b9 3) (c9 v8 (gC "Table" 0 "rights" (b9 3)) (c9 B4 (b9 2) (b9 4))))
def G8:List PV->Option (PV×Ds):=nE 2 5 (i6 (i7 2 (jl (j8 (gC "Table" 0 "full" (b9 1))) (c9 j5 (F6 "Table" 0 "limits") (b9 1)) (aa Q3 (c9 j5 (F6 "Table" 0 "limits") (b9 1))))) (i6 (aW "Table" 0 "full" (b9 1) (qA (gC "Table" 0 "full" (b9 1)))) (F8 (L8 (c9 j5 (F6 "Table" 0 "columns") (b9 1))) (jN 2 (U2 3 (U2 4 jO))) bC)))
def bB:Ds->Option Out:=(i6 (i7 8 (c9 B4 (aa Q3 (b9 4)) (T9 (K4 "Table" "rest" N5 (K8 0) (c5 (b9 7) (c5 (b9 1) c8)))))) (aW "Table" 0 "prices" (b9 7) (g0 fJ (c5 (gC "Table" 0 "prices" (b9 7)) (c5 (b9 6) (c5 (b9 8) (c5 (b9 5) (c5 (F6 "Table" 0 "size") c8))))))))
def dO:Ds->Option PV:=(g0 fJ (c5 (b9 0) (c5 (b9 8) (c5 (c9 B4 (b9 6) (b9 1)) (c5 (b9 7) (c5 (F6 "Table" 2 "size") c8))))))
def bx:Ds->Option PV:=(c9 B4 (b9 5) (b9 0))
def bu:List PV->Option (PV×Ds):=nE 4 10 (i6 (D1 (j8 (gC "Table" 0 "full" (b9 1))) (J1 (G5 "Table" "flip" 0 G8 (G9 (b9 1) cz))) t9) (i6 (i7 4 (jl (j8 (c9 mF (c9 j5 (b9 3) (b9 2)) (fC (.int 0)))) (fC (.int 1)) (aa Q3 (fC (.int 1))))) (i6 (i7 5 (c9 B4 (b9 4) (c9 j5 (b9 3) (b9 2)))) (i6 (i7 6 (c9 j5 (F6 "Table" 0 "inverse") (b9 2))) (i6 (F8 (L8 (fC dz)) (z9 7) bB) (i6 (R8 9 (m9 (D7 cD (c5 (F6 "Table" 0 "inverse") (c5 (b9 3) c8))) (N7 2) m6 dO)) (i6 (S6 9 (b9 2) (m9 (L8 (b9 6)) m7 m6 bx)) (i6 (iO 9 (S7 "Table" 0 "inverse" gE (b9 9))) (i6 (S7 "Table" 0 "size" gE (b9 5)) (aW "Table" 0 "chosen" (b9 2) (b9 1)))))))))))
def jc:Ds->Option Out:=(i6 (i7 4 (c9 B4 (b9 2) (K4 "Table" "rest" N5 (b9 0) (c5 (b9 3) (c5 (b9 1) c8))))) (D1 (j8 (c9 V4 (b9 4) (fC (.int 0)))) (u9 (jl (j8 (c9 nt (b9 4) (fC (.int 0)))) (C2 (c5 (b9 3) (c5 (b9 4) c8))) (fC .none))) t9))
def jL:List c6->Option PV:=D2 2 5 (i6 (D1 (j8 (c9 O3 (c9 j5 (A1 "Table" "limits" (b9 0)) (b9 1)) (fC (.int 0)))) (u9 (fC .none)) t9) (i6 (i7 2 (jl (j8 (c9 j5 (A1 "Table" "full" (b9 0)) (b9 1))) (aa Q3 (fC (.int 1))) (fC (.int 1)))) (i6 (F8 (L8 (fC dz)) (z9 3) jc) (u9 (fC .none)))))
def Y6:Ds->Option Out:=(i6 (i7 5 (g0 jL (c5 (b9 0) (c5 (b9 4) c8)))) (D1 (fE (j8 (c9 cI (b9 5) (fC .none))) (dR (j8 (c9 gz (b9 2) (fC .none))) (j8 (c9 tM (b9 5) (b9 3))))) (i6 (i7 2 (b9 4)) (i6 (i7 3 (b9 5)) (D1 (j8 (b9 1)) (P4 2) t9))) t9))
def fK:List c6->Option PV:=D2 2 6 (i6 (i7 2 (fC .none)) (i6 (i7 3 (fC .none)) (i6 (F8 (D7 I0 (c5 (g0 J9 (c5 (A1 "Table" "full" (b9 0)) c8)) c8)) (z9 4) Y6) (P4 2))))
def gj:Ds->Option Out:=(i6 (i7 7 (c9 j5 (A1 "Table" "chosen" (b9 0)) (b9 5))) (i6 (i7 8 (c9 j5 (A1 "Table" "limits" (b9 0)) (b9 7))) (i6 (i7 9 (c9 B4 (b9 4) (c9 j5 (b9 2) (b9 5)))) (D1 (j8 (c9 mF (b9 9) (fC (.int 0)))) (fB 3 (C2 (c5 (b9 6) (c5 (b9 9) (c5 (b9 7) (c5 (b9 5) (c5 (fC (.bool false)) c8))))))) (D1 (fE (j8 (c9 nt (b9 9) (fC (.int 0)))) (j8 (c9 cI (b9 8) (fC .none)))) (fB 3 (C2 (c5 (c9 oz (c9 B4 (b9 8) (A1 "Table" "size" (b9 0))) (b9 6)) (c5 (aa Q3 (b9 9)) (c5 (b9 7) (c5 (b9 5) (c5 (fC (.bool true)) c8))))))) t9)))))
def fY:List c6->Option PV:=D2 3 10 (i6 (R8 3 (K9 c8)) (i6 (D1 (j8 (c9 cI (c9 j5 (A1 "Table" "limits" (b9 0)) (b9 1)) (fC .none))) (fB 3 (C2 (c5 (c9 j5 (A1 "Table" "limits" (b9 0)) (b9 1)) (c5 (fC (.int 1)) (c5 (b9 1) (c5 (fC .none) (c5 (fC (.bool false)) c8))))))) t9) (i6 (i7 4 (jl (j8 (c9 j5 (A1 "Table" "full" (b9 0)) (b9 1))) (aa Q3 (fC (.int 1))) (fC (.int 1)))) (i6 (F8 (D7 kq (c5 (K4 "Table" "amounts" M8 (b9 0) c8) c8)) (jN 2 (U2 5 (U2 6 jO))) gj) (P4 3)))))
def md:List c6->Option PV:=D2 2 4 (i6 (i7 2 (c9 B4 (c9 j5 (b9 0) (fC (.int 0))) (c9 j5 (b9 1) (fC (.int 1))))) (i6 (i7 3 (c9 B4 (c9 j5 (b9 1) (fC (.int 0))) (c9 j5 (b9 0) (fC (.int 1))))) (u9 (Fn (c9 nt (b9 2) (b9 3)) (iF (c9 O3 (b9 2) (b9 3)) (c9 nt (c9 j5 (b9 0) (fC (.int 2))) (c9 j5 (b9 1) (fC (.int 2)))))))))
def Z4:Ds->Option Out:=(D1 (dR (j8 (c9 gz (b9 1) (fC .none))) (j8 (g0 md (c5 (b9 2) (c5 (b9 1) c8))))) (i7 1 (b9 2)) t9)
def ah:List c6->Option PV:=D2 1 3 (i6 (i7 1 (fC .none)) (i6 (F8 (L8 (b9 0)) (z9 2) Z4) (P4 1)))
def jJ:List PV->Option (PV×Ds):=nE 4 4 (i6 (D1 (j8 (c9 gz (c9 j5 (b9 3) (fC (.int 3))) (fC .none))) (i6 (J1 (G5 "Table" "flip" 0 G8 (G9 (b9 1) cz))) lg) t9) (i6 (J1 (G5 "Table" "turn" 0 bu (G9 (b9 1) (G9 (c9 j5 (b9 3) (fC (.int 3))) (G9 (b9 2) cz))))) (D1 (j8 (c9 j5 (b9 3) (fC (.int 4)))) (J1 (G5 "Table" "flip" 0 G8 (G9 (c9 j5 (b9 3) (fC (.int 2))) cz))) t9)))
def pG:Ds->Option PV:=(jl (j8 (b9 1)) (b9 0) (fC aO))
def kG:Ds->Option Out:=(S6 2 (b9 3) (g0 U9 (c5 (c9 B4 (b9 4) (c9 j5 (A1 "Table" "scales" (b9 0)) (b9 3))) (c5 (c9 B4 (A1 "Table" "size" (b9 0)) (A1 "Table" "unit" (b9 0))) c8))))
def aQ:List c6->Option PV:=D2 2 5 (i6 (R8 2 (m9 (D7 cD (c5 (b9 1) (c5 (A1 "Table" "full" (b9 0)) c8))) (N7 2) m6 pG)) (i6 (F8 (D7 cD (c5 (A1 "Table" "chosen" (b9 0)) (c5 (K4 "Table" "amounts" M8 (b9 0) c8) c8))) (jN 2 (U2 3 (U2 4 jO))) kG) (P4 2)))
def bw:Ds->Option PV:=(g0 U9 (c5 (c9 j5 (c9 j5 (A1 "Table" "prices" (b9 1)) (b9 0)) (b9 2)) (c5 (c9 B4 (A1 "Table" "size" (b9 1)) (c9 j5 (A1 "Table" "multiples" (b9 1)) (b9 0))) c8)))
def gT:List c6->Option PV:=D2 2 3 (i6 (i7 2 (m9 (L8 (fC dz)) m7 m6 bw)) (u9 (g0 pS (c5 (b9 2) c8))))
def kF:Ds->Option Out:=(S6 3 (b9 4) (g0 U9 (c5 (c9 B4 (aa Q3 (b9 5)) (c9 j5 (A1 "Table" "scales" (b9 0)) (b9 4))) (c5 (A1 "Table" "size" (b9 0)) c8))))
def fI:List c6->Option PV:=D2 3 6 (i6 (R8 3 (c9 mB (K9 (c5 (fC aO) c8)) (g0 J9 (c5 (A1 "Table" "full" (b9 0)) c8)))) (i6 (S6 3 (b9 1) (C2 (c5 (c9 j5 (A1 "Table" "scales" (b9 0)) (b9 1)) (c5 (fC (.int 1)) c8)))) (i6 (F8 (D7 cD (c5 (A1 "Table" "chosen" (b9 0)) (c5 (b9 2) c8))) (jN 2 (U2 4 (U2 5 jO))) kF) (P4 3))))
def aK:Ds->Option Bool:=(j8 (c9 cI (b9 6) (fC .none)))
def Y5:Ds->Option Out:=(i6 (i7 7 (T9 (K4 "Table" "paces" R4 (K8 5) (c5 (b9 6) c8)))) (i6 (i7 8 (g0 ah (c5 (T9 (g0 fY (c5 (K8 5) (c5 (b9 6) (c5 (b9 7) c8))))) c8))) (i6 (D1 (j8 (c9 gz (b9 8) (fC .none))) (u9 (C2 (c5 (fC (.str "endless")) (c5 (T9 (g0 aQ (c5 (K8 5) (c5 (b9 3) c8)))) (c5 (T9 (g0 fI (c5 (K8 5) (c5 (b9 6) (c5 (b9 7) c8))))) c8))))) t9) (i6 (J1 (gD jJ (eY 5 (G9 (b9 6) (G9 (b9 7) (G9 (b9 8) cz)))))) (i7 6 (T9 (g0 fK (c5 (K8 5) (c5 (c9 O3 (c9 j5 (b9 8) (fC (.int 0))) (fC (.int 0))) c8)))))))))
def kD:Ds->Option PV:=(T9 (g0 gT (c5 (K8 6) (c5 (b9 0) c8))))
def aP:List c6->Option PV:=D2 5 9 (i6 (R8 5 (rY "Table" Z3 (c5 (b9 0) (c5 (b9 1) (c5 (b9 2) (c5 (b9 3) (c5 (b9 4) c8))))))) (i6 (i7 6 (T9 (g0 fK (c5 (K8 5) (c5 (fC (.bool false)) c8))))) (i6 (ej (GO aK Y5) aK Y5) (u9 (C2 (c5 (fC (.str "best")) (c5 (T9 (g0 aQ (c5 (K8 5) (c5 (b9 3) c8)))) (c5 (m9 (D7 I0 (c5 (g0 J9 (c5 (b9 1) c8)) c8)) m7 m6 kD) c8))))))))
def B1:List c6->Option PV:=D2 3 5 (i6 (i7 3 (fC (.int 0))) (i6 (D1 (j8 (c9 mF (g0 J9 (c5 (b9 0) c8)) (fC (.int 0)))) (i6 (i7 3 (c9 j5 (b9 0) (c9 bJ (b9 1) (g0 J9 (c5 (b9 0) c8))))) (D1 (j8 (c9 O3 (c9 bJ (c9 j5 (b9 0) (fC (.int 0))) (fC (.int 2))) (fC (.int 1)))) (u9 (c9 bJ (c9 bJ (c9 FZ (c9 aj (b9 3) (fC (.int 2))) (c9 B4 (fC (.int 32)) (c9 aj (b9 1) (g0 J9 (c5 (b9 0) c8))))) (c9 tF (fC (.int 2)) (fC (.int 32)))) (b9 2))) t9)) t9) (i6 (i7 4 (c9 bJ (c9 B4 (c9 v8 (c9 bJ (b9 3) (fC (.int 1000003))) (fC (.int 1))) (c9 v8 (c9 v8 (c9 B4 (b9 1) (b9 1)) (b9 1)) (fC (.int 41)))) (fC (.int 999983)))) (u9 (c9 bJ (c9 aj (c9 bJ (c9 B4 (c9 bJ (c9 B4 (b9 4) (c9 v8 (b9 4) (fC (.int 7919)))) (fC (.int 2147483647))) (fC (.int 69621))) (fC (.int 2147483629))) (fC (.int 11))) (b9 2))))))
def hG:Ds->Option Bool:=(j8 (c9 mF (b9 3) (fC (.int 0))))
def hV:Ds->Option Out:=(i6 (i7 4 (c9 bJ (b9 2) (b9 3))) (i6 (i7 2 (b9 3)) (i7 3 (b9 4))))
def bR:List c6->Option PV:=D2 2 5 (i6 (i7 2 (g0 ph (c5 (b9 0) c8))) (i6 (i7 3 (b9 1)) (i6 (ej (rQ 3) hG hV) (u9 (C2 (c5 (c9 aj (b9 0) (b9 2)) (c5 (c9 aj (b9 1) (b9 2)) c8)))))))
def dN:List c6->Option PV:=D2 2 2 (u9 (g0 bR (c5 (c9 v8 (c9 B4 (c9 j5 (b9 0) (fC (.int 0))) (c9 j5 (b9 1) (fC (.int 1)))) (c9 B4 (c9 j5 (b9 1) (fC (.int 0))) (c9 j5 (b9 0) (fC (.int 1))))) (c5 (c9 B4 (c9 j5 (b9 0) (fC (.int 1))) (c9 j5 (b9 1) (fC (.int 1)))) c8))))
def gd:List c6->Option PV:=D2 2 2 (u9 (g0 bR (c5 (c9 B4 (c9 j5 (b9 0) (fC (.int 0))) (c9 j5 (b9 1) (fC (.int 0)))) (c5 (c9 B4 (c9 j5 (b9 0) (fC (.int 1))) (c9 j5 (b9 1) (fC (.int 1)))) c8))))
def pH:Ds->Option PV:=(g0 dN (c5 (c9 j5 (b9 1) (b9 0)) (c5 (g0 gd (c5 (c9 j5 (b9 2) (b9 0)) (c5 (b9 3) c8))) c8)))
def bS:List c6->Option PV:=D2 3 3 (u9 (g0 pS (c5 (m9 (D7 I0 (c5 (fC (.int 3)) c8)) m7 m6 pH) c8)))
def gi:List c6->Option PV:=D2 2 2 (u9 (c9 nt (c9 B4 (c9 j5 (b9 0) (fC (.int 0))) (c9 j5 (b9 1) (fC (.int 1)))) (c9 B4 (c9 j5 (b9 1) (fC (.int 0))) (c9 j5 (b9 0) (fC (.int 1))))))
def jW:Ds->Option Out:=(D1 (j8 (c9 V4 (c9 j5 (b9 0) (b9 2)) (c9 j5 (b9 1) (b9 2)))) (u9 (g0 gi (c5 (c9 j5 (b9 0) (b9 2)) (c5 (c9 j5 (b9 1) (b9 2)) c8)))) t9)
def cx:List c6->Option PV:=D2 2 3 (i6 (F8 (D7 I0 (c5 (fC (.int 3)) c8)) (z9 2) jW) (u9 (fC (.bool false))))
def da:List c6->Option PV:=D2 1 1 (u9 (C2 (c5 (c9 oz (fC (.int 0)) (c9 j5 (b9 0) (fC (.int 0)))) (c5 (c9 j5 (b9 0) (fC (.int 1))) c8))))
def fZ:List c6->Option PV:=D2 1 1 (u9 (iF (bM "int" (b9 0)) (qA (bM "bool" (b9 0)))))
def W6:List c6->Option PV:=D2 1 1 (i6 (D1 (dR (cO (j8 (bM "tuple" (b9 0)))) (dR (j8 (c9 V4 (g0 J9 (c5 (b9 0) c8)) (fC (.int 2)))) (dR (cO (j8 (g0 fZ (c5 (c9 j5 (b9 0) (fC (.int 0))) c8)))) (cO (j8 (g0 fZ (c5 (c9 j5 (b9 0) (fC (.int 1))) c8))))))) (u9 (fC (.bool false))) t9) (u9 (iF (c9 mF (c9 j5 (b9 0) (fC (.int 1))) (fC (.int 0))) (c9 O3 (g0 bR (c5 (c9 j5 (b9 0) (fC (.int 0))) (c5 (c9 j5 (b9 0) (fC (.int 1))) c8))) (b9 0)))))
def gY:Ds->Option PV:=(g0 W6 (c5 (b9 0) c8))
def cv:List c6->Option PV:=D2 1 1 (i6 (D1 (dR (cO (j8 (bM "tuple" (b9 0)))) (j8 (c9 V4 (g0 J9 (c5 (b9 0) c8)) (fC (.int 3))))) (u9 (fC (.bool false))) t9) (u9 (g0 qH (c5 (m9 (L8 (b9 0)) m7 m6 gY) c8))))
def E5:List c6->Option PV:=D2 4 6 (i6 (i7 4 (c9 j5 (K9 (c5 (fC (.int 1)) (c5 (fC (.int 1)) (c5 (fC (.int 1)) (c5 (fC (.int 2)) (c5 (fC (.int 3)) (c5 (fC (.int 10)) c8))))))) (g0 B1 (c5 (b9 0) (c5 (c9 v8 (b9 1) (fC (.int 1900))) (c5 (fC (.int 6)) c8)))))) (i6 (i7 5 (c9 j5 (K9 (c5 (fC (.int 1)) (c5 (fC (.int 1)) (c5 (fC (.int 1)) (c5 (fC (.int 1)) (c5 (fC (.int 1)) (c5 (fC (.int 1000)) c8))))))) (g0 B1 (c5 (b9 0) (c5 (fC (.int 1)) (c5 (fC (.int 6)) c8)))))) (u9 (g0 bR (c5 (c9 B4 (b9 5) (c9 v8 (b9 2) (g0 B1 (c5 (b9 0) (c5 (b9 1) (c5 (c9 v8 (c9 oz (b9 3) (b9 2)) (fC (.int 1))) c8)))))) (c5 (b9 4) c8))))))
def iJ:List c6->Option PV:=D2 2 5 (i6 (i7 2 (C2 (c5 (fC (.int 0)) (c5 (fC (.int 1)) c8)))) (i6 (i7 3 (C2 (c5 (fC (.int 0)) (c5 (fC (.int 1)) c8)))) (i6 (D1 (j8 (c9 O3 (g0 B1 (c5 (b9 0) (c5 (c9 v8 (b9 1) (fC (.int 1))) (c5 (fC (.int 3)) c8)))) (fC (.int 0)))) (i7 2 (g0 E5 (c5 (b9 0) (c5 (c9 v8 (b9 1) (fC (.int 2))) (c5 (aa Q3 (fC (.int 2))) (c5 (fC (.int 3)) c8)))))) t9) (i6 (D1 (j8 (c9 O3 (g0 B1 (c5 (b9 0) (c5 (c9 v8 (b9 1) (fC (.int 3))) (c5 (fC (.int 2)) c8)))) (fC (.int 0)))) (i7 3 (g0 E5 (c5 (b9 0) (c5 (c9 v8 (b9 1) (fC (.int 4))) (c5 (aa Q3 (fC (.int 2))) (c5 (fC (.int 3)) c8)))))) t9) (i6 (i7 4 (g0 E5 (c5 (b9 0) (c5 (c9 v8 (b9 1) (fC (.int 5))) (c5 (aa Q3 (fC (.int 6))) (c5 (fC (.int 9)) c8)))))) (i6 (D1 (j8 (c9 O3 (g0 B1 (c5 (b9 0) (c5 (c9 v8 (b9 1) (fC (.int 6))) (c5 (fC (.int 12)) c8)))) (fC (.int 0)))) (i6 (i7 2 (C2 (c5 (c9 oz (c9 B4 (fC (.int 2)) (g0 B1 (c5 (b9 0) (c5 (c9 v8 (b9 1) (fC (.int 7))) (c5 (fC (.int 2)) c8))))) (fC (.int 1))) (c5 (c9 tF (fC (.int 10)) (fC (.int 60))) c8)))) (i7 4 (g0 bR (c5 (c9 B4 (c9 j5 (b9 4) (fC (.int 0))) (c9 tF (fC (.int 10)) (fC (.int 60)))) (c5 (c9 j5 (b9 4) (fC (.int 1))) c8))))) t9) (u9 (C2 (c5 (b9 2) (c5 (b9 3) (c5 (b9 4) c8)))))))))))
def mn:Ds->Option PV:=(C2 (c5 (g0 B1 (c5 (b9 1) (c5 (c9 v8 (fC (.int 40)) (b9 0)) (c5 (fC (.int 1000)) c8)))) (c5 (b9 0) c8)))
def mj:Ds->Option PV:=(c9 j5 (b9 0) (fC (.int 1)))
def bU:List c6->Option PV:=D2 3 4 (i6 (i7 3 (g0 rH (c5 (m9 (D7 I0 (c5 (b9 1) c8)) m7 m6 mn) c8))) (u9 (m9 (L8 (cK fP (b9 3) U4 (R9 (b9 2)))) m7 m6 mj)))
def hJ:Ds->Option Out:=(i6 (i7 7 (C2 (c5 (fC (.int 0)) (c5 (fC (.int 1)) c8)))) (i6 (D1 (fE (j8 (c9 ql (b9 6) (b9 2))) (j8 (c9 mF (g0 B1 (c5 (b9 0) (c5 (c9 v8 (c9 v8 (fC (.int 100)) (c9 B4 (fC (.int 20)) (b9 4))) (b9 6)) (c5 (fC (.int 3)) c8)))) (fC (.int 0))))) (i7 7 (g0 E5 (c5 (b9 0) (c5 (c9 v8 (c9 v8 (fC (.int 300)) (c9 B4 (fC (.int 20)) (b9 4))) (b9 6)) (c5 (aa Q3 (fC (.int 4))) (c5 (fC (.int 6)) c8)))))) t9) (fB 5 (b9 7))))
def kH:Ds->Option Out:=(i6 (R8 5 (K9 c8)) (i6 (F8 (D7 I0 (c5 (b9 1) c8)) (z9 6) hJ) (i6 (S6 5 (c9 j5 (b9 2) (b9 4)) (C2 (c5 (fC (.int 1)) (c5 (fC (.int 1)) c8)))) (iO 5 (fB 3 (b9 5))))))
def cZ:List c6->Option PV:=D2 3 8 (i6 (R8 3 (K9 c8)) (i6 (F8 (D7 I0 (c5 (g0 J9 (c5 (b9 2) c8)) c8)) (z9 4) kH) (P4 3)))
def fj:Ds->Option Out:=(D1 (fE (j8 (c9 V4 (c9 j5 (c9 j5 (b9 0) (b9 3)) (fC (.int 0))) (fC (.int 0)))) (j8 (c9 V4 (c9 j5 (c9 j5 (b9 1) (b9 3)) (fC (.int 0))) (fC (.int 0))))) (i7 2 (g0 dN (c5 (b9 2) (c5 (g0 gd (c5 (c9 j5 (b9 0) (b9 3)) (c5 (c9 j5 (b9 1) (b9 3)) c8))) c8)))) t9)
def aR:List c6->Option PV:=D2 2 4 (i6 (i7 2 (C2 (c5 (fC (.int 0)) (c5 (fC (.int 1)) c8)))) (i6 (F8 (D7 I0 (c5 (g0 J9 (c5 (b9 0) c8)) c8)) (z9 3) fj) (P4 2)))
def ja:Ds->Option Out:=(D1 (j8 (c9 V4 (c9 j5 (c9 j5 (c9 j5 (b9 1) (b9 6)) (b9 4)) (fC (.int 0))) (fC (.int 0)))) (i7 5 (g0 bS (c5 (b9 5) (c5 (c9 j5 (b9 2) (b9 6)) (c5 (g0 da (c5 (c9 j5 (c9 j5 (b9 1) (b9 6)) (b9 4)) c8)) c8))))) t9)
def iZ:Ds->Option Out:=(i6 (i7 5 (c9 j5 (b9 0) (b9 4))) (i6 (F8 (D7 I0 (c5 (g0 J9 (c5 (b9 1) c8)) c8)) (z9 6) ja) (fB 3 (b9 5))))
def jK:List c6->Option PV:=D2 3 7 (i6 (R8 3 (K9 c8)) (i6 (F8 (D7 I0 (c5 (g0 J9 (c5 (b9 0) c8)) c8)) (z9 4) iZ) (P4 3)))
def jb:Ds->Option Out:=(i7 6 (g0 bS (c5 (b9 6) (c5 (c9 j5 (b9 4) (b9 7)) (c5 (c9 j5 (b9 2) (b9 7)) c8)))))
def eX:Ds->Option Out:=(D1 (j8 (g0 cx (c5 (c9 j5 (b9 8) (b9 9)) (c5 (b9 5) c8)))) (i6 (D1 (j8 (c9 gz (c9 j5 (b9 3) (b9 9)) (fC .none))) (u9 (fC .none)) t9) (i7 6 (g0 bS (c5 (b9 6) (c5 (c9 j5 (b9 8) (b9 9)) (c5 (c9 j5 (b9 3) (b9 9)) c8)))))) t9)
def gh:List c6->Option PV:=D2 5 10 (i6 (i7 5 (C2 (c5 (C2 (c5 (fC (.int 0)) (c5 (fC (.int 1)) c8))) (c5 (C2 (c5 (fC (.int 0)) (c5 (fC (.int 1)) c8))) (c5 (C2 (c5 (fC (.int 0)) (c5 (fC (.int 1)) c8))) c8))))) (i6 (i7 6 (b9 5)) (i6 (F8 (D7 I0 (c5 (g0 J9 (c5 (b9 1) c8)) c8)) (z9 7) jb) (i6 (i7 8 (g0 jK (c5 (b9 0) (c5 (b9 1) (c5 (b9 4) c8))))) (i6 (F8 (D7 I0 (c5 (g0 J9 (c5 (b9 8) c8)) c8)) (z9 9) eX) (P4 6))))))
def iY:Ds->Option Out:=(i7 2 (g0 bS (c5 (b9 2) (c5 (c9 j5 (b9 0) (b9 3)) (c5 (c9 j5 (b9 1) (b9 3)) c8)))))
def bG:List c6->Option PV:=D2 2 4 (i6 (i7 2 (C2 (c5 (C2 (c5 (fC (.int 0)) (c5 (fC (.int 1)) c8))) (c5 (C2 (c5 (fC (.int 0)) (c5 (fC (.int 1)) c8))) (c5 (C2 (c5 (fC (.int 0)) (c5 (fC (.int 1)) c8))) c8))))) (i6 (F8 (D7 I0 (c5 (g0 J9 (c5 (b9 1) c8)) c8)) (z9 3) iY) (P4 2)))
def jV:Ds->Option PV:=(g0 cv (c5 (b9 0) c8))
def jU:Ds->Option PV:=(g0 W6 (c5 (b9 0) c8))
def H0:List c6->Option PV:=D2 3 3 (i6 (D1 (dR (cO (j8 (bM "list" (b9 0)))) (j8 (c9 V4 (g0 J9 (c5 (b9 0) c8)) (b9 1)))) (u9 (fC (.bool false))) t9) (i6 (D1 (j8 (c9 O3 (b9 2) (fC (.str "triples")))) (u9 (g0 qH (c5 (m9 (L8 (b9 0)) m7 m6 jV) c8))) t9) (u9 (g0 qH (c5 (m9 (L8 (b9 0)) m7 m6 jU) c8)))))
def ia:Ds->Option Out:=(D1 (dR (j8 (c9 nt (c9 j5 (c9 j5 (b9 3) (b9 4)) (fC (.int 0))) (fC (.int 0)))) (fE (j8 (c9 cI (c9 j5 (b9 2) (b9 4)) (fC .none))) (j8 (g0 gi (c5 (c9 j5 (b9 2) (b9 4)) (c5 (c9 j5 (b9 3) (b9 4)) c8)))))) (u9 (fC (.bool false))) t9)
def mi:Ds->Option PV:=(g0 aR (c5 (b9 0) (c5 (b9 4) c8)))
def gW:List c6->Option PV:=D2 4 5 (i6 (F8 (D7 I0 (c5 (g0 J9 (c5 (b9 3) c8)) c8)) (z9 4) ia) (u9 (c9 O3 (m9 (L8 (b9 0)) m7 m6 mi) (b9 1))))
def hW:Ds->Option Out:=(D1 (dR (j8 (c9 nt (c9 j5 (c9 j5 (b9 3) (b9 4)) (fC (.int 0))) (fC (.int 0)))) (fE (j8 (c9 cI (c9 j5 (b9 2) (b9 4)) (fC .none))) (j8 (c9 V4 (c9 j5 (c9 j5 (b9 3) (b9 4)) (fC (.int 0))) (fC (.int 0)))))) (u9 (fC (.bool false))) t9)
def gX:Ds->Option PV:=(g0 aR (c5 (b9 0) (c5 (b9 4) c8)))
def mh:Ds->Option PV:=(C2 (c5 (fC (.int 0)) (c5 (fC (.int 1)) c8)))
def gU:List c6->Option PV:=D2 4 5 (i6 (F8 (D7 I0 (c5 (g0 J9 (c5 (b9 3) c8)) c8)) (z9 4) hW) (i6 (D1 (j8 (c9 V4 (m9 (L8 (b9 1)) m7 m6 gX) (m9 (L8 (b9 1)) m7 m6 mh))) (u9 (fC (.bool false))) t9) (u9 (g0 cx (c5 (g0 bG (c5 (b9 0) (c5 (b9 3) c8))) (c5 (C2 (c5 (C2 (c5 (fC (.int 0)) (c5 (fC (.int 1)) c8))) (c5 (C2 (c5 (fC (.int 0)) (c5 (fC (.int 1)) c8))) (c5 (C2 (c5 (fC (.int 0)) (c5 (fC (.int 1)) c8))) c8)))) c8))))))
def J4:List c6->Option PV:=D2 5 6 (i6 (i7 5 (g0 J9 (c5 (b9 0) c8))) (i6 (D1 (dR (cO (j8 (bM "tuple" (b9 4)))) (dR (j8 (c9 V4 (g0 J9 (c5 (b9 4) c8)) (fC (.int 3)))) (cO (j8 (g0 H0 (c5 (c9 j5 (b9 4) (fC (.int 1))) (c5 (b9 5) (c5 (fC (.str "fractions")) c8)))))))) (u9 (fC (.bool false))) t9) (i6 (D1 (cO (j8 (g0 gW (c5 (b9 1) (c5 (b9 2) (c5 (b9 3) (c5 (c9 j5 (b9 4) (fC (.int 1))) c8))))))) (u9 (fC (.bool false))) t9) (i6 (D1 (j8 (c9 O3 (c9 j5 (b9 4) (fC (.int 0))) (fC (.str "endless")))) (u9 (iF (g0 H0 (c5 (c9 j5 (b9 4) (fC (.int 2))) (c5 (b9 5) (c5 (fC (.str "fractions")) c8)))) (g0 gU (c5 (b9 0) (c5 (b9 1) (c5 (b9 3) (c5 (c9 j5 (b9 4) (fC (.int 2))) c8))))))) t9) (i6 (D1 (dR (j8 (c9 V4 (c9 j5 (b9 4) (fC (.int 0))) (fC (.str "best")))) (cO (j8 (g0 H0 (c5 (c9 j5 (b9 4) (fC (.int 2))) (c5 (g0 J9 (c5 (b9 1) c8)) (c5 (fC (.str "triples")) c8))))))) (u9 (fC (.bool false))) t9) (u9 (c9 O3 (g0 gh (c5 (b9 0) (c5 (b9 1) (c5 (b9 2) (c5 (b9 3) (c5 (c9 j5 (b9 4) (fC (.int 2))) c8)))))) (g0 bG (c5 (b9 0) (c5 (c9 j5 (b9 4) (fC (.int 1))) c8))))))))))
def hU:Ds->Option Out:=(i6 (i7 4 (C2 (c5 (fC (.int 0)) (c5 (fC (.int 1)) c8)))) (i6 (D1 (j8 (c9 mF (g0 B1 (c5 (b9 0) (c5 (c9 v8 (fC (.int 500)) (b9 3)) (c5 (fC (.int 3)) c8)))) (fC (.int 0)))) (i7 4 (g0 E5 (c5 (b9 0) (c5 (c9 v8 (fC (.int 510)) (b9 3)) (c5 (fC (.int 0)) (c5 (fC (.int 9)) c8)))))) t9) (fB 2 (b9 4))))
def bQ:List c6->Option PV:=D2 2 5 (i6 (R8 2 (K9 c8)) (i6 (F8 (D7 I0 (c5 (b9 1) c8)) (z9 3) hU) (P4 2)))
def dP:Ds->Option Out:=(i6 (i7 6 (fC .none)) (i6 (D1 (j8 (c9 mF (g0 B1 (c5 (b9 0) (c5 (c9 v8 (fC (.int 520)) (b9 5)) (c5 (fC (.int 3)) c8)))) (fC (.int 0)))) (i6 (i7 6 (g0 E5 (c5 (b9 0) (c5 (c9 v8 (fC (.int 540)) (b9 5)) (c5 (fC (.int 0)) (c5 (fC (.int 9)) c8)))))) (D1 (j8 (c9 inD (b9 5) (b9 2))) (i7 6 (g0 dN (c5 (b9 6) (c5 (c9 j5 (b9 3) (oU la (b9 2) (c5 (b9 5) c8))) c8)))) t9)) t9) (fB 4 (b9 6))))
def fL:List c6->Option PV:=D2 4 7 (i6 (R8 4 (K9 c8)) (i6 (F8 (D7 I0 (c5 (b9 1) c8)) (z9 5) dP) (P4 4)))
def bA:Ds->Option Out:=(i6 (i7 5 (C2 (c5 (fC (.int 0)) (c5 (fC (.int 1)) c8)))) (i6 (D1 (fE (j8 (c9 gz (c9 j5 (b9 2) (c9 j5 (b9 1) (b9 4))) (fC .none))) (j8 (c9 mF (g0 B1 (c5 (b9 0) (c5 (c9 v8 (fC (.int 960)) (b9 4)) (c5 (fC (.int 3)) c8)))) (fC (.int 0))))) (i7 5 (g0 E5 (c5 (b9 0) (c5 (c9 v8 (fC (.int 970)) (b9 4)) (c5 (aa Q3 (fC (.int 6))) (c5 (fC (.int 0)) c8)))))) t9) (fB 3 (b9 5))))
def bV:List c6->Option PV:=D2 3 6 (i6 (R8 3 (K9 c8)) (i6 (F8 (D7 I0 (c5 (g0 J9 (c5 (b9 1) c8)) c8)) (z9 4) bA) (P4 3)))
def bT:List c6->Option PV:=D2 1 3 (i6 (R8 1 (K9 (c5 (C2 (c5 (fC (.int 0)) (c5 (fC (.int 1)) c8))) (c5 (C2 (c5 (fC (.int 0)) (c5 (fC (.int 1)) c8))) (c5 (C2 (c5 (fC (.int 0)) (c5 (fC (.int 1)) c8))) c8))))) (i6 (i7 2 (g0 B1 (c5 (b9 0) (c5 (fC (.int 980)) (c5 (fC (.int 3)) c8))))) (i6 (S6 1 (b9 2) (g0 E5 (c5 (b9 0) (c5 (fC (.int 981)) (c5 (aa Q3 (fC (.int 9))) (c5 (aa Q3 (fC (.int 1))) c8)))))) (i6 (D1 (j8 (c9 nt (b9 2) (fC (.int 2)))) (S6 1 (fC (.int 2)) (g0 E5 (c5 (b9 0) (c5 (fC (.int 982)) (c5 (aa Q3 (fC (.int 9))) (c5 (fC (.int 9)) c8)))))) t9) (i6 (D1 (j8 (c9 O3 (b9 2) (fC (.int 0)))) (S6 1 (fC (.int 1)) (g0 E5 (c5 (b9 0) (c5 (fC (.int 983)) (c5 (aa Q3 (fC (.int 9))) (c5 (fC (.int 9)) c8)))))) t9) (u9 (oV (g0 pS (c5 (b9 1) c8)))))))))
def kN:Ds->Option PV:=(g0 iJ (c5 (b9 1) (c5 (c9 v8 (fC (.int 700)) (c9 B4 (fC (.int 10)) (b9 0))) c8)))
def kO:Ds->Option Out:=(i7 9 (g0 bS (c5 (b9 9) (c5 (c9 j5 (b9 7) (c9 j5 (b9 3) (b9 10))) (c5 (c9 j5 (b9 8) (b9 10)) c8)))))
def oh:Ds->Option PV:=(c9 v8 (c9 v8 (cK fP (c9 j5 (b9 5) (b9 0)) U4 (R9 (b9 12))) (K9 (c5 (c9 j5 (b9 9) (b9 0)) c8))) (cK fP (c9 j5 (b9 5) (b9 0)) (R9 (b9 12)) U4))
def og:Ds->Option PV:=(c9 v8 (b9 0) (g0 intD (c5 (c9 Qx (b9 0) (b9 12)) c8)))
def gk:Ds->Option Out:=(i6 (i7 19 (c9 j5 (b9 15) (b9 18))) (i6 (D1 (j8 (c9 gz (b9 19) (fC .none))) (i6 (i7 19 (C2 (c5 (fC (.int 20)) (c5 (fC (.int 1)) c8)))) (D1 (j8 (c9 inD (b9 18) (b9 14))) (i7 19 (g0 dN (c5 (b9 19) (c5 (c9 j5 (b9 5) (oU la (b9 14) (c5 (b9 18) c8))) c8)))) t9)) t9) (fB 17 (b9 19))))
def mN:List c6->Option PV:=D2 1 20 (i6 (i7 1 (g0 B1 (c5 (b9 0) (c5 (fC (.int 5)) (c5 (fC (.int 5)) c8))))) (i6 (i7 2 (c9 v8 (c9 v8 (b9 1) (fC (.int 1))) (g0 B1 (c5 (b9 0) (c5 (fC (.int 6)) (c5 (fC (.int 6)) c8)))))) (i6 (i7 3 (g0 bU (c5 (b9 0) (c5 (b9 2) (c5 (b9 1) c8))))) (i6 (i7 4 (g0 cZ (c5 (b9 0) (c5 (b9 2) (c5 (b9 3) c8))))) (i6 (i7 5 (g0 bQ (c5 (b9 0) (c5 (b9 1) c8)))) (i6 (i7 6 (g0 fL (c5 (b9 0) (c5 (b9 2) (c5 (b9 3) (c5 (b9 5) c8)))))) (i6 (i7 7 (m9 (D7 I0 (c5 (b9 2) c8)) m7 m6 kN)) (i6 (i7 8 (g0 bV (c5 (b9 0) (c5 (b9 3) (c5 (b9 6) c8))))) (i6 (i7 9 (g0 bT (c5 (b9 0) c8))) (i6 (F8 (D7 I0 (c5 (b9 1) c8)) (z9 10) kO) (i6 (i7 11 (g0 B1 (c5 (b9 0) (c5 (fC (.int 990)) (c5 (c9 v8 (b9 2) (fC (.int 1))) c8))))) (i6 (i7 12 (c9 v8 (c9 v8 (cK fP (b9 7) U4 (R9 (b9 11))) (K9 (c5 (b9 9) c8))) (cK fP (b9 7) (R9 (b9 11)) U4))) (i6 (i7 13 (m9 (D7 I0 (c5 (b9 1) c8)) m7 m6 oh)) (i6 (i7 14 (m9 (L8 (b9 3)) m7 m6 og)) (i6 (i7 15 (c9 v8 (c9 v8 (cK fP (b9 6) U4 (R9 (b9 11))) (K9 (c5 (fC .none) c8))) (cK fP (b9 6) (R9 (b9 11)) U4))) (i6 (i7 16 (g0 aP (c5 (b9 12) (c5 (b9 13) (c5 (b9 5) (c5 (b9 15) (c5 (b9 14) c8))))))) (i6 (D1 (dR (cO (j8 (g0 J4 (c5 (b9 12) (c5 (b9 13) (c5 (b9 5) (c5 (b9 15) (c5 (b9 16) c8)))))))) (j8 (c9 V4 (c9 j5 (b9 16) (fC (.int 0))) (fC (.str "endless"))))) (u9 (fC (.bool false))) t9) (i6 (R8 17 (K9 c8)) (i6 (F8 (D7 I0 (c5 (c9 v8 (b9 2) (fC (.int 1))) c8)) (z9 18) gk) (i6 (iO 17 (i7 16 (g0 aP (c5 (b9 12) (c5 (b9 13) (c5 (b9 5) (c5 (b9 17) (c5 (b9 14) c8)))))))) (u9 (oV (iF (g0 J4 (c5 (b9 12) (c5 (b9 13) (c5 (b9 5) (c5 (b9 17) (c5 (b9 16) c8)))))) (c9 O3 (c9 j5 (b9 16) (fC (.int 0))) (fC (.str "best"))))))))))))))))))))))))))
end
end Law
set_option maxHeartbeats 400000
local macro_rules | `(tactic| walk_at "r") => `(tactic| simp only[L2.D2, L2.j7, L2.j0, L2.zK, L2.zL, L2.ye, L2.xw, L2.yo, L2.T8, L2.mC, L2.D1, L2.u9, L2.P4, L2.Qz, L2.t9, L2.QA, L2.Kc, L2.QD, L2.QC, L2.Wf, L2.EZ, L2.F8, L2.ej, L2.iO, L2.qy, L2.b9, L2.fC, L2.c9, L2.aa, L2.g0, L2.C2, L2.K9, L2.cK, L2.jl, L2.iF, L2.Fn, L2.qA, L2.Kl, L2.bM, L2.QK, L2.Flat, L2.oV, L2.bD, L2.m9, L2.U4, L2.R9, L2.xK, L2.ua, L2.c5, L2.c8, L2.j8, L2.cO, L2.fE, L2.dR, L2.m6, L2.D7, L2.L8, L2.uq, L2.yd, L2.zY, L2.yh, L2.lq, L2.jn, L2.z9, L2.jN, L2.U2, L2.jO, L2.m7, L2.N7, L2.PV.gF, L2.PV.ku, L2.rQ,
 L2.Bv,L2.zF,L2.EG,L2.EL,L2.EW,L2.EX,L2.oW,L2.Aj,L2.AR,L2.Ai,L2.ES,L2.AB,L2.Bw,L2.Ah,L2.yp,L2.Av,L2.xU,L2.zz,L2.uQ,L2.yn,L2.Ec,L2.tj,L2.AE,L2.sJ,L2.Bk,L2.AF,L2.yw,L2.xY,L2.yF,L2.Wj,L2.Kk,L2.QB,L2.fU,L2.QT,L2.QS,L2.QR,L2.QQ,L2.QP,L2.QO,L2.QN,L2.yu,L2.FP,String.reduceBEq,
 j4,Lg,jC,KZ,o6,N8,O0,lN,v9,X9,aF,dJ,W5,rh,wF,P7,Nat.reduceAdd,Nat.reduceSub,Nat.reduceEqDiff,Nat.reduceLeDiff,Nat.reduceLT,Int.reduceToNat,Lv,eq_self,
 A9,M6,reduceIte,nY,decide_true,decide_false,aG,Ct,pA,Bool.not_true,Bool.not_false,lV,not_false_eq_true,Bool.true_or,Bool.false_or,Bool.or_true,BS,Bool.and_true,Bool.true_and,Bool.and_false,vS,reduceCtorEq,and_self])
namespace Law
open PySem L2
section
variable{y t z D D' M' N E F L lo:Int}{m k:Nat}{p q a:Q2}{ns:List Int}{α:Type}{e:c6}
abbrev gc(a b:Int):Int:=(n9 a b:Nat)
theorem AI(x y:Int):n9 y (x.fmod y)=n9 x y:=by
 rw[Int.fmod_def];apply Nat.dvd_antisymm
 . apply Int.dvd_gcd
   . have h1:((n9 y (x-y*x.fdiv y):Nat):Int)∣y:=lR ..;have h2:((n9 y (x-y*x.fdiv y):Nat):Int)∣x-y*x.fdiv y:=lU ..;have h3:=Int.dvd_add h2 (CN (c:=x.fdiv y) h1)
     rwa [Int.sub_add_cancel]at h3
   . exact lR ..
 . apply Int.dvd_gcd
   . exact lU ..
   . exact Int.dvd_sub (lR ..) (CN (lU ..))
theorem nr(x:Int)(h:y≠0):(x.fmod y).natAbs<y.natAbs:=by
 rcases Int.lt_or_gt_of_ne h with hy|hy
 . have e:Int.fmod x y=x % y+if 0<=y\/y∣x then 0 else y:=Int.fmod_eq_emod
   have h1:=Int.emod_nonneg x h;have h2:=Int.emod_lt x h;split at e<;>omega
 . have h1:=kC x hy;have h2:=lX x hy;omega
def r9(t b:Int):Int×Int:=(t.fdiv (if b<0 then -gc t b else gc t b),b.fdiv (if b<0 then -gc t b else gc t b))
structure l7(m:Nat)(q:Int×Int):Prop where
 pos:0<q.2
 low:n9 q.1 q.2=1
 bt:Bt m q.1
 bb:Bt m q.2
theorem l7.mono{m n:Nat}{q:Int×Int}(h:l7 m q)(hl:m<=n):l7 n q:=⟨h.pos,h.low,h.bt.mono hl,h.bb.mono hl⟩
theorem bK{b:Int}(hb:0<b)(ht:Bt m t)(hbb:Bt m b):l7 m (r9 t b):=by
 have hg:0<n9 t b:=pE t (by lia)
 have hgi:(0:Int)<gc t b:=by show(0:Int)<((n9 t b:Nat):Int);lia
 have e:r9 t b=(t/gc t b,b/gc t b):=by delta r9;rw[e9 (by lia),dM _ (by lia),dM _ (by lia)]
 have d1:gc t b∣t:=lR ..;have d2:gc t b∣b:=lU ..;rw[e];refine⟨Mf hb (by lia) d2,CV hg,?_,?_⟩
 . have:=ht.fdiv (j:=gc t b)
   rwa [dM _ (by lia)]at this
 . have:=hbb.fdiv (j:=gc t b)
   rwa [dM _ (by lia)]at this
theorem ON{n:Nat}{p q:Int×Int}(hp:l7 m p)(hq:l7 n q)(h:p.1*q.2-q.1*p.2=0):p=q:=by
 obtain⟨a,b⟩:=p;obtain⟨c,d⟩:=q;have pb:0<b:=hp.pos;have pd:0<d:=hq.pos;have g1:n9 a b=1:=hp.low;have g2:n9 c d=1:=hq.low;have e:a*d=c*b:=by have:a*d-c*b=0:=h;lia
 have k1:b∣d:=by
  have z:b∣a*d:=⟨c,by rw[e,D3]⟩
  have z':b.natAbs∣a.natAbs*d.natAbs:=by rw[<-aE];exact Int.natAbs_dvd_natAbs.mpr z
  have cp:vD b.natAbs a.natAbs:=by rw[we];exact g1
  exact Int.natAbs_dvd_natAbs.mp (cp.dvd_of_dvd_mul_left z')
 have k2:d∣b:=by
  have z:d∣c*b:=⟨a,by rw[<-e,D3]⟩
  have z':d.natAbs∣c.natAbs*b.natAbs:=by rw[<-aE];exact Int.natAbs_dvd_natAbs.mpr z
  have cp:vD d.natAbs c.natAbs:=by rw[we];exact g2
  exact Int.natAbs_dvd_natAbs.mp (cp.dvd_of_dvd_mul_left z')
 have ebd:b=d:=by have:=ff pd k1;have:=ff pb k2;lia
 subst ebd;have:a=c:=rq (by lia) e
 rw[this]
theorem zi{b:Int}(hb:b≠0)(h:Bt m b):Bt m (gc t b):=h.of_le (by
 have h1:=Int.gcd_le_natAbs_right t hb;show((n9 t b:Nat):Int).natAbs<=_
 lia)
theorem Qy{b:Int}(hb:b≠0):gc t b≠0:=by
 have h1:=pE t hb;show((n9 t b:Nat):Int)≠0
 lia
theorem Wd(t b:Int):gc (if t<0 then -t else t) (if b<0 then -b else b)=gc t b:=by
 show((n9 _ _:Nat):Int)=(n9 t b:Nat)
 have e1:∀x y:Int,n9 (if x<0 then -x else x) y=n9 x y:=λx y=>by split<;>simp
 have e2:∀x y:Int,n9 x (if y<0 then -y else y)=n9 x y:=λx y=>by split<;>simp
 rw[e1,e2]
abbrev fr(q:Int×Int):c6:=.tuple [.int q.1,.int q.2]
def M4(p q:Int×Int):Int×Int:=r9 (p.1*q.2+q.1*p.2) (p.2*q.2)
def N0(p q:Int×Int):Int×Int:=r9 (p.1*q.1) (p.2*q.2)
def dW(p q:Int×Int):Bool:=decide (p.1*q.2<q.1*p.2)
abbrev Q2:=Int×Int
def val(q:Q2):Rat:=(q.1:Rat)/(q.2:Rat)
theorem bj{b:Int}(h:b≠0):(b:Rat)≠0:=by exact_mod_cast h
theorem mY{b:Int}(hb:0<b):val (r9 t b)=(t:Rat)/(b:Rat):=by
 have hg:0<n9 t b:=pE t (by lia)
 have hgi:(0:Int)<gc t b:=by show(0:Int)<((n9 t b:Nat):Int);lia
 have e:r9 t b=(t/gc t b,b/gc t b):=by delta r9;rw[e9 (by lia),dM _ (by lia),dM _ (by lia)]
 have d1:t/gc t b*gc t b=t:=wx (lR ..);have d2:b/gc t b*gc t b=b:=wx (lU ..);rw[e];show((t/gc t b:Int):Rat)/((b/gc t b:Int):Rat)=_
 have hb2:b/gc t b≠0:=λz=>by rw[z]at d2;lia
 have r1:=bj hb2;have r2:=bj (show gc t b≠0 by lia)
 have r3:=bj (show b≠0 by lia)
 generalize gc t b=g at *;have c1:((t/g:Int):Rat)*(g:Rat)=(t:Rat):=by exact_mod_cast d1
 have c2:((b/g:Int):Rat)*(g:Rat)=(b:Rat):=by exact_mod_cast d2
 generalize ((t/g:Int):Rat)=x at *;generalize ((b/g:Int):Rat)=y at *;generalize (g:Rat)=z at *;rw[<-c1,<-c2];grind
theorem sX(hp:0<p.2)(hq:0<q.2):val (M4 p q)=val p+val q:=by
 delta M4;rw[mY (G0 hp hq)];have r1:=bj (show p.2≠0 by lia)
 have r2:=bj (show q.2≠0 by lia)
 delta val
 push_cast
 grind
theorem pQ(hp:0<p.2)(hq:0<q.2):val (N0 p q)=val p*val q:=by
 delta N0;rw[mY (G0 hp hq)];have r1:=bj (show p.2≠0 by lia)
 have r2:=bj (show q.2≠0 by lia)
 delta val
 push_cast
 grind
theorem val_inj{n:Nat}(hp:l7 m p)(hq:l7 n q)(h:val p=val q):p=q:=by
 refine ON hp hq ?_;have r1:=bj (show p.2≠0 by have:=hp.pos;lia)
 have r2:=bj (show q.2≠0 by have:=hq.pos;lia)
 have h':(p.1:Rat)/(p.2:Rat)=(q.1:Rat)/(q.2:Rat):=h;have e:(p.1:Rat)*(q.2:Rat)-(q.1:Rat)*(p.2:Rat)=0:=by grind
 exact_mod_cast e
theorem val_one(n:Int):val (n,1)=(n:Rat):=by
 show(n:Rat)/((1:Int):Rat)=n
 grind
theorem jk{n:Nat}(hp:l7 m p)(hq:l7 n q):l7 (m+n+1) (M4 p q) :=
 bK (G0 hp.pos hq.pos) ((hp.bt.mul hq.bb).add ((hq.bt.mul hp.bb).mono (by lia))) ((hp.bb.mul hq.bb).mono (by lia))
theorem N6{n:Nat}(hp:l7 m p)(hq:l7 n q):l7 (m+n) (N0 p q) :=
 bK (G0 hp.pos hq.pos) (hp.bt.mul hq.bt) (hp.bb.mul hq.bb)
theorem ix{n:Int}(h:Bt m n)(hm:1<=m):l7 m (n,1):=⟨by show(0:Int)<1;decide,by show n9 n 1=1;simp,h,Bt.mono (m:=1) ⟨by show(1:Int).natAbs<2 ^ 1;decide⟩ hm⟩
theorem An(h:l7 m q):r9 q.1 q.2=q:=by
 have hp:=h.pos;have h1:gc q.1 q.2=1:=by show((n9 q.1 q.2:Nat):Int)=1;rw[h.low];rfl
 delta r9;rw[e9 (by lia),h1]
 simp
theorem CZ(x y:Int)(z:Option PV):W0 [iD x,iD y,z]=some (!decide (y=0)):=by delta W0;walk_at "r"
theorem PD(x:Int)(z:Option PV)(h:y≠0):W2 [iD x,iD y,z]=some (.next [iD y,iD (x.fmod y),iD (x.fmod y)]):=by delta W2;walk_at "r";rw[Z7 h];walk_at "r"
theorem qF{x:Int}(hx:0<=x)(hy:0<=y):O4 [.int x,.int y]=some (.dat (.int (gc x y))):=by
 delta O4;walk_at "r";obtain⟨ds',h1,⟨x',y',z',rfl,hg,hx',hy'⟩,h3⟩:=xP (Fc:=W0) (G:=W2) (λds=>∃x' y' z',ds=[iD x',iD y',z']/\gc x' y'=gc x y/\0<=x'/\0<=y') (λds=>rQ 1 ds-1) (by
  rintro ds ⟨x',y',z',rfl,hg,hx',hy'⟩;rw[CZ];by_cases h:y'=0
  . left;simp[h]
  . right;refine⟨by simp[h],_,PD x' z' h,⟨y',x'.fmod y',_,rfl,?_,hy',kC x' (by lia)⟩,?_⟩
    . rw[<-hg];show((n9 y' (x'.fmod y'):Nat):Int)=(n9 x' y':Nat)
      rw[AI]
    . have:=nr x' h;walk_at "r";lia) (y.natAbs+1) [iD x,iD y,none] ⟨x,y,none,rfl,rfl,hx,hy⟩ (by walk_at "r";lia)
 rw[CZ]at h3;have hz:y'=0:=by simpa using h3
 subst hz;have e:gc x' 0=x':=by show((n9 x' 0:Nat):Int)=x';rw[Lu];lia
 rw[h1,<-hg,e];walk_at "r"
theorem iP{b:Int}(hb:b≠0)(hbb:Bt 8000 b):U9 [.int t,.int b]=some (.dat (fr (r9 t b))):=by
 delta U9;walk_at "r";rw[e9 hb];walk_at "r";rw[qF (by split<;>lia) (by split<;>lia),Wd]
 walk_at "r";have hg:=Qy (t:=t) hb;have hgb:=zi (t:=t) hb hbb;delta r9;by_cases h0:b<0
 . simp only[c7 h0];walk_at "r";rw[K3 (by lia) hgb.neg,K3 (by lia) hgb.neg]
   rfl
 . simp only[e9 h0];walk_at "r";rw[K3 hg hgb,K3 hg hgb];rfl
theorem Am{b x:Int}(hb:0<b)(hy:0<y)(hc:n9 x y=1)(he:t*y=x*b):r9 t b=(x,y):=by
 have hg:0<n9 t b:=pE t (by lia)
 have hgi:(0:Int)<gc t b:=by show(0:Int)<((n9 t b:Nat):Int);lia
 have k1:y∣b:=by
  have z:y∣x*b:=⟨t,by rw[<-he,D3]⟩
  have z':y.natAbs∣x.natAbs*b.natAbs:=by rw[<-aE];exact Int.natAbs_dvd_natAbs.mpr z
  have cp:vD y.natAbs x.natAbs:=by rw[we];exact hc
  exact Int.natAbs_dvd_natAbs.mp (cp.dvd_of_dvd_mul_left z')
 obtain⟨k,rfl⟩:=k1;have hk:0<k:=by
  rcases eZ 0 k with h|h
  . exact h
  . have:=vz (T3 hy) h;lia
 have ht:t=x*k:=by
  have:t*y=(x*k)*y:=by rw[he,G3,D3 y k]
  exact rq (by lia) this
 subst ht;have e:n9 (x*k) (y*k)=k.natAbs:=by rw[Int.gcd_mul_right,hc,Nat.one_mul]
 have eg:gc (x*k) (y*k)=k:=by show((n9 _ _:Nat):Int)=k;rw[e];lia
 delta r9;rw[e9 (by lia),eg,dM _ (by lia),dM _ (by lia),LG _ (by lia),LG _ (by lia)]
theorem xI{x:Int}(h1:n9 x y=1)(h2:n9 x z=1):n9 x (y*z)=1:=by
 show Nat.gcd x.natAbs (y*z).natAbs=1
 rw[aE];exact Nat.Coprime.mul_right h1 h2
theorem kx{x:Int}(h1:n9 x y=1)(h2:z∣y):n9 x z=1 :=
 Nat.Coprime.coprime_dvd_right (Int.natAbs_dvd_natAbs.mpr h2) h1
theorem fD{x:Int}(h:n9 x y=1):n9 y x=1:=by rw[Int.gcd_comm];exact h
theorem Ic{a b c d:Int}(hb:0<b)(hd:0<d)(h1:n9 a b=1)(h2:n9 c d=1):
  let e:=gc a d
  let f:=gc c b
  0<e/\0<f/\r9 (a*c) (b*d)=(a.fdiv e*c.fdiv f,b.fdiv f*d.fdiv e):=by
 have key:∀{x y:Int},0<y->∃x' y',0<gc x y/\x=gc x y*x'/\y=gc x y*y'/\0<y'/\n9 x' y'=1/\x.fdiv (gc x y)=x'/\y.fdiv (gc x y)=y':=by
  intro x y hy;have hg:0<n9 x y:=pE x (by lia)
  have hs:(0:Int)<gc x y:=by show(0:Int)<((n9 x y:Nat):Int);lia
  obtain⟨x',hx'⟩:gc x y∣x:=lR ..;obtain⟨y',hy'⟩:gc x y∣y:=lU ..
  have q1 : x / gc x y = x' := by conv => lhs; lhs; rw [hx']
                                  rw[CT _ (by lia)]
  have q2 : y / gc x y = y' := by conv => lhs; lhs; rw [hy']
                                  rw[CT _ (by lia)]
  refine⟨x',y',hs,hx',hy',?_,?_,?_,?_⟩
  . rcases eZ 0 y' with h|h
    . exact h
    . have:=vz (T3 hs) h;lia
  . have:=CV (i:=x) (j:=y) hg;have q1':x/((n9 x y:Nat):Int)=x':=q1;have q2':y/((n9 x y:Nat):Int)=y':=q2
    rwa [q1',q2']at this
  . rw[dM _ (by lia),q1]
  . rw[dM _ (by lia),q2]
 obtain⟨a',d',he,ea,ed,pd,ce,fa,fd⟩:=key (x:=a) hd;obtain⟨c',b',hf,ec,eb,pb,cf,fc,fb⟩:=key (x:=c) hb;intro e f;have ee:gc a d=e:=rfl;have ef:gc c b=f:=rfl;rw[ee]at he ea ed fa fd;rw[ef]at hf ec eb fc fb;refine⟨he,hf,?_⟩
 clear_value e f
 rw[fa,fd,fc,fb];apply Am (G0 hb hd) (G0 pb pd)
 . have c1:n9 a' b'=1:=fD (kx (fD (kx h1 ⟨f,by rw[eb,D3]⟩)) ⟨e,by rw[ea,D3]⟩)
   have c2:n9 c' d'=1:=fD (kx (fD (kx h2 ⟨e,by rw[ed,D3]⟩)) ⟨f,by rw[ec,D3]⟩)
   exact fD (xI (fD (xI c1 ce)) (fD (xI cf c2)))
 . conv=>lhs;rw[ea,ec]
   conv=>rhs;rw[eb,ed]
   simp only[kz,D3]
theorem EY(t b:Int):gc (if t<0 then -t else t) b=gc t b:=by
 show((n9 _ _:Nat):Int)=(n9 t b:Nat)
 split<;>simp
theorem Ie{n:Nat}(hp:l7 m p)(hq:l7 n q)(h:m+n<=7998):kL [fr p,fr q]=some (.dat (fr (N0 p q))):=by
 have c1:Bt 60000 p.1:=hp.bt.mono (by lia)
 have c2:Bt 60000 p.2:=hp.bb.mono (by lia)
 have c3:Bt 60000 q.1:=hq.bt.mono (by lia)
 have c4:Bt 60000 q.2:=hq.bb.mono (by lia)
 obtain⟨s0,e0,el⟩:=Ic hp.pos hq.pos hp.low hq.low;have b1:Bt 8000 (gc p.1 q.2):=(zi (by have:=hq.pos;lia) hq.bb).mono (by lia)
 have b2:Bt 8000 (gc q.1 p.2):=(zi (by have:=hp.pos;lia) hp.bb).mono (by lia)
 have n1:=hp.pos;have n2:=hq.pos;delta kL;walk_at "r";rw[qF (by split<;>lia) (by lia),EY]
 walk_at "r";rw[qF (by split<;>lia) (by lia),EY]
 walk_at "r";simp only[K3 (show gc p.1 q.2≠0 by lia) b1,K3 (show gc q.1 p.2≠0 by lia) b2]
 walk_at "r";rw[p8 c1.fdiv c3.fdiv];walk_at "r";simp only[K3 (show gc p.1 q.2≠0 by lia) b1,K3 (show gc q.1 p.2≠0 by lia) b2]
 walk_at "r";rw[p8 c2.fdiv c4.fdiv];delta N0;rw[el];rfl
abbrev C7(ns:List Int):c6:=.list (ns.map .int)
theorem Ed(ns:List Int):(ns.map ao).length=ns.length:=by simp
theorem Iy{i:Int}(h0:0<=i)(h:i<ns.length):K5 (ns.map ao) i=some (.int (ns.getD i.toNat 0)):=by
 rw[dE (n:=i.toNat) (by lia) (by simp;lia),Q6,J3 (by lia)]
 simp[P8,J3 (show i.toNat<ns.length by lia)]
def tT:Ds->Option Out:=(i6 (i7 4 (c9 bJ (c9 B4 (c9 v8 (c9 bJ (b9 3) (fC (.int 1000003))) (fC (.int 1))) (c9 v8 (c9 v8 (c9 B4 (b9 1) (b9 1)) (b9 1)) (fC (.int 41)))) (fC (.int 999983)))) (u9 (c9 bJ (c9 aj (c9 bJ (c9 B4 (c9 bJ (c9 B4 (b9 4) (c9 v8 (b9 4) (fC (.int 7919)))) (fC (.int 2147483647))) (fC (.int 69621))) (fC (.int 2147483629))) (fC (.int 11))) (b9 2))))
theorem Kp{d:c6}{k m c:Int}(hk0:0<=k)(hk1:k<=1000000)(hm:0<m):∃r:Int,tT [some (.dat d),iD k,iD m,iD c,none]=some (.ret (.dat (.int r)))/\0<=r/\r<m:=by
 have fin:∀z:Int,0<=z.fmod m/\z.fmod m<m:=λz=>⟨kC z hm,lX z hm⟩
 have h1:=kC c (b:=1000003) (by decide)
 have h2:=lX c (b:=1000003) (by decide)
 have b1:Bt 62 k:=Bt.small (by lia) (by lia)
 have bk:Bt 200 (k*k+k+41):=((((b1.mul b1).add (b1.mono (by decide))).add (Bt.mono (m:=62) (Bt.small (by decide) (by decide)) (by decide)))).mono (by decide)
 have h3:=kC ((c.fmod 1000003+1)*(k*k+k+41)) (b:=999983) (by decide)
 have h4:=lX ((c.fmod 1000003+1)*(k*k+k+41)) (b:=999983) (by decide)
 delta tT;walk_at "r";rw[Z7 (by decide)]
 walk_at "r";rw[p8 (b1.mono (by decide)) (b1.mono (by decide))]
 walk_at "r";rw[p8 (Bt.ic (by lia) (by lia)) (bk.mono (by decide))]
 walk_at "r";rw[Z7 (by decide)]
 walk_at "r";rw[p8 (Bt.ic (by lia) (by lia)) (Bt.ic (by lia) (by lia))]
 walk_at "r";rw[Z7 (by decide)]
 walk_at "r";generalize ((c.fmod 1000003+1)*(k*k+k+41)).fmod 999983=y;have h5:=kC (y*(y+7919)) (b:=2147483647) (by decide)
 have h6:=lX (y*(y+7919)) (b:=2147483647) (by decide)
 rw[p8 (Bt.ic (by lia) (by lia)) Bt.lit]
 walk_at "r";rw[Z7 (by decide)]
 walk_at "r";rw[K3 (by decide) Bt.lit]
 walk_at "r";rw[Z7 (by lia)]
 exact⟨_,rfl,fin _⟩
theorem L3{k m:Int}(hl:ns.length<=63)(hk0:0<=k)(hk1:k<=1000000)(hm:0<m):∃r:Int,B1 [C7 ns,.int k,.int m]=some (.dat (.int r))/\0<=r/\r<m:=by
 have fin:∀z:Int,0<=z.fmod m/\z.fmod m<m:=λz=>⟨kC z hm,lX z hm⟩
 have tail:∀(c:Int),∃r:Int,(tT [some (.dat (C7 ns)),iD k,iD m,iD c,none]).bind Gw=some (.dat (.int r))/\0<=r/\r<m:=λc=>by obtain⟨r,h,h'⟩:=Kp (d:=C7 ns) (c:=c) hk0 hk1 hm;rw[h];exact⟨r,rfl,h'⟩
 delta B1;walk_at "r";rw[Ed];by_cases hp:(0:Int)<(ns.length:Int)
 . rw[c7 hp,Z7 (by lia)]
   have g1:=kC k hp;have g2:=lX k hp;walk_at "r";rw[Iy g1 g2];walk_at "r";rw[Iy (jx 0) hp];walk_at "r";rw[Z7 (by decide)]
   walk_at "r";by_cases h2:Int.fmod (ns.getD 0 0) 2=1
   . rw[c7 h2,Ed];have q0:0<=k.fdiv (ns.length:Int):=Int.fdiv_nonneg hk0 (by lia)
     have q1:k.fdiv (ns.length:Int)<=k:=by have:=LN k (ns.length:Int);lia
     rw[K3 (by decide) Bt.lit,K3 (by lia) (Bt.ic (by lia) (by lia))]
     walk_at "r";rw[p8 Bt.lit (Bt.ic (by lia) (by lia))]
     walk_at "r";rw[MN (by lia),zU ⟨by decide,by decide,by decide⟩]
     walk_at "r";rw[Z7 (by decide)]
     walk_at "r";rw[Z7 (by lia)]
     walk_at "r";exact⟨_,rfl,fin _⟩
   . rw[e9 h2];simp only[j0];exact tail _
 . rw[e9 hp];simp only[j0];exact tail 0
theorem FK(x y:Int)(a b z:Option PV):hG [a,b,iD x,iD y,z]=some (decide (0<y)):=by delta hG;walk_at "r"
theorem Ts(x:Int)(a b z:Option PV)(h:y≠0):hV [a,b,iD x,iD y,z]=some (.next [a,b,iD y,iD (x.fmod y),iD (x.fmod y)]):=by delta hV;walk_at "r";rw[Z7 h];walk_at "r"
theorem norm_eq{b:Int}(hb:0<b)(hbb:Bt 8000 b):bR [.int t,.int b]=some (.dat (fr (r9 t b))):=by
 delta bR;walk_at "r";obtain⟨ds',h1,⟨x',y',z',rfl,hg,hx',hy'⟩,h3⟩:=xP (Fc:=hG) (G:=hV) (λds=>∃x' y' z',ds=[iD t,iD b,iD x',iD y',z']/\gc x' y'=gc t b/\0<=x'/\0<=y') (λds=>rQ 3 ds-1) (by
  rintro ds ⟨x',y',z',rfl,hg,hx',hy'⟩;rw[FK];by_cases h:y'=0
  . left;simp[h]
  . right;refine⟨by simp;lia,_,Ts x' _ _ z' h,⟨y',x'.fmod y',_,rfl,?_,hy',kC x' (by lia)⟩,?_⟩
    . rw[<-hg];show((n9 y' (x'.fmod y'):Nat):Int)=(n9 x' y':Nat)
      rw[AI]
    . have:=nr x' h;walk_at "r";lia) (b.natAbs+1) [iD t,iD b,iD (if t<0 then -t else t),iD b,none] ⟨_,b,none,rfl,by
       show((n9 (if t<0 then -t else t) b:Nat):Int)=(n9 t b:Nat)
       split<;>simp,by split<;>lia,by lia⟩ (by walk_at "r";lia)
 rw[FK]at h3;have hz:y'=0:=by
  have:¬0<y':=by simpa using h3
  lia
 subst hz;have e:gc x' 0=x':=by show((n9 x' 0:Nat):Int)=x';rw[Lu];lia
 rw[e]at hg;subst hg;rw[h1];walk_at "r";have hg':=Qy (t:=t) (show b≠0 by lia)
 have hgb:=zi (t:=t) (show b≠0 by lia) hbb
 rw[K3 hg' hgb,K3 hg' hgb];delta r9;rw[e9 (by lia)]
 rfl
theorem wU{n:Nat}(hp:l7 m p)(hq:l7 n q)(h:m+n<=7998):dN [fr p,fr q]=some (.dat (fr (M4 p q))):=by
 have c1:Bt 60000 p.1:=hp.bt.mono (by lia)
 have c2:Bt 60000 p.2:=hp.bb.mono (by lia)
 have c3:Bt 60000 q.1:=hq.bt.mono (by lia)
 have c4:Bt 60000 q.2:=hq.bb.mono (by lia)
 delta dN;walk_at "r";simp only[p8,c1,c2,c3,c4];walk_at "r";rw[norm_eq (G0 hp.pos hq.pos) ((hp.bb.mul hq.bb).mono (by lia))]
 rfl
theorem rR{n:Nat}(hp:l7 m p)(hq:l7 n q)(h:m+n<=7998):gd [fr p,fr q]=some (.dat (fr (N0 p q))):=by
 have c1:Bt 60000 p.1:=hp.bt.mono (by lia)
 have c2:Bt 60000 p.2:=hp.bb.mono (by lia)
 have c3:Bt 60000 q.1:=hq.bt.mono (by lia)
 have c4:Bt 60000 q.2:=hq.bb.mono (by lia)
 delta gd;walk_at "r";simp only[p8,c1,c2,c3,c4];walk_at "r";rw[norm_eq (G0 hp.pos hq.pos) ((hp.bb.mul hq.bb).mono (by lia))]
 rfl
theorem vx{n:Nat}(hp:l7 m p)(hq:l7 n q)(h:m+n<=59999):gi [fr p,fr q]=some (.dat (.bool (dW p q))):=by
 have c1:Bt 60000 p.1:=hp.bt.mono (by lia)
 have c2:Bt 60000 p.2:=hp.bb.mono (by lia)
 have c3:Bt 60000 q.1:=hq.bt.mono (by lia)
 have c4:Bt 60000 q.2:=hq.bb.mono (by lia)
 delta gi;walk_at "r";simp only[p8,c1,c2,c3,c4];walk_at "r";rfl
structure Tr where
 a:Q2
 b:Q2
 c:Q2
def p9(x:Tr):c6:=.tuple [fr x.a,fr x.b,fr x.c]
structure B5(m:Nat)(x:Tr):Prop where
 a:l7 m x.a
 b:l7 m x.b
 c:l7 m x.c
theorem B5.mono{m n:Nat}{x:Tr}(h:B5 m x)(hl:m<=n):B5 n x:=⟨h.a.mono hl,h.b.mono hl,h.c.mono hl⟩
theorem uU(x:Tr):j5 (p9 x) (.int 0)=some (.dat (fr x.a)):=rfl
theorem uT(x:Tr):j5 (p9 x) (.int 1)=some (.dat (fr x.b)):=rfl
theorem uS(x:Tr):j5 (p9 x) (.int 2)=some (.dat (fr x.c)):=rfl
theorem Ux:V3 0 3=[.int 0,.int 1,.int 2]:=rfl
def aU(x y:Tr)(q:Q2):Tr:=⟨M4 x.a (N0 y.a q),M4 x.b (N0 y.b q),M4 x.c (N0 y.c q)⟩
theorem EC{n:Nat}{x y:Tr}(hx:B5 m x)(hy:B5 n y)(hq:l7 k q):B5 (m+(n+k)+1) (aU x y q) :=
 ⟨jk hx.a (N6 hy.a hq),jk hx.b (N6 hy.b hq),jk hx.c (N6 hy.c hq)⟩
theorem uM{n:Nat}{x y:Tr}(hx:B5 m x)(hy:B5 n y)(hq:l7 k q)(h:m+(n+k)<=7998):bS [p9 x,p9 y,fr q]=some (.dat (p9 (aU x y q))):=by
 have ta:=N6 hy.a hq;have tb:=N6 hy.b hq;have tc:=N6 hy.c hq;delta bS;walk_at "r";rw[C8 (by decide)]
 walk_at "r";rw[Ux];simp only[D6,pH];walk_at "r";rw[uU,uU,uT,uT,uS,uS];walk_at "r";rw[rR hy.a hq (by lia),rR hy.b hq (by lia),rR hy.c hq (by lia)]
 walk_at "r";rw[wU hx.a ta (by lia),wU hx.b tb (by lia),wU hx.c tc (by lia)]
 rfl
def tL(q:Q2):Q2:=(0-q.1,q.2)
theorem oG(h:l7 m q):l7 m (tL q):=by
 have e:(0-q.1:Int) = -q.1:=by lia
 refine⟨h.pos,?_,?_,h.bb⟩
 . show n9 (0-q.1) q.2=1
   rw[e,BF];exact h.low
 . show Bt m (0-q.1)
   rw[e];exact h.bt.neg
theorem neg_val:val (tL q) = - val q:=by
 show((0-q.1:Int):Rat)/(q.2:Rat) = - ((q.1:Rat)/(q.2:Rat))
 push_cast
 grind
theorem yc(q:Q2):J7 (fr q)=true:=by simp[J7,bO,nS,kA,vW]
theorem rP(p q:Q2):V4 (fr p) (fr q)=some (.dat (.bool (decide (p≠q)))):=by
 show(if J7 (fr p)=true/\J7 (fr q)=true then some (PV.dat (.bool (!PyData.eqv (fr p) (fr q))))else none)=_
 rw[c7 ⟨yc p,yc q⟩];have e:X7 (fr p) (fr q)=decide (p=q):=by rw[jF];simp[X7,BP,Prod.ext_iff]
 rw[e];simp
def M0(x y:Tr):Bool:=if x.a≠y.a then dW x.a y.a else if x.b≠y.b then dW x.b y.b else if x.c≠y.c then dW x.c y.c else false
theorem Bi{n:Nat}{x y:Tr}(hx:B5 m x)(hy:B5 n y)(h:m+n<=59999):cx [p9 x,p9 y]=some (.dat (.bool (M0 x y))):=by
 delta cx M0;walk_at "r";rw[C8 (by decide)]
 walk_at "r";rw[Ux];simp only[K7,jW];walk_at "r";rw[uU,uU];walk_at "r";rw[rP];walk_at "r";by_cases c1:x.a≠y.a
 . rw[c7 c1,c7 c1,vx hx.a hy.a h];rfl
 rw[e9 c1,e9 c1];walk_at "r";rw[uT,uT];walk_at "r";rw[rP];walk_at "r";by_cases c2:x.b≠y.b
 . rw[c7 c2,c7 c2,vx hx.b hy.b h];rfl
 rw[e9 c2,e9 c2];walk_at "r";rw[uS,uS];walk_at "r";rw[rP];walk_at "r";by_cases c3:x.c≠y.c
 . rw[c7 c3,c7 c3,vx hx.c hy.c h];rfl
 rw[e9 c3,e9 c3];rfl
structure Sh(k:Nat)(d:c6):Prop where
 c:d.canLay0=true
 d:d.depth<=k
theorem Sh.shaped{k:Nat}{d:c6}(h:Sh k d)(hk:k<=64):J7 d=true:=by have:=h.c;have:=h.d;simp only[J7,iT,nY];exact⟨h.c,by lia⟩
theorem Us(i:Int):Sh 0 (.int i):=⟨by simp[bO],by simp[nS]⟩
theorem zI{k:Nat}:∀{l:List c6},(∀x∈l,Sh k x)->kA l=true/\vW l<=k
 | [],_=>⟨by simp[kA],by simp[vW]⟩
 |x::r,h=>by
  obtain⟨a,b⟩:=zI (l:=r) λy hy=>h y (by simp[hy])
  have hx:=h x (by simp)
  refine⟨by simp[kA,hx.c,a],?_⟩
  have:=hx.d;simp only[vW];lia
theorem Rz{l:List c6}(h:∀x∈l,Sh k x):Sh (k+1) (.list l):=by obtain⟨a,b⟩:=zI h;exact⟨by simpa [bO]using a,by simp only[nS];lia⟩
theorem Ir{l:List c6}(h:∀x∈l,Sh k x):Sh (k+1) (.tuple l):=by obtain⟨a,b⟩:=zI h;exact⟨by simpa [bO]using a,by simp only[nS];lia⟩
theorem zg(q:Q2):Sh 1 (fr q):=Ir λx hx=>by simp at hx;rcases hx with rfl|rfl<;>exact Us _
theorem Iu{l:List α}{f:α->c6}(h:∀x,Sh k (f x)):Sh (k+1) (.list (l.map f)):=Rz λx hx=>by obtain⟨y,_,rfl⟩:=mem_map.mp hx;exact h y
mutual
theorem tR:∀d:c6,d.canLay0=true->X7 d d=true
 | .none,_=>rfl
 | .bool b,_=>by simp[X7]
 | .int i,_=>by simp[X7]
 | .str x,_=>by simp[X7]
 | .list xs,h=>by rw[X7];exact qB xs (by simpa [bO]using h)
 | .tuple xs,h=>by rw[X7];exact qB xs (by simpa [bO]using h)
 | .dict _,h=>by simp[bO]at h
theorem qB:∀l:List c6,kA l=true->BP l l=true
 | [],_=>rfl
 |x::r,h=>by
  have h':x.canLay0=true/\kA r=true:=by simpa [kA]using h
  rw[BP,tR x h'.1,qB r h'.2];rfl
end
theorem Wn{l:Nat}{d:c6}(hd:Sh k d)(he:Sh l e)(hk:k<=64:=by decide)(hl:l<=64:=by decide):O3 d e=some (.dat (.bool (X7 d e))):=by
 delta O3;split
 . rw[Fp]
 . rw[c7 ⟨hd.shaped hk,he.shaped hl⟩]
theorem VD{l:Nat}{d:c6}(hd:Sh k d)(he:Sh l e)(hk:k<=64:=by decide)(hl:l<=64:=by decide):V4 d e=some (.dat (.bool (!PyData.eqv d e))):=by
 delta V4;split
 . rw[Fp]
 . rw[c7 ⟨hd.shaped hk,he.shaped hl⟩]
theorem tS{d:c6}(hd:Sh k d)(hk:k<=64:=by decide):O3 d d=some (.dat (.bool true)):=by rw[Wn hd hd hk hk,tR d hd.c]
theorem Oj{d:c6}(hd:Sh k d)(hk:k<=64:=by decide):V4 d d=some (.dat (.bool false)):=by rw[VD hd hd hk hk,tR d hd.c];rfl
structure FD(D M:Int)(q:Q2):Prop where
 pos:0<q.2
 low:n9 q.1 q.2=1
 dvd:q.2∣D
 sF:(q.1.natAbs:Int)<=M*q.2
theorem FD.mono{M:Int}(h:FD D M q)(hd:D∣D')(hm:M<=M'):FD D' M' q :=
 ⟨h.pos,h.low,gP h.dvd hd,qO h.sF (iX hm (T3 h.pos))⟩
theorem FD.Hr{M:Int}(h:FD D M q)(hD:0<D)(h1:Bt k D)(h2:Bt k (M*D)):l7 k q:=by
 have l:=ff hD h.dvd;have p:=h.pos;have m:=h.sF;have hM:0<=M:=by
  rcases eZ M 0 with c|c
  . have:=rn c p;lia
  . exact c
 have l2:M*q.2<=M*D:=bP l hM;exact⟨p,h.low,h2.of_le (by lia),h1.of_le (by lia)⟩
theorem cw{b:Int}(hb:0<b):0<(r9 t b).2/\n9 (r9 t b).1 (r9 t b).2=1/\(r9 t b).1*b=t*(r9 t b).2/\(r9 t b).2∣b:=by
 have hg:0<n9 t b:=pE t (by lia)
 have hgi:(0:Int)<gc t b:=by show(0:Int)<((n9 t b:Nat):Int);lia
 have e:r9 t b=(t/gc t b,b/gc t b):=by delta r9;rw[e9 (by lia),dM _ (by lia),dM _ (by lia)]
 have d1:gc t b∣t:=lR ..;have d2:gc t b∣b:=lU ..;have m1:t/gc t b*gc t b=t:=wx d1;have m2:b/gc t b*gc t b=b:=wx d2;rw[e];refine⟨Mf hb (by lia) d2,CV hg,?_,⟨gc t b,m2.symm⟩⟩
 show t/gc t b*b=t*(b/gc t b)
 generalize gc t b=g at *;have:t/g*b=t/g*(b/g*g):=by rw[m2]
 rw[this,D3 (b/g) g,<-G3,m1]
theorem SK{b c:Int}(hb:0<b)(h:t*D=c*b):(r9 t b).2∣D:=by
 obtain⟨p,l,e,_⟩:=cw (t:=t) hb;generalize (r9 t b).1=x at *;generalize (r9 t b).2=y at *;have k:x*D=c*y:=by
  apply rq (show b≠0 by lia)
  calc x*D*b=(x*b)*D:=by simp only[kz,D3]
   _=(t*D)*y:=by rw[e];simp only[kz,D3]
   _=c*y*b:=by rw[h];simp only[kz,D3]
 have z:y∣x*D:=⟨c,by rw[k,D3]⟩
 have z':y.natAbs∣x.natAbs*D.natAbs:=by rw[<-aE];exact Int.natAbs_dvd_natAbs.mpr z
 have cp:vD y.natAbs x.natAbs:=by rw[we];exact l
 exact Int.natAbs_dvd_natAbs.mp (cp.dvd_of_dvd_mul_left z')
theorem xk{b M:Int}(hb:0<b)(h:(t.natAbs:Int)<=M*b):(((r9 t b).1).natAbs:Int)<=M*(r9 t b).2:=by
 obtain⟨p,l,e,_⟩:=cw (t:=t) hb;generalize (r9 t b).1=x at *;generalize (r9 t b).2=y at *;have e':(x.natAbs:Int)*b=(t.natAbs:Int)*y:=by
  have:=V7 Int.natAbs e;rw[aE,aE]at this;have hb':(b.natAbs:Int)=b:=by lia
  have hy':(y.natAbs:Int)=y:=by lia
  rw[<-hb',<-hy']
  exact_mod_cast this
 apply Int.le_of_mul_le_mul_right (a:=b) _ hb;rw[e'];have:=iX h (T3 p)
 calc (t.natAbs:Int)*y<=M*b*y:=this
  _=M*y*b:=by simp only[kz,D3]
theorem FD.plus{M:Int}(hp:FD D M p)(hq:FD D N q):FD D (M+N) (M4 p q):=by
 have hb:=G0 hp.pos hq.pos;obtain⟨a,l,_,_⟩:=cw (t:=p.1*q.2+q.1*p.2) hb;obtain⟨u,hu⟩:=hp.dvd;obtain⟨v,hv⟩:=hq.dvd;refine⟨a,l,SK (c:=p.1*u+q.1*v) hb ?_,xk hb ?_⟩
 . have e1:p.1*q.2*D=p.1*u*(p.2*q.2):=by rw[hu];simp only[kz,D3]
   have e2:q.1*p.2*D=q.1*v*(p.2*q.2):=by rw[hv];simp only[kz,D3]
   rw[vE,vE,e1,e2]
 . have h1:=iX hp.sF (T3 hq.pos);have h2:=iX hq.sF (T3 hp.pos);have a1:((p.1*q.2).natAbs:Int)=(p.1.natAbs:Int)*q.2:=by
    rw[aE];have:(q.2.natAbs:Int)=q.2:=by have:=hq.pos;lia
    push_cast;rw[this]
   have a2:((q.1*p.2).natAbs:Int)=(q.1.natAbs:Int)*p.2:=by
    rw[aE];have:(p.2.natAbs:Int)=p.2:=by have:=hp.pos;lia
    push_cast;rw[this]
   have a3:=Cr (p.1*q.2) (q.1*p.2);have e1:(M+N)*(p.2*q.2)=M*p.2*q.2+N*q.2*p.2:=by rw[vE];simp only[kz,D3]
   lia
theorem FD.times{M:Int}(hp:FD D M p)(hq:FD E N q):FD (D*E) (M*N) (N0 p q):=by
 have hb:=G0 hp.pos hq.pos;obtain⟨a,l,_,d⟩:=cw (t:=p.1*q.1) hb;refine⟨a,l,gP d (vV hp.dvd hq.dvd),xk hb ?_⟩;have:((p.1*q.1).natAbs:Int)=(p.1.natAbs:Int)*(q.1.natAbs:Int):=by rw[aE];push_cast;rfl
 rw[this];have h0:0<=M*p.2:=by have:=hp.sF;lia
 calc (p.1.natAbs:Int)*(q.1.natAbs:Int)<=(M*p.2)*(N*q.2):=Int.mul_le_mul hp.sF hq.sF (by lia) h0
  _=M*N*(p.2*q.2):=by simp only[kz,D3]
theorem FD.neg{M:Int}(h:FD D M q):FD D M (tL q):=by
 have e:(0-q.1:Int) = -q.1:=by lia
 refine⟨h.pos,?_,h.dvd,?_⟩
 . show n9 (0-q.1) q.2=1
   rw[e,BF];exact h.low
 . show((0-q.1).natAbs:Int)<=M*q.2
   rw[e,Int.natAbs_neg];exact h.sF
theorem vk{M b:Int}(hb:0<b)(hd:b∣D)(hm:(t.natAbs:Int)<=M*b):FD D M (r9 t b):=by obtain⟨a,l,_,d⟩:=cw (t:=t) hb;exact⟨a,l,gP d hd,xk hb hm⟩
structure TD(D M:Int)(x:Tr):Prop where
 a:FD D M x.a
 b:FD D M x.b
 c:FD D M x.c
theorem TD.mono{D M D' M':Int}{x:Tr}(h:TD D M x)(hd:D∣D')(hm:M<=M'):TD D' M' x:=⟨h.a.mono hd hm,h.b.mono hd hm,h.c.mono hd hm⟩
theorem TD.ok{M:Int}{x:Tr}(h:TD D M x)(hD:0<D)(h1:Bt k D)(h2:Bt k (M*D)):B5 k x:=⟨h.a.Hr hD h1 h2,h.b.Hr hD h1 h2,h.c.Hr hD h1 h2⟩
theorem TD.more{M:Int}{x y:Tr}(hx:TD D M x)(hy:TD E N y)(hq:FD F L q)(hd:E*F∣D):TD D (M+N*L) (aU x y q) :=
 ⟨hx.a.plus ((hy.a.times hq).mono hd (jx _)),hx.b.plus ((hy.b.times hq).mono hd (jx _)),hx.c.plus ((hy.c.times hq).mono hd (jx _))⟩
theorem gB{M:Int}(hM:0<=M):FD D M (0,1):=⟨by decide,by decide,⟨D,by simp⟩,by simpa using hM⟩
theorem Ub{M:Int}(hM:0<=M):TD D M ⟨(0,1),(0,1),(0,1)⟩:=⟨gB hM,gB hM,gB hM⟩
theorem Hs{gt:c6->Ds->Option Ds}{G:Ds->Option Out}{items:List c6}(P:Nat->Prop)(r:PV)(I:Nat->Ds->Prop){ds:Ds}(h0:I 0 ds)
  (hs:∀i d ds,items[i]? = some d->I i ds->∃ds1,gt d ds=some ds1/\((P i/\∃ds2,G ds1=some (.next ds2)/\I (i+1) ds2)\/(¬P i/\G ds1=some (.ret r)))) :
  ((∀i,i<items.length->P i)/\∃ds',K7 gt G items ds=some (.next ds')/\I items.length ds')\/(¬(∀i,i<items.length->P i)/\K7 gt G items ds=some (.ret r)):=by
 have key:∀(l:List c6) (i:Nat) (ds:Ds),items.drop i=l->i<=items.length->(∀j,j<i->P j)->I i ds ->
   ((∀i,i<items.length->P i)/\∃ds',K7 gt G l ds=some (.next ds')/\I items.length ds')\/(¬(∀i,i<items.length->P i)/\K7 gt G l ds=some (.ret r)):=by
  intro l;induction l with
  |nil =>
   intro i ds e hl hp hi;have h1:=List.drop_eq_nil_iff.mp e;have h2:i=items.length:=by lia
   subst h2;exact .inl ⟨hp,ds,rfl,hi⟩
  |cons x l ih =>
   intro i ds e hl hp hi;have hlt:i<items.length:=by
    by_cases c:i<items.length
    . exact c
    . rw[CL (by lia)]at e;cases e
   rw[sk hlt]at e;injection e with ea eb
   obtain⟨ds1,e1,e2⟩:=hs i x ds (by rw[J3 hlt,ea]) hi
   rcases e2 with ⟨p,ds2,e2,e3⟩|⟨p,e2⟩
   . have:=ih (i+1) ds2 eb (by lia) (λj hj=>by
       by_cases c:j=i
       . subst c;exact p
       . exact hp j (by lia)) e3
     unfold K7;rw[e1];simp only[j4];rw[e2];exact this
   . refine .inr ⟨λa=>p (a i hlt),?_⟩
     unfold K7;rw[e1];simp only[j4];rw[e2];rfl
 exact key items 0 ds (by simp) (cT _) (λj hj=>by lia) h0
theorem nj(lo:Int)(n:Nat):(V3 lo n).length=n:=by simp[V3]
theorem RG{n i:Nat}{d:c6}(h:(V3 lo n)[i]? = some d):i<n/\d=.int (lo+(i:Nat)):=by
 have hi:i<n:=by
  by_cases c:i<n
  . exact c
  . rw[rk (by rw[nj];lia)]at h;cases h
 refine⟨hi,?_⟩;delta V3 at h;rw[Q6,lY hi]at h;cases h;rfl
def FL(l m:List c6):List c6:=List.zipWith (λx y=>.tuple [x,y]) l m
theorem Mp(l m:List c6):cD [.list l,.list m]=some (FL l m):=rfl
theorem at_getD{f:α->c6}{l:List α}(a:α){i:Nat}(h:i<l.length):K5 (l.map f) (i:Int)=some (f (l.getD i a)):=by
 rw[dE (n:=i) rfl (by simpa using h),Q6,J3 h]
 simp[P8,h]
theorem U0{f:α->c6}{l:List α}(a:α){i:Nat}(h:i<l.length):K5 (l.map f) (0+(i:Int))=some (f (l.getD i a)):=by rw[J2];exact at_getD a h
abbrev q0:Q2:=(0,1)
theorem Z0(hm:1<=m):l7 m q0:=ix (Bt.mono (m:=1) ⟨by decide⟩ hm) hm
theorem gm{b:Q2}(ha:0<a.2)(hb:0<b.2)(h:a.1=0\/b.1=0):N0 a b=q0:=by
 have e:a.1*b.1=0:=by rcases h with h|h<;>simp[h]
 have hp:=G0 ha hb;delta N0;rw[e];exact Am hp (by decide) (by decide) (by simp)
theorem jj(hp:l7 m p):M4 p q0=p:=by
 show r9 (p.1*1+0*p.2) (p.2*1)=p
 simp only[cq,U6,lJ];exact An hp
abbrev L9(l:List Q2):c6:=.list (l.map fr)
def o2:Option Q2->c6
 |none=>.none
 |some q=>fr q
abbrev mS(l:List (Option Q2)):c6:=.list (l.map o2)
abbrev p5(l:List (List Q2)):c6:=.list (l.map L9)
abbrev V2(l:List Tr):c6:=.list (l.map p9)
def de(k:Nat)(l:List Q2):Prop:=∀q∈l,l7 k q
theorem de.at{l:List Q2}(h:de k l){i:Nat}(hi:i<l.length):l7 k (l.getD i q0):=by rw[P8,J3 hi];exact h _ (lQ ..)
def pZ(row mix:List Q2):Nat->Q2
 | 0=>q0
 |i+1=>M4 (pZ row mix i) (N0 (row.getD i q0) (mix.getD i q0))
abbrev Qk(row mix:List Q2):Q2:=pZ row mix row.length
theorem tm{row mix:List Q2}{k l:Nat}:∀i,(∀j,j<i->l7 k (row.getD j q0)/\l7 l (mix.getD j q0))->l7 (1+(k+l+1)*i) (pZ row mix i)
 | 0,_=>Z0 (by lia)
 |i+1,h=>by
  have h1:=tm i λj hj=>h j (by lia)
  have h2:=h i (by lia)
  refine(jk h1 (N6 h2.1 h2.2)).mono ?_;rw[BG,Nat.mul_one];lia
end
section
variable{f g:Nat->c6}{m:Nat}
noncomputable abbrev rl(n:Nat)(f:Nat->c6):List c6:=(A4 n).map f
abbrev il(n:Nat)(f:Nat->Int):c6:=.list (rl n λi=>.int (f i))
theorem B2(n:Nat)(f:Nat->c6):(rl n f).length=n:=by simp[rl]
theorem A3{n i:Nat}(f:Nat->c6)(h:i<n):K5 (rl n f) (i:Int)=some (f i):=by
 rw[dE (n:=i) rfl (by rw[B2];exact h),Q6,lY h]
 rfl
theorem jh{n i:Nat}(f:Nat->c6)(h:i<n):K5 (rl n f) (0+(i:Int))=some (f i):=by rw[J2];exact A3 f h
theorem X0{n:Nat}(h:∀i,i<n->f i=g i):rl n f=rl n g:=wu λi hi=>h i (mem_range.mp hi)
theorem gw{n i:Nat}(f:Nat->c6)(x:c6):(rl n f).set i x=rl n λk=>if k=i then x else f k:=by
 apply wd (by simp)
 intro k h1 h2;have hk:k<n:=by simpa using h2
 simp only[List.getElem_set,qU,rf];by_cases c:i=k
 . rw[c7 c,c7 c.symm]
 . rw[e9 c,e9 λz=>c z.symm]
theorem uw{n i:Nat}{d:c6}(h:(rl n f)[i]? = some d):i<n/\d=f i:=by
 have hi:i<n:=by
  by_cases c:i<n
  . exact c
  . rw[rk (by rw[B2];lia)]at h;cases h
 rw[Q6,lY hi]at h;cases h;exact⟨hi,rfl⟩
theorem Eh(n:Nat)(f:Nat->c6):rl n f++[f n]=rl (n+1) f:=by simp[rl,Cb]
theorem Uy(n:Nat)(x:c6):(v9 n [x]).flatten=rl n λ_=>x:=by
 induction n with
 |zero=>rfl
 |succ n ih=>rw[List.replicate_succ',List.flatten_append,ih,<-Eh];simp
theorem Tt{n:Nat}(f g:Nat->c6):FL (rl n f) (rl n g)=rl n λi=>.tuple [f i,g i]:=by
 apply wd (by simp[FL])
 intro k h1 h2;simp[FL]
theorem jd(f g:Nat->c6)(n:Nat):cD [.list (rl n f),.list (rl n g)]=some (rl n λi=>.tuple [f i,g i]):=by rw[Mp,Tt]
theorem rZ:∀(n:Nat) (f:Nat->c6) (o:Int),af o (rl n f)=rl n λi=>.tuple [.int (o+(i:Int)),f i]
 | 0,f,o=>rfl
 |n+1,f,o=>by
  have e:∀g:Nat->c6,rl (n+1) g=g 0::rl n λi=>g (i+1):=λg=>by rw[rl,LS,o6,eU];rfl
  rw[e,e,af,rZ n]
  congr 1
  . simp
  . exact X0 λi _=>by rw[show o+1+(i:Int)=o+((i+1:Nat):Int)from by lia]
theorem ni(n:Nat):V3 0 n=rl n λi=>.int (i:Int):=by delta V3;exact wu λi _=>by rw[J2]
theorem B7{Fe:Ds->Option PV}{ds:Ds}{n:Nat}{gt:c6->Option (List c6)}(h:∀i,i<n->∃bs pv,gt (f i)=some bs/\Fe (L4 bs++ds)=some pv/\pv.d=g i):D6 gt m6 Fe ds (rl n f)=some (rl n g):=by
 have key:∀k,k<=n->D6 gt m6 Fe ds ((rl n f).drop (n-k))=some ((rl n g).drop (n-k)):=by
  intro k;induction k with
  |zero=>intro _;rw[Nat.sub_zero,CI (by simp[rl]),CI (by simp[rl])];rfl
  |succ k ih =>
   intro hk;have hi:n-(k+1)<n:=by lia
   have e1:∀f:Nat->c6,(rl n f).drop (n-(k+1))=f (n-(k+1))::(rl n f).drop (n-k):=λf=>by
    rw[sk (by simpa [rl]using hi),show n-(k+1)+1=n-k from by lia]
    simp[rl]
   rw[e1,e1];obtain⟨bs,pv,h1,h2,h3⟩:=h _ hi;unfold D6;simp only[h1,j4,m6,A9];rw[h2];simp only[j4];rw[ih (by lia)]
   simp only[j4,h3]
 have:=key n (o3 _);rw[Nat.sub_self]at this;exact this
theorem SQ(n:Nat)(f:Nat->Int):intsOf (rl n λi=>.int (f i))=some ((A4 n).map f):=ints_map f _
theorem Ij(n:Nat)(f:Nat->Int):((A4 n).map f).sum=Sx.sm n f:=by
 induction n with
 |zero=>rfl
 |succ n ih=>rw[Cb,gQ,List.sum_append,ih,Sx.sm];simp
abbrev av(c:List (Nat×Int)):c6:=.list (c.map λe=>.tuple [.int (e.1:Int),.int e.2])
def D9:List (Nat×Int)->Nat->Int
 | [],_=>0
 |e::c,r=>(if e.1=r then e.2 else 0)+D9 c r
theorem Bc{m:Nat}(f:Nat->Int):∀c:List (Nat×Int),(∀e∈c,e.1<m)->(c.map λe=>f e.1*e.2).sum=Sx.dot m f (D9 c)
 | [],_=>by
  delta Sx.dot;rw[Sx.fO λi _=>by rw[D9,J6]]
  rfl
 |e::c,h=>by
  have ih:=Bc f c λx hx=>h x (C4 _ hx)
  have he:=h e A2;rw[o6,List.sum_cons,ih];delta Sx.dot;have e1:(Sx.sm m λr=>f r*D9 (e::c) r)=Sx.sm m λr=>(if r=e.1 then f e.1*e.2 else 0)+f r*D9 c r:=Sx.l8 λr _=>by
   rw[D9];by_cases z:e.1=r
   . rw[c7 z,c7 z.symm,z,eO]
   . rw[e9 z,e9 λy=>z y.symm,J2,J2]
  have e2:(Sx.sm m λr=>if r=e.1 then f e.1*e.2 else 0)=f e.1*e.2:=by rw[Sx.O6 he λi _ hi=>by rw[e9 hi],c7 rfl]
  rw[e1,Sx.gq,e2]
theorem R7{n:Nat}(h:n<=1000):(rl n f).length<=1000000:=by rw[B2];lia
theorem Gq{f g:Nat->Int}(hm:m<=1000)(hf:∀i,i<m->Bt 60000 (f i))(hg:∀i,i<m->Bt 60000 (g i)):jI [il m f,il m g]=some (.dat (.int (Sx.dot m f g))):=by
 delta jI;walk_at "r";rw[jd];walk_at "r";rw[c7 (R7 hm),B7 (g:=λi=>.int (f i*g i)) λi hi=>⟨_,_,rfl,by delta mW;walk_at "r";rw[p8 (hf i hi) (hg i hi)],rfl⟩]
 walk_at "r";rw[SQ];walk_at "r";rw[Ij];rfl
theorem vp{f:Nat->Int}{c:List (Nat×Int)}(hc:c.length<=1000)(hp:∀e∈c,e.1<m/\Bt 60000 e.2)(hf:∀i,i<m->Bt 60000 (f i)):U1 [il m f,av c]=some (.dat (.int (Sx.dot m f (D9 c)))):=by
 delta U1;walk_at "r";have e:D6 (N7 2) m6 P0 [some (.dat (il m f)),some (.dat (av c))] (c.map λe=>.tuple [.int (e.1:Int),.int e.2])=some (c.map λe=>.int (f e.1*e.2)):=by
  have:∀l:List (Nat×Int),(∀e∈l,e.1<m/\Bt 60000 e.2)->D6 (N7 2) m6 P0 [some (.dat (il m f)),some (.dat (av c))] (l.map λe=>.tuple [.int (e.1:Int),.int e.2])=some (l.map λe=>.int (f e.1*e.2)):=by
   intro l;induction l with
   |nil=>intro _;rfl
   |cons x l ih =>
    intro h;obtain⟨h1,h2⟩:=h x A2;rw[o6,D6];simp only[N7,O0,lN,Nat.reduceAdd,A9,j4,m6,jn,lq,X9,aF];have e0:P0 [some (.dat (.int (x.1:Int))),some (.dat (.int x.2)),some (.dat (il m f)),some (.dat (av c))]=some (.dat (.int (f x.1*x.2))):=by delta P0;walk_at "r";rw[A3 _ h1];walk_at "r";rw[p8 (hf _ h1) h2]
    rw[e0];simp only[j4];rw[ih λy hy=>h y (C4 _ hy)]
    rfl
  exact this c hp
 rw[c7 (by rw[N9];lia),e]
 walk_at "r";rw[ints_map,j4,Bc f c λe he=>(hp e he).1]
 rfl
theorem xS{f g:Nat->Int}{fa pv sz:Int}(hm:m<=1000)(hf:∀i,i<m->Bt 20000 (f i))(hg:∀i,i<m->Bt 20000 (g i))(b1:Bt 20000 fa)(b2:Bt 20000 pv)(b3:Bt 8000 sz)(h0:0<sz):
  ∃r,fJ [il m f,il m g,.int fa,.int pv,.int sz]=some r/\r.d=il m λi=>(f i*pv-fa*g i).fdiv sz:=by
 have go:(fa=0/\pv=sz)\/¬(fa=0/\pv=sz):=Classical.em _;rcases go with ⟨c1,c2⟩|c
 . subst c1 c2;refine⟨.dat (il m f),?_,?_⟩
   . delta fJ;walk_at "r"
   . show nP (rl m λi=>.int (f i))=.list (rl m λi=>.int ((f i*pv-0*g i).fdiv pv))
     rw[X0 λi _=>?_]
     rw[U6,qP,Int.mul_fdiv_cancel _ (by lia)]
 . refine⟨.own (rl m λi=>.int ((f i*pv-fa*g i).fdiv sz)),?_,rfl⟩
   delta fJ;walk_at "r";have e:(if fa=0 then(some (decide (pv=sz)):Option Bool)else some false)=some false:=by
    by_cases c1:fa=0
    . rw[c7 c1,iS λz=>c ⟨c1,z⟩]
    . rw[e9 c1]
   rw[e];walk_at "r";rw[jd];walk_at "r";rw[c7 (R7 hm),B7 (g:=λi=>.int ((f i*pv-fa*g i).fdiv sz)) λi hi=>⟨_,_,rfl,by
    delta pF;walk_at "r";rw[p8 ((hf i hi).mono (by decide)) (b2.mono (by decide)),p8 (b1.mono (by decide)) ((hg i hi).mono (by decide))]
    walk_at "r";rw[K3 (by lia) b3],rfl⟩]
   rfl
end
end Law
local macro_rules | `(tactic| walk_at "f") => `(tactic| repeat (first|rw[c7 trivial]|rw[e9 (by decide +kernel)]))
namespace Law
open PySem L2
structure K6 where
 m:Nat
 n:Nat
 sc:Nat->Int
 col:Nat->List (Nat×Int)
 mu:Nat->Int
 wt:Nat->Nat->Int
 un:Int
 lim:Nat->Option Int
def Z8:Option Int->c6
 |none=>.none
 |some v=>.int v
def K6.pb(Q:K6)(b:Nat->Int):Sx.Pb:=⟨Q.m,Q.n,λj=>D9 (Q.col j),b,Q.lim,Q.wt⟩
def B8(Q:K6)(T:Sx.Tb):List (Str×PF):=[("scales",.dat (il Q.n Q.sc)),("columns",.dat (.list (rl Q.n λj=>av (Q.col j)))),("multiples",.own (rl 3 λt=>.int (Q.mu t))),("weights",.own (rl 3 λt=>il Q.n (Q.wt t))),("unit",.dat (.int Q.un)),("rights",.own (rl Q.m λp=>.int (T.rt p))),("limits",.dat (.list (rl Q.n λj=>Z8 (Q.lim j)))),("chosen",.own (rl Q.m λk=>.int (T.B k:Int))),("full",.own (rl Q.n λj=>.bool (T.full j))),("size",.dat (.int T.size)),("inverse",.dat (.list (rl Q.m λk=>il Q.m (T.inv k)))),("prices",.own (rl 3 λt=>il Q.m (T.pr t)))]
abbrev n8(Q:K6)(T:Sx.Tb):OD:=.ins "Table" (B8 Q T)
def o8(Q:K6)(T:Sx.Tb):c6:=(n8 Q T).d
abbrev Ex:List Str:=["scales","columns","multiples","weights","unit","rights","limits","chosen","full","size","inverse","prices"]
abbrev lT(Q:K6)(T:Sx.Tb):List c6:=[(il Q.n Q.sc),(.list (rl Q.n λj=>av (Q.col j))),.list (rl 3 λt=>.int (Q.mu t)),.list (rl 3 λt=>il Q.n (Q.wt t)),(.int Q.un),.list (rl Q.m λp=>.int (T.rt p)),(.list (rl Q.n λj=>Z8 (Q.lim j))),.list (rl Q.m λk=>.int (T.B k:Int)),.list (rl Q.n λj=>.bool (T.full j)),(.int T.size),(.list (rl Q.m λk=>il Q.m (T.inv k))),.list (rl 3 λt=>il Q.m (T.pr t))]
theorem Uc(Q:K6)(T:Sx.Tb):o8 Q T=qw "Table" Ex (lT Q T):=rfl
theorem Y8(Q:K6)(T:Sx.Tb):rV "Table" (o8 Q T)=some (Ex.map .str,lT Q T):=by rw[Uc];exact JV _ _ _
theorem KS(w:Option Addr)(Q:K6)(T:Sx.Tb):PV.d (.ob w (.ins "Table" (B8 Q T)))=o8 Q T:=rfl
theorem yO(b:Bool):QU (PV.d (.dat (.bool b)))=some b:=rfl
section
variable(Q:K6)(T:Sx.Tb)
theorem vc:Q4 "Table" "scales" (o8 Q T)=some ((il Q.n Q.sc)):=by delta Q4;rw[Y8,j4];simp only[o6,N8,E8];walk_at "f"
theorem yl:q5 "scales" (B8 Q T)=some (.dat (il Q.n Q.sc)):=by simp only[B8,q5];walk_at "f"
theorem sQ:Q4 "Table" "columns" (o8 Q T)=some ((.list (rl Q.n λj=>av (Q.col j)))):=by delta Q4;rw[Y8,j4];simp only[o6,N8,E8];walk_at "f"
theorem uP:q5 "columns" (B8 Q T)=some (.dat (.list (rl Q.n λj=>av (Q.col j)))):=by simp only[B8,q5];walk_at "f"
theorem pJ:Q4 "Table" "multiples" (o8 Q T)=some (.list (rl 3 λt=>.int (Q.mu t))):=by delta Q4;rw[Y8,j4];simp only[o6,N8,E8];walk_at "f"
theorem qq:q5 "multiples" (B8 Q T)=some (.own (rl 3 λt=>.int (Q.mu t))):=by simp only[B8,q5];walk_at "f"
theorem sO:Q4 "Table" "weights" (o8 Q T)=some (.list (rl 3 λt=>il Q.n (Q.wt t))):=by delta Q4;rw[Y8,j4];simp only[o6,N8,E8];walk_at "f"
theorem uN:q5 "weights" (B8 Q T)=some (.own (rl 3 λt=>il Q.n (Q.wt t))):=by simp only[B8,q5];walk_at "f"
theorem AM:Q4 "Table" "unit" (o8 Q T)=some ((.int Q.un)):=by delta Q4;rw[Y8,j4];simp only[o6,N8,E8];walk_at "f"
theorem EH:q5 "unit" (B8 Q T)=some (.dat (.int Q.un)):=by simp only[B8,q5];walk_at "f"
theorem vd:Q4 "Table" "rights" (o8 Q T)=some (.list (rl Q.m λp=>.int (T.rt p))):=by delta Q4;rw[Y8,j4];simp only[o6,N8,E8];walk_at "f"
theorem qo:q5 "rights" (B8 Q T)=some (.own (rl Q.m λp=>.int (T.rt p))):=by simp only[B8,q5];walk_at "f"
theorem vf:Q4 "Table" "limits" (o8 Q T)=some ((.list (rl Q.n λj=>Z8 (Q.lim j)))):=by delta Q4;rw[Y8,j4];simp only[o6,N8,E8];walk_at "f"
theorem ym:q5 "limits" (B8 Q T)=some (.dat (.list (rl Q.n λj=>Z8 (Q.lim j)))):=by simp only[B8,q5];walk_at "f"
theorem vg:Q4 "Table" "chosen" (o8 Q T)=some (.list (rl Q.m λk=>.int (T.B k:Int))):=by delta Q4;rw[Y8,j4];simp only[o6,N8,E8];walk_at "f"
theorem qr:q5 "chosen" (B8 Q T)=some (.own (rl Q.m λk=>.int (T.B k:Int))):=by simp only[B8,q5];walk_at "f"
theorem AO:Q4 "Table" "full" (o8 Q T)=some (.list (rl Q.n λj=>.bool (T.full j))):=by delta Q4;rw[Y8,j4];simp only[o6,N8,E8];walk_at "f"
theorem xm:q5 "full" (B8 Q T)=some (.own (rl Q.n λj=>.bool (T.full j))):=by simp only[B8,q5];walk_at "f"
theorem AN:Q4 "Table" "size" (o8 Q T)=some ((.int T.size)):=by delta Q4;rw[Y8,j4];simp only[o6,N8,E8];walk_at "f"
theorem EI:q5 "size" (B8 Q T)=some (.dat (.int T.size)):=by simp only[B8,q5];walk_at "f"
theorem sP:Q4 "Table" "inverse" (o8 Q T)=some ((.list (rl Q.m λk=>il Q.m (T.inv k)))):=by delta Q4;rw[Y8,j4];simp only[o6,N8,E8];walk_at "f"
theorem uO:q5 "inverse" (B8 Q T)=some (.dat (.list (rl Q.m λk=>il Q.m (T.inv k)))):=by simp only[B8,q5];walk_at "f"
theorem ve:Q4 "Table" "prices" (o8 Q T)=some (.list (rl 3 λt=>il Q.m (T.pr t))):=by delta Q4;rw[Y8,j4];simp only[o6,N8,E8];walk_at "f"
theorem qp:q5 "prices" (B8 Q T)=some (.own (rl 3 λt=>il Q.m (T.pr t))):=by simp only[B8,q5];walk_at "f"
theorem EA:E8 "rest" (Ex.map .str) (lT Q T)=none:=by simp only[o6,N8,E8];walk_at "f"
theorem uJ:E8 "amounts" (Ex.map .str) (lT Q T)=none:=by simp only[o6,N8,E8];walk_at "f"
theorem Oh:E8 "paces" (Ex.map .str) (lT Q T)=none:=by simp only[o6,N8,E8];walk_at "f"
theorem tJ:q5 "flip" (B8 Q T)=none:=by simp only[B8,q5];walk_at "f"
theorem Oe:q5 "turn" (B8 Q T)=none:=by simp only[B8,q5];walk_at "f"
theorem IE(r:Nat->Int):F7 "rights" (.own (rl Q.m λp=>.int (r p))) (B8 Q T)=B8 Q {T with rt:=r}:=by simp only[B8,F7];walk_at "f"
theorem IG(r:Nat->Nat):F7 "chosen" (.own (rl Q.m λk=>.int (r k:Int))) (B8 Q T)=B8 Q {T with B:=r}:=by simp only[B8,F7];walk_at "f"
theorem RW(r:Nat->Bool):F7 "full" (.own (rl Q.n λj=>.bool (r j))) (B8 Q T)=B8 Q {T with full:=r}:=by simp only[B8,F7];walk_at "f"
theorem RV(r:Int):F7 "size" (.dat (.int r)) (B8 Q T)=B8 Q {T with size:=r}:=by simp only[B8,F7];walk_at "f"
theorem Gm(r:Nat->Nat->Int):F7 "inverse" (.dat (.list (rl Q.m λk=>il Q.m (r k)))) (B8 Q T)=B8 Q {T with inv:=r}:=by simp only[B8,F7];walk_at "f"
theorem IF(r:Nat->Nat->Int):F7 "prices" (.own (rl 3 λt=>il Q.m (r t))) (B8 Q T)=B8 Q {T with pr:=r}:=by simp only[B8,F7];walk_at "f"
end
theorem lp{Q:K6}{T:Sx.Tb}{m:Str}{f:List c6->Option PV}{Fo:Ds->Option PV}{Fl:Ds->Option (List c6)}{ds:Ds}{pv:PV}{l:List c6}(h:Fo ds=some pv)(hd:pv.d=o8 Q T)(hm:E8 m (Ex.map .str) (lT Q T)=none)(hl:Fl ds=some l):K4 "Table" m f Fo Fl ds=f (o8 Q T::l):=by delta K4;rw[h,j4,hd,Y8,j4];simp only[hm,hl,j4]
structure X5(Q:K6)(T:Sx.Tb):Prop where
 m1:Q.m<=1000
 n1:Q.n<=1000
 cl:∀j,j<Q.n->(Q.col j).length<=1000
 cb:∀j,j<Q.n->∀e∈Q.col j,e.1<Q.m/\Bt 7000 e.2
 wb:∀t j,t<3->j<Q.n->Bt 7000 (Q.wt t j)
 lb:∀j v,j<Q.n->Q.lim j=some v->Bt 7000 v
 bn:∀k,k<Q.m->T.B k<Q.n
 rb:∀p,p<Q.m->Bt 7000 (T.rt p)
 ib:∀k q,k<Q.m->q<Q.m->Bt 7000 (T.inv k q)
 pb:∀t q,t<3->q<Q.m->Bt 7000 (T.pr t q)
 sb:Bt 7000 T.size
 sp:0<T.size
 ab:∀k,k<Q.m->Bt 7000 (T.am (Q.pb λ_=>0) k)
 vt:∀a k,a<Q.n->k<Q.m->Bt 7000 (T.i0 (Q.pb λ_=>0) a k)
 XD:∀t a,t<3->a<Q.n->Bt 7000 (T.rest (Q.pb λ_=>0) t a)
end Law
local macro_rules | `(tactic| walk_at "v") => `(tactic| ((first|simp only[L2.A1, L2.F6, L2.gC, L2.dS, L2.aW, L2.S7, L2.mG, L2.T9, L2.K8, L2.iM, L2.gE, L2.AY, L2.qh, L2.J1, L2.lg, L2.G5, L2.eY, L2.G9, L2.cz, Law.vc, Law.sQ, Law.pJ, Law.sO, Law.AM, Law.vd, Law.vf, Law.vg, Law.AO, Law.AN, Law.sP, Law.ve, Law.yl, Law.uP, Law.qq, Law.uN, Law.EH, Law.qo, Law.ym, Law.qr, Law.xm, Law.EI, Law.uO, Law.qp, Law.KS, Law.yO]|walk_at "r"); repeat (first|simp only[L2.A1, L2.F6, L2.gC, L2.dS, L2.aW, L2.S7, L2.mG, L2.T9, L2.K8, L2.iM, L2.gE, L2.AY, L2.qh, L2.J1, L2.lg, L2.G5, L2.eY, L2.G9, L2.cz, Law.vc, Law.sQ, Law.pJ, Law.sO, Law.AM, Law.vd, Law.vf, Law.vg, Law.AO, Law.AN, Law.sP, Law.ve, Law.yl, Law.uP, Law.qq, Law.uN, Law.EH, Law.qo, Law.ym, Law.qr, Law.xm, Law.EI, Law.uO, Law.qp, Law.KS, Law.yO]|walk_at "r")))
namespace Law
open PySem L2
section
variable{t a:Nat}
section
variable{Q:K6}{T:Sx.Tb}
theorem JD(h:t<3):t=0\/t=1\/t=2:=by lia
theorem Ei(ht:t<3)(ha:a<Q.n)(cl:(Q.col a).length<=1000)(cb:∀e∈Q.col a,e.1<Q.m/\Bt 7000 e.2)(wb:Bt 7000 (Q.wt t a))(sb:Bt 7000 T.size)(pb:∀q,q<Q.m->Bt 7000 (T.pr t q)):N5 [o8 Q T,.int (t:Int),.int (a:Int)]=some (.dat (.int (T.rest (Q.pb λ_=>0) t a))):=by
 delta N5;walk_at "v";rw[A3 _ ht];walk_at "v";rw[A3 _ ha,A3 _ ht];walk_at "v";rw[A3 _ ha];walk_at "v";rw[p8 (wb.mono (by decide)) (sb.mono (by decide)),vp cl (λe he=>⟨(cb e he).1,((cb e he).2).mono (by decide)⟩) λi hi=>(pb i hi).mono (by decide)]
 walk_at "v";rfl
theorem rest_eq(K:X5 Q T)(ht:t<3)(ha:a<Q.n):N5 [o8 Q T,.int (t:Int),.int (a:Int)]=some (.dat (.int (T.rest (Q.pb λ_=>0) t a))) :=
 Ei ht ha (K.cl a ha) (K.cb a ha) (K.wb t a ht ha) K.sb λq hq=>K.pb t q ht hq
theorem vy(K:X5 Q T):M8 [o8 Q T]=some (.own (rl Q.m λk=>.int (T.am (Q.pb λ_=>0) k))):=by
 delta M8;walk_at "v";rw[c7 (R7 K.m1),B7 (g:=λk=>.int (T.am (Q.pb λ_=>0) k)) λk hk=>⟨_,_,rfl,by delta dU;walk_at "v";rw[Gq K.m1 (λi hi=>(K.ib k i hk hi).mono (by decide)) λi hi=>(K.rb i hi).mono (by decide)],rfl⟩]
 rfl
theorem NV(K:X5 Q T)(ha:a<Q.n):R4 [o8 Q T,.int (a:Int)]=some (.own (rl Q.m λk=>.int (T.i0 (Q.pb λ_=>0) a k))):=by
 delta R4;walk_at "v";rw[c7 (R7 K.m1),B7 (g:=λk=>.int (T.i0 (Q.pb λ_=>0) a k)) λk hk=>⟨_,_,rfl,by delta gZ;walk_at "v";rw[A3 _ ha];walk_at "v";rw[vp (K.cl a ha) (λe he=>⟨(K.cb a ha e he).1,((K.cb a ha e he).2).mono (by decide)⟩) λi hi=>(K.ib k i hk hi).mono (by decide)],rfl⟩]
 rfl
end
end
section
variable{j t:Nat}
section
variable{Q:K6}{T:Sx.Tb}
abbrev l5(Q:K6):Sx.Pb:=Q.pb λ_=>0
theorem OT(o:Option Int):O3 (Z8 o) (.int 0)=some (.dat (.bool (decide (o=some 0)))):=by
 cases o with
 |none =>
  show(if J7 .none=true/\J7 (.int 0)=true then some (PV.dat (.bool (X7 .none (.int 0))))else none)=_
  rw[Dg,gs];simp[X7]
 |some v =>
  rw[show Z8 (some v)=.int v from rfl,oW]
  congr 3
  simp
def zj(r:Nat->Int):Option (Nat×Int) :=
 if r 0≠0 then(if r 0<0 then some (0,r 0)else none)else if r 1≠0 then(if r 1<0 then some (1,r 1)else none)else if r 2≠0 then(if r 2<0 then some (2,r 2)else none)else none
theorem yz(r:Nat->Int):(zj r).isSome=true↔Sx.Neg r:=by
 delta zj Sx.Neg;by_cases h0:r 0=0
 . rw[e9 (λz=>z h0)]
   by_cases h1:r 1=0
   . rw[e9 (λz=>z h1)]
     by_cases h2:r 2=0
     . rw[e9 (λz=>z h2)];simp;lia
     . rw[c7 h2];split<;>simp<;>lia
   . rw[c7 h1];split<;>simp<;>lia
 . rw[c7 h0];split<;>simp<;>lia
def gn(Q:K6)(T:Sx.Tb)(j:Nat):Option (Nat×Int):=if Q.lim j=some 0 then none else zj λt=>T.sg j*T.rest (l5 Q) t j
def fV:Option (Nat×Int)->c6
 |none=>.none
 |some (t,r)=>.tuple [.int (t:Int),.int r]
theorem gn_enter(hj:j<Q.n)(b:Nat->Int):(gn Q T j).isSome=true↔Sx.M9 (Q.pb b) T j:=by
 delta gn;constructor
 . intro h;by_cases c:Q.lim j=some 0
   . rw[c7 c]at h;cases h
   . rw[e9 c]at h;exact⟨hj,c,(yz _).mp h⟩
 . intro h;rw[e9 (show Q.lim j≠some 0 from h.u0)]
   exact(yz _).mpr h.neg
theorem XC(T:Sx.Tb)(j:Nat):(if T.full j=true then some (PV.dat (.int (-1)))else some (PV.dat (.int 1)))=some (PV.dat (.int (T.sg j))):=by delta Sx.Tb.sg;split<;>rfl
theorem Qj(T:Sx.Tb)(j:Nat):Bt 60000 (T.sg j):=by
 delta Sx.Tb.sg;split
 . exact Bt.lit
 . exact Bt.lit
theorem tO(K:X5 Q T)(ht:t<3)(hj:j<Q.n)(x4:Option PV):
  jc [some (.dat (o8 Q T)),iD (j:Int),iD (T.sg j),iD (t:Int),x4]=some (if T.sg j*T.rest (l5 Q) t j≠0 then .ret (.dat (if T.sg j*T.rest (l5 Q) t j<0 then .tuple [.int (t:Int),.int (T.sg j*T.rest (l5 Q) t j)]else .none))
   else .next [some (.dat (o8 Q T)),iD (j:Int),iD (T.sg j),iD (t:Int),iD (T.sg j*T.rest (l5 Q) t j)]):=by
 delta jc;walk_at "v";rw[lp (Q:=Q) (T:=T) (l:=[.int (t:Int),.int (j:Int)]) rfl rfl (EA Q T) rfl,rest_eq K ht hj];walk_at "v";rw[p8 (Qj T j) ((K.XD t j ht hj).mono (by decide))]
 walk_at "v";by_cases c:T.sg j*T.rest (l5 Q) t j=0
 . rw[e9 (λz=>z c),e9 (λz=>z c)]
 . rw[c7 c,c7 c];by_cases c2:T.sg j*T.rest (l5 Q) t j<0
   . simp only[c7 c2];walk_at "v"
   . simp only[e9 c2];walk_at "v"
theorem oT{gt:c6->Ds->Option Ds}{G:Ds->Option Out}{d:c6}{r:List c6}{ds ds1:Ds}{pv:PV}(h1:gt d ds=some ds1)(h2:G ds1=some (.ret pv)):K7 gt G (d::r) ds=some (.ret pv):=by unfold K7;rw[h1,j4,h2];rfl
theorem rW(K:X5 Q T)(hj:j<Q.n):jL [o8 Q T,.int (j:Int)]=some (.dat (fV (gn Q T j))):=by
 delta jL gn;walk_at "v";rw[A3 _ hj];walk_at "v";rw[OT];walk_at "v";by_cases c:Q.lim j=some 0
 . simp only[c7 c];rfl
 . simp only[e9 c];walk_at "v";rw[A3 _ hj];walk_at "v";rw[XC];walk_at "v";have h0:=tO K (t:=0) (by decide) hj
   have h1:=tO K (t:=1) (by decide) hj
   have h2:=tO K (t:=2) (by decide) hj
   delta zj;by_cases c0:T.sg j*T.rest (l5 Q) 0 j=0
   . simp only[c0,ne_eq,lV,M6]at h0 ⊢;rw[O7 (ds2:=[some (.dat (o8 Q T)),iD (j:Int),iD (T.sg j),iD 0,iD 0]) rfl (h0 none)];by_cases c1:T.sg j*T.rest (l5 Q) 1 j=0
     . simp only[c1,ne_eq,lV,M6]at h1 ⊢;rw[O7 (ds2:=[some (.dat (o8 Q T)),iD (j:Int),iD (T.sg j),iD 1,iD 0]) rfl (h1 _)];by_cases c2:T.sg j*T.rest (l5 Q) 2 j=0
       . simp only[c2,ne_eq,lV,M6]at h2 ⊢;rw[O7 (ds2:=[some (.dat (o8 Q T)),iD (j:Int),iD (T.sg j),iD 2,iD 0]) rfl (h2 _)];rfl
       . simp only[c7 (show T.sg j*T.rest (l5 Q) 2 j≠0 from c2)]at h2 ⊢
         rw[oT rfl (h2 _)];split<;>rfl
     . simp only[c7 (show T.sg j*T.rest (l5 Q) 1 j≠0 from c1)]at h1 ⊢
       rw[oT rfl (h1 _)];split<;>rfl
   . simp only[c7 (show T.sg j*T.rest (l5 Q) 0 j≠0 from c0)]at h0 ⊢
     rw[oT rfl (h0 _)];split<;>rfl
theorem AL{gt:c6->Ds->Option Ds}{G:Ds->Option Out}{items:List c6}(I:Nat->Ds->Prop)(R:PV->Prop)(hs:∀i d ds,items[i]? = some d->I i ds->∃ds1,gt d ds=some ds1/\((∃ds2,G ds1=some (.next ds2)/\I (i+1) ds2)\/∃pv,G ds1=some (.ret pv)/\R pv)):
  ∀(k i:Nat) (ds:Ds),i+k=items.length->I i ds->(∃ds',K7 gt G (items.drop i) ds=some (.next ds')/\I items.length ds')\/∃pv,K7 gt G (items.drop i) ds=some (.ret pv)/\R pv
 | 0,i,ds,e,h=>by
  rw[CI (by lia)]
  have:i=items.length:=by lia
  rw[<-this];exact .inl ⟨ds,rfl,h⟩
 |k+1,i,ds,e,h=>by
  have hi:i<items.length:=by lia
  rw[sk hi];obtain⟨ds1,h1,⟨ds2,h2,h3⟩|⟨pv,h2,h3⟩⟩:=hs i _ ds (J3 hi) h
  . rw[O7 h1 h2];exact AL I R hs k (i+1) ds2 (by lia) h3
  . exact .inr ⟨pv,oT h1 h2,h3⟩
def optN:Option Nat->c6
 |none=>.none
 |some a=>.int (a:Int)
theorem VH(x y:Nat×Int):∃b,tM (fV (some x)) (fV (some y))=some (.dat (.bool b)):=⟨_,rfl⟩
theorem yj(K:X5 Q T)(cf:Bool):∃r:Option Nat,fK [o8 Q T,.bool cf]=some (.dat (optN r))/\(r=none->∀j,j<Q.n->gn Q T j=none)/\∀a,r=some a->a<Q.n/\(gn Q T a).isSome=true/\(cf=true->∀j,j<a->gn Q T j=none):=by
 delta fK;walk_at "v";rw[B2,C8 (by have:=K.n1;lia)]
 walk_at "v";rw[J8,ni];have key:=AL (gt:=z9 4) (G:=Y6) (items:=rl Q.n λi=>.int (i:Int))
  (λi ds=>∃(r:Option Nat) (best:Option (Nat×Int)) (x4 x5:Option PV),ds=[some (.dat (o8 Q T)),some (.dat (.bool cf)),some (.dat (optN r)),some (.dat (fV best)),x4,x5]/\(r.isSome=best.isSome)/\(r=none->∀j,j<i->gn Q T j=none)/\(∀a,r=some a->a<Q.n/\(gn Q T a).isSome=true/\cf=false))
  (λpv=>∃a,pv=.dat (optN (some a))/\a<Q.n/\(gn Q T a).isSome=true/\∀j,j<a->gn Q T j=none)
  (by
   rintro i d ds hd ⟨r,best,x4,x5,rfl,hb,h1,h2⟩;obtain⟨hi,rfl⟩:=uw hd;refine⟨_,rfl,?_⟩;cases hg:gn Q T i with
   |none =>
    refine .inl ⟨[some (.dat (o8 Q T)),some (.dat (.bool cf)),some (.dat (optN r)),some (.dat (fV best)),iD (i:Int),some (.dat .none)],?_,r,best,_,_,rfl,hb,λhr j hj=>?_,h2⟩
    . delta Y6;walk_at "v";rw[rW K hi,hg];simp only[fV];walk_at "v"
    . by_cases c:j=i
      . rw[c];exact hg
      . exact h1 hr j (by lia)
   |some g =>
    have go:(r=none\/∃a0 b0,r=some a0/\best=some b0/\(∃w,tM (fV (some g)) (fV (some b0))=some (.dat (.bool w))/\w=true))->Y6 [some (.dat (o8 Q T)),some (.dat (.bool cf)),some (.dat (optN r)),some (.dat (fV best)),iD (i:Int),x5]=if cf=true then some (.ret (.dat (.int (i:Int))))else some (.next [some (.dat (o8 Q T)),some (.dat (.bool cf)),iD (i:Int),some (.dat (fV (some g))),iD (i:Int),some (.dat (fV (some g)))]):=by
     obtain⟨g1,g2⟩:=g;rintro(rfl|⟨a0,⟨b1,b2⟩,rfl,rfl,w,hw,rfl⟩)
     . delta Y6;walk_at "v";rw[rW K hi,hg];simp only[fV,optN];walk_at "v"
     . delta Y6;walk_at "v";rw[rW K hi,hg];simp only[fV,optN]at hw ⊢;walk_at "v";rw[hw];walk_at "v"
    have nx:cf=false->(r=none\/∃a0 b0,r=some a0/\best=some b0/\(∃w,tM (fV (some g)) (fV (some b0))=some (.dat (.bool w))/\w=true))->(∃ds2,Y6 [some (.dat (o8 Q T)),some (.dat (.bool cf)),some (.dat (optN r)),some (.dat (fV best)),iD (i:Int),x5]=some (.next ds2)/\∃(r:Option Nat) (best:Option (Nat×Int)) (x4 x5:Option PV),ds2=[some (.dat (o8 Q T)),some (.dat (.bool cf)),some (.dat (optN r)),some (.dat (fV best)),x4,x5]/\(r.isSome=best.isSome)/\(r=none->∀j,j<i+1->gn Q T j=none)/\(∀a,r=some a->a<Q.n/\(gn Q T a).isSome=true/\cf=false)):=λhc h=>by rw[go h,hc];exact⟨_,rfl,some i,some g,_,_,rfl,rfl,(λz=>by cases z),λa ha=>by cases ha;exact⟨hi,by rw[hg];rfl,rfl⟩⟩
    cases hr:r with
    |none =>
     cases hc:cf with
     |false =>
      subst hc hr;exact .inl (nx rfl (.inl rfl))
     |true =>
      subst hc hr;exact .inr ⟨.dat (.int (i:Int)),go (.inl rfl),i,rfl,hi,by rw[hg];rfl,h1 rfl⟩
    |some a0 =>
     obtain⟨g1,g2,g3⟩:=h2 a0 hr;subst g3;cases hbb:best with
     |none=>rw[hr,hbb]at hb;cases hb
     |some b0 =>
      subst hr hbb;obtain⟨w,hw⟩:=VH g b0;cases w with
      |true=>exact .inl (nx rfl (.inr ⟨a0,b0,rfl,rfl,true,hw,rfl⟩))
      |false =>
       refine .inl ⟨[some (.dat (o8 Q T)),some (.dat (.bool false)),some (.dat (optN (some a0))),some (.dat (fV (some b0))),iD (i:Int),some (.dat (fV (some g)))],?_,some a0,some b0,_,_,rfl,rfl,(λz=>by cases z),h2⟩
       obtain⟨g1,g2⟩:=g;obtain⟨b1,b2⟩:=b0;delta Y6;walk_at "v";rw[rW K hi,hg];simp only[fV,optN]at hw ⊢;walk_at "v";rw[hw];walk_at "v")
  Q.n 0 [some (.dat (o8 Q T)),some (.dat (.bool cf)),some (.dat .none),some (.dat .none),none,none] (by rw[B2];lia) ⟨none,none,none,none,rfl,rfl,λ_ j hj=>by lia,λa h=>by cases h⟩
 rw[List.drop_zero]at key;rcases key with ⟨ds',h1,r,best,x4,x5,rfl,hb,h2,h3⟩|⟨pv,h1,a,rfl,h2,h3,h4⟩
 . rw[h1];refine⟨r,rfl,λhr j hj=>h2 hr j (by rw[B2];exact hj),λa ha=>?_⟩
   obtain⟨g1,g2,g3⟩:=h3 a ha;exact⟨g1,g2,λz=>by rw[g3]at z;cases z⟩
 . rw[h1];exact⟨some a,rfl,(λz=>by cases z),λb hb=>by cases hb;exact⟨h2,h3,λ_=>h4⟩⟩
end
end
section
variable{a k:Nat}{r t:Q9}
structure Q9 where
 top:Int
 bot:Int
 ch:Nat
 pl:Option Nat
 tp:Bool
def F0(s:Q9):c6:=.tuple [.int s.top,.int s.bot,.int (s.ch:Int),optN s.pl,.bool s.tp]
section
variable{Q:K6}{T:Sx.Tb}
def rF(Q:K6)(a:Nat):List Q9:=match Q.lim a with
 |some v=>[⟨v,1,a,none,false⟩]
 |none=>[]
def stK(Q:K6)(T:Sx.Tb)(a k:Nat):List Q9 :=
 if 0<T.sg a*T.i0 (l5 Q) a k then[⟨T.am (l5 Q) k,T.sg a*T.i0 (l5 Q) a k,T.B k,some k,false⟩]
 else if T.sg a*T.i0 (l5 Q) a k<0 then(match Q.lim (T.B k)with
  |some v=>[⟨v*T.size-T.am (l5 Q) k,-(T.sg a*T.i0 (l5 Q) a k),T.B k,some k,true⟩]
  |none=>[])
 else[]
def stI(Q:K6)(T:Sx.Tb)(a:Nat):Nat->List Q9
 | 0=>rF Q a
 |k+1=>stI Q T a k++stK Q T a k
theorem DZ(Q:K6)(T:Sx.Tb)(a:Nat):∀k,(stI Q T a k).length<=k+1
 | 0=>by unfold stI rF;split<;>simp
 |k+1=>by
  have:=DZ Q T a k;rw[stI,iU];have:(stK Q T a k).length<=1:=by
   unfold stK;split
   . simp
   . split
     . split<;>simp
     . simp
  lia
theorem Il(K:X5 Q T)(ha:a<Q.n)(hk:k<Q.m)(x7 x8 x9:Option PV){l:List Q9}(hl:l.length<=10000):∃y7 y8 y9,
  gj [some (.dat (o8 Q T)),iD (a:Int),some (.dat (.list (rl Q.m λk=>.int (T.i0 (l5 Q) a k)))),some (.own (l.map F0)),iD (T.sg a),iD (0+(k:Int)),iD (T.am (l5 Q) k),x7,x8,x9]=some (.next [some (.dat (o8 Q T)),iD (a:Int),some (.dat (.list (rl Q.m λk=>.int (T.i0 (l5 Q) a k)))),some (.own ((l++stK Q T a k).map F0)),iD (T.sg a),iD (0+(k:Int)),iD (T.am (l5 Q) k),y7,y8,y9]):=by
 have hB:=K.bn k hk;have hp:=(K.vt a k ha hk).mono (n:=60000) (by decide)
 refine⟨iD (T.B k:Int),some (.dat (Z8 (Q.lim (T.B k)))),iD (T.sg a*T.i0 (l5 Q) a k),?_⟩;delta gj;walk_at "v";rw[jh _ hk];walk_at "v";rw[A3 _ hB];walk_at "v";rw[jh _ hk];walk_at "v";rw[p8 (Qj T a) hp];walk_at "v";delta stK;by_cases c:0<T.sg a*T.i0 (l5 Q) a k
 . simp only[c7 c];try walk_at "v"
   rw[cQ (l:=l.map F0) _ rfl (by rw[N9];lia),gQ]
   simp only[o6,N8,F0,optN,J2];rfl
 . simp only[e9 c];by_cases c2:T.sg a*T.i0 (l5 Q) a k<0
   . simp only[c7 c2];cases hlim:Q.lim (T.B k)with
     |none =>
      simp only[Z8];walk_at "v"
     |some v =>
      simp only[Z8];walk_at "v";rw[p8 ((K.lb _ v hB hlim).mono (by decide)) (K.sb.mono (by decide))]
      walk_at "v";rw[cQ (l:=l.map F0) _ rfl (by rw[N9];lia),gQ]
      simp only[o6,N8,F0,optN,J2];rfl
   . simp only[e9 c2];walk_at "v"
theorem MK(K:X5 Q T)(ha:a<Q.n):fY [o8 Q T,.int (a:Int),.list (rl Q.m λk=>.int (T.i0 (l5 Q) a k))]=some (.own ((stI Q T a Q.m).map F0)):=by
 have m1:=K.m1;obtain⟨ds',h1,x5,x6,x7,x8,x9,rfl⟩:=tP (gt:=jN 2 (U2 5 (U2 6 jO))) (G:=gj) (items:=rl Q.m λi=>.tuple [.int (0+(i:Int)),.int (T.am (l5 Q) i)]) (ds:=[some (.dat (o8 Q T)),iD (a:Int),some (.dat (.list (rl Q.m λk=>.int (T.i0 (l5 Q) a k)))),some (.own ((stI Q T a 0).map F0)),iD (T.sg a),none,none,none,none,none])
  (λi ds=>∃x5 x6 x7 x8 x9,ds=[some (.dat (o8 Q T)),iD (a:Int),some (.dat (.list (rl Q.m λk=>.int (T.i0 (l5 Q) a k)))),some (.own ((stI Q T a i).map F0)),iD (T.sg a),x5,x6,x7,x8,x9])
  ⟨none,none,none,none,none,rfl⟩ (by
   rintro i d ds hd ⟨x5,x6,x7,x8,x9,rfl⟩;obtain⟨hi,rfl⟩:=uw hd;obtain⟨y7,y8,y9,e⟩:=Il K ha hi x7 x8 x9 (l:=stI Q T a i) (by have:=DZ Q T a i;lia)
   exact⟨_,_,rfl,.inl e,_,_,_,_,_,rfl⟩)
 rw[B2]at h1;have tl:∀l0,l0=(stI Q T a 0).map F0->(i6 (i7 4 (jl (j8 (c9 j5 (A1 "Table" "full" (b9 0)) (b9 1))) (aa Q3 (fC (.int 1))) (fC (.int 1)))) (i6 (F8 (D7 kq (c5 (K4 "Table" "amounts" M8 (b9 0) c8) c8)) (jN 2 (U2 5 (U2 6 jO))) gj) (P4 3))) [some (.dat (o8 Q T)),iD (a:Int),some (.dat (.list (rl Q.m λk=>.int (T.i0 (l5 Q) a k)))),some (.own l0),none,none,none,none,none,none]=some (.ret (.own ((stI Q T a Q.m).map F0))):=by rintro l0 rfl;walk_at "v";rw[A3 _ ha];walk_at "v";rw[XC];walk_at "v";rw[lp (Q:=Q) (T:=T) (l:=[]) rfl rfl (uJ Q T) rfl,vy K];walk_at "v";rw[rZ,h1];walk_at "v"
 have own:(D1 (j8 (c9 cI (c9 j5 (A1 "Table" "limits" (b9 0)) (b9 1)) (fC .none))) (fB 3 (C2 (c5 (c9 j5 (A1 "Table" "limits" (b9 0)) (b9 1)) (c5 (fC (.int 1)) (c5 (b9 1) (c5 (fC .none) (c5 (fC (.bool false)) c8))))))) t9) [some (.dat (o8 Q T)),iD (a:Int),some (.dat (.list (rl Q.m λk=>.int (T.i0 (l5 Q) a k)))),some (.own []),none,none,none,none,none,none]=some (.next [some (.dat (o8 Q T)),iD (a:Int),some (.dat (.list (rl Q.m λk=>.int (T.i0 (l5 Q) a k)))),some (.own ((stI Q T a 0).map F0)),none,none,none,none,none,none]):=by
  walk_at "v";rw[A3 _ ha];unfold stI rF;cases Q.lim a with
  |none=>simp only[Z8];walk_at "v"
  |some v =>
   simp only[Z8];walk_at "v";rw[cQ (l:=[]) _ rfl (by simp)]
   rfl
 unfold fY D2;rw[c7 (by rfl),j7,show R8 3 (K9 c8) (L4 [o8 Q T,.int (a:Int),.list (rl Q.m λk=>.int (T.i0 (l5 Q) a k))]++v9 (10-3) none)=some (.next [some (.dat (o8 Q T)),iD (a:Int),some (.dat (.list (rl Q.m λk=>.int (T.i0 (l5 Q) a k)))),some (.own []),none,none,none,none,none,none])from rfl,j0,j7,own,j0,tl _ rfl]
 rfl
def oA(s r:Q9):Bool:=decide (s.top*r.bot<r.top*s.bot)||(decide (s.top*r.bot=r.top*s.bot)&&decide (s.ch<r.ch))
structure FJ(s:Q9):Prop where
 t:Bt 20000 s.top
 b:Bt 20000 s.bot
 p:0<s.bot
theorem Io{s:Q9}(hs:FJ s)(hr:FJ r):md [F0 s,F0 r]=some (.dat (.bool (oA s r))):=by
 delta md F0;walk_at "v";rw[p8 (hs.t.mono (by decide)) (hr.b.mono (by decide))]
 walk_at "v";rw[p8 (hr.t.mono (by decide)) (hs.b.mono (by decide))]
 walk_at "v";delta oA;by_cases c:s.top*r.bot<r.top*s.bot
 . simp[c];rfl
 . by_cases c2:s.top*r.bot=r.top*s.bot
   . simp[c,c2];rfl
   . simp[c,c2];rfl
def bI:Option Q9->c6
 |none=>.none
 |some s=>F0 s
def dD(o:Option Q9)(s:Q9):Option Q9:=match o with
 |none=>some s
 |some r=>if oA s r=true then some s else some r
theorem OS{l:List Q9}(h:∀s∈l,FJ s):ah [.list (l.map F0)]=some (.dat (bI (l.foldl dD none))):=by
 have key:∀(l:List Q9) (o:Option Q9) (L:c6) (x:Option PV),(∀s∈l,FJ s)->(∀r,o=some r->FJ r)->∃x',K7 (z9 2) Z4 (l.map F0) [some (.dat L),some (.dat (bI o)),x]=some (.next [some (.dat L),some (.dat (bI (l.foldl dD o))),x']):=by
  intro l;induction l with
  |nil=>exact λo L x _ _=>⟨x,rfl⟩
  |cons s l ih =>
   intro o L x h1 h2;have hs:=h1 s A2;have e:Z4 [some (.dat L),some (.dat (bI o)),some (.dat (F0 s))]=some (.next [some (.dat L),some (.dat (bI (dD o s))),some (.dat (F0 s))]):=by
    unfold Z4;cases o with
    |none =>
     simp only[bI];walk_at "v";rfl
    |some r =>
     have hn:gz (F0 r) .none=some (.dat (.bool false)):=rfl;simp only[bI];simp only[D1,dR,j8,c9,b9,fC,wF,P7,j4,PV.gF,hn,ua,aG,M6,g0,c5,c8,Io hs (h2 r rfl)];unfold dD;cases c:oA s r
     . simp only[c,aG,M6];rfl
     . simp only[c,A9];rfl
   rw[o6,O7 (ds1:=[some (.dat L),some (.dat (bI o)),some (.dat (F0 s))]) rfl e,vU];refine ih _ L _ (λy hy=>h1 y (C4 _ hy)) λr hr=>?_
   unfold dD at hr;split at hr
   . cases hr;exact hs
   . split at hr
     . cases hr;exact hs
     . cases hr;exact h2 _ rfl
 obtain⟨x',e⟩:=key l none (.list (l.map F0)) none h (λr z=>by cases z)
 unfold ah;walk_at "v";have e':K7 (z9 2) Z4 (l.map F0) [some (.dat (.list (l.map F0))),some (.dat .none),none]=some (.next [some (.dat (.list (l.map F0))),some (.dat (bI (l.foldl dD none))),x']):=e;rw[e'];walk_at "v"
def le(r s:Q9):Prop:=r.top*s.bot<s.top*r.bot\/(r.top*s.bot=s.top*r.bot/\r.ch<=s.ch)
theorem JI{s:Q9}(h:oA s r=false):le r s:=by
 delta oA at h;rw[LK,Bool.and_eq_false_iff]at h;obtain⟨h1,h2⟩:=h;have h1:=of_decide_eq_false h1;delta le;by_cases c:s.top*r.bot=r.top*s.bot
 . rcases h2 with h2|h2
   . exact absurd c (of_decide_eq_false h2)
   . have:=of_decide_eq_false h2;exact .inr ⟨c.symm,by lia⟩
 . left;lia
theorem GZ{s:Q9}(h:oA s r=true):le s r:=by
 delta oA at h;rw[Ld,iT]at h;rcases h with h|⟨h1,h2⟩
 . exact .inl (qY h)
 . have:=qY h1;have:=qY h2;exact .inr ⟨by assumption,by lia⟩
theorem le_trans{s:Q9}(hr:0<r.bot)(hs:0<s.bot)(ht:0<t.bot)(h1:le r s)(h2:le s t):le r t:=by
 have a1:r.top*s.bot<=s.top*r.bot:=by delta le at h1;omega
 have a2:s.top*t.bot<=t.top*s.bot:=by delta le at h2;omega
 have b1:=iX a1 (T3 ht);have b2:=iX a2 (T3 hr);have e1:s.top*r.bot*t.bot=s.top*t.bot*r.bot:=by grind
 have e2:s.bot*(r.top*t.bot)=r.top*s.bot*t.bot:=by grind
 have e3:s.bot*(t.top*r.bot)=t.top*s.bot*r.bot:=by grind
 have c1:s.bot*(r.top*t.bot)<=s.bot*(t.top*r.bot):=by omega
 have c2:=wH c1 hs;delta le;by_cases c:r.top*t.bot=t.top*r.bot
 . right;refine⟨c,?_⟩;have d1:r.top*s.bot*t.bot=s.top*r.bot*t.bot:=by rw[c]at e2;omega
   have d2:s.top*t.bot*r.bot=t.top*s.bot*r.bot:=by rw[c]at e2;omega
   have f1:r.top*s.bot=s.top*r.bot:=rq (by omega) d1
   have f2:s.top*t.bot=t.top*s.bot:=rq (by omega) d2
   delta le at h1 h2;omega
 . left;omega
theorem yE:∀(l:List Q9) (o:Option Q9),(∀s∈l,0<s.bot)->(∀r,o=some r->0<r.bot)->(l.foldl dD o=none->o=none/\l=[])/\∀r,l.foldl dD o=some r->(o=some r\/r∈l)/\(∀s,o=some s->le r s)/\∀s∈l,le r s
 | [],o,_,_=>⟨λh=>⟨h,rfl⟩,λr h=>⟨.inl h,λs hs=>by have h':o=some r:=h;rw[h']at hs;cases hs;exact .inr ⟨rfl,o3 _⟩,λs hs=>absurd hs (by simp)⟩⟩
 |x::l,o,h1,h2=>by
  have hx:=h1 x A2;have hb:∃y,dD o x=some y/\0<y.bot/\(o=some y\/y=x)/\le y x/\∀s,o=some s->le y s:=by
   delta dD;cases o with
   |none=>exact⟨x,rfl,hx,.inr rfl,.inr ⟨rfl,o3 _⟩,λs z=>by cases z⟩
   |some r =>
    cases c:oA x r with
    |true=>exact⟨x,by simp[c],hx,.inr rfl,.inr ⟨rfl,o3 _⟩,λs z=>by cases z;exact GZ c⟩
    |false=>exact⟨r,by simp[c],h2 r rfl,.inl rfl,JI c,λs z=>by cases z;exact .inr ⟨rfl,o3 _⟩⟩
  obtain⟨y,e,hy,h3,h4,h5⟩:=hb;rw[vU,e];obtain⟨i1,i2⟩:=yE l (some y) (λs hs=>h1 s (C4 _ hs)) λr z=>by cases z;exact hy
  refine⟨λh=>(by have:=(i1 h).1;cases this),λr hr=>?_⟩
  obtain⟨j1,j2,j3⟩:=i2 r hr;have hrb:0<r.bot:=by
   rcases j1 with j1|j1
   . cases j1;exact hy
   . exact h1 r (C4 _ j1)
  have ly:=j2 y rfl;refine⟨?_,λs hs=>le_trans hrb hy (h2 s hs) ly (h5 s hs),λs hs=>?_⟩
  . rcases j1 with j1|j1
    . cases j1;rcases h3 with h3|h3
      . exact .inl h3
      . rw[h3];exact .inr A2
    . exact .inr (C4 _ j1)
  . rcases List.mem_cons.mp hs with rfl|hs
    . exact le_trans hrb hy hx ly h4
    . exact j3 s hs
end
end
section
variable{a p t:Nat}{w:Option Addr}{ds:Ds}{v:Int}
section
variable{Q:K6}{T:Sx.Tb}
theorem kJ{n:Nat}(h:a<n):fT n (a:Int)=some a:=by
 delta fT;first
 |(rw[c7 (by lia)];first|rfl|simp;lia)
 |(simp;lia)
theorem rN{f:Str}{i:Nat}{Fk Fv:Ds->Option PV}{pv:PV}{l:List c6}(h:ds[i]? = some (some (.ob w (n8 Q T))))(hl:q5 f (B8 Q T)=some (.own l))(hv:Fv ds=some pv)(hk:Fk ds=some (.dat (.int (a:Int))))(ha:a<l.length):
  aW "Table" i f Fk Fv ds=some (.next (ds.set i (some (.ob w (.ins "Table" (F7 f (.own (l.set a pv.d)) (B8 Q T))))))):=by delta aW dS;rw[hv,j4,hk,j4,h];simp only[A9,j4,hl,qh,PV.gF,kJ ha]
theorem Jc{i:Nat}{Fk Fv:Ds->Option PV}{pv:PV}{b:Bool}(h:ds[i]? = some (some (.ob w (n8 Q T))))(hv:Fv ds=some pv)(hd:pv.d=.bool b)(hk:Fk ds=some (.dat (.int (a:Int))))(ha:a<Q.n):
  aW "Table" i "full" Fk Fv ds=some (.next (ds.set i (some (.ob w (n8 Q {T with full:=λj=>if j=a then b else T.full j}))))):=by
 rw[rN h (xm Q T) hv hk (by rw[B2];exact ha),gw,hd]
 have e:(rl Q.n λk=>if k=a then PyData.bool b else .bool (T.full k))=rl Q.n λj=>.bool (if j=a then b else T.full j):=X0 λk _=>by split<;>rfl
 rw[e,RW]
theorem Di{i:Nat}{Fk Fv:Ds->Option PV}{pv:PV}{x:Int}(h:ds[i]? = some (some (.ob w (n8 Q T))))(hv:Fv ds=some pv)(hd:pv.d=.int x)(hk:Fk ds=some (.dat (.int (p:Int))))(hp:p<Q.m):
  aW "Table" i "rights" Fk Fv ds=some (.next (ds.set i (some (.ob w (n8 Q {T with rt:=λj=>if j=p then x else T.rt j}))))):=by
 rw[rN h (qo Q T) hv hk (by rw[B2];exact hp),gw,hd]
 have e:(rl Q.m λk=>if k=p then ao x else .int (T.rt k))=rl Q.m λj=>.int (if j=p then x else T.rt j):=X0 λk _=>by split<;>rfl
 rw[e,IE]
theorem Dk{i:Nat}{Fk Fv:Ds->Option PV}{pv:PV}{x:Nat}(h:ds[i]? = some (some (.ob w (n8 Q T))))(hv:Fv ds=some pv)(hd:pv.d=.int (x:Int))(hk:Fk ds=some (.dat (.int (p:Int))))(hp:p<Q.m):
  aW "Table" i "chosen" Fk Fv ds=some (.next (ds.set i (some (.ob w (n8 Q {T with B:=λj=>if j=p then x else T.B j}))))):=by
 rw[rN h (qr Q T) hv hk (by rw[B2];exact hp),gw,hd]
 have e:(rl Q.m λk=>if k=p then ao (x:Int)else .int (T.B k:Int))=rl Q.m λj=>.int ((if j=p then x else T.B j:Nat):Int):=X0 λk _=>by split<;>rfl
 rw[e,IG]
theorem Dj{i:Nat}{Fk Fv:Ds->Option PV}{pv:PV}{x:Nat->Int}(h:ds[i]? = some (some (.ob w (n8 Q T))))(hv:Fv ds=some pv)(hd:pv.d=il Q.m x)(hk:Fk ds=some (.dat (.int (t:Int))))(ht:t<3):
  aW "Table" i "prices" Fk Fv ds=some (.next (ds.set i (some (.ob w (n8 Q {T with pr:=λj=>if j=t then x else T.pr j}))))):=by
 rw[rN h (qp Q T) hv hk (by rw[B2];exact ht),gw,hd]
 have e:(rl 3 λk=>if k=t then il Q.m x else il Q.m (T.pr k))=rl 3 λj=>il Q.m (if j=t then x else T.pr j):=X0 λk _=>by split<;>rfl
 rw[e,IF]
def iQ(Q:K6)(T:Sx.Tb)(a:Nat)(by':Int):Sx.Tb:={T with full:=λj=>if j=a then !T.full a else T.full j,rt:=λp=>T.rt p+by'*D9 (Q.col a) p}
theorem yC{w:Option Addr}{a by':Int}(hb:Bt 60000 by'):∀(c:List (Nat×Int)) (T:Sx.Tb) (x3 x4:Option PV),(∀e∈c,e.1<Q.m/\Bt 60000 e.2) ->
  ∃y3 y4,K7 (jN 2 (U2 3 (U2 4 jO))) bC (c.map λe=>.tuple [.int (e.1:Int),.int e.2]) [some (.ob w (n8 Q T)),iD a,iD by',x3,x4]=some (.next [some (.ob w (n8 Q {T with rt:=λp=>T.rt p+by'*D9 c p})),iD a,iD by',y3,y4])
 | [],T,x3,x4,_=>⟨x3,x4,by
   have:({T with rt:=λp=>T.rt p+by'*D9 [] p}:Sx.Tb)=T:=by
    have:(λp=>T.rt p+by'*D9 [] p)=T.rt:=by funext p;rw[D9,J6,lJ]
    rw[this]
   rw[this];rfl⟩
 |e::c,T,x3,x4,h=>by
  obtain⟨h1,h2⟩:=h e A2;have eB:bC [some (.ob w (n8 Q T)),iD a,iD by',iD (e.1:Int),iD e.2]=some (.next [some (.ob w (n8 Q {T with rt:=λj=>if j=e.1 then T.rt e.1+by'*e.2 else T.rt j})),iD a,iD by',iD (e.1:Int),iD e.2]):=by
   delta bC;rw[Di (Q:=Q) (T:=T) (w:=w) (p:=e.1) (x:=T.rt e.1+by'*e.2) (pv:=.dat (.int (T.rt e.1+by'*e.2))) rfl ?_ rfl rfl h1]
   . rfl
   . walk_at "v";rw[A3 _ h1];walk_at "v";rw[p8 hb h2];walk_at "v"
  obtain⟨y3,y4,ih⟩:=yC (w:=w) (a:=a) hb c {T with rt:=λj=>if j=e.1 then T.rt e.1+by'*e.2 else T.rt j} (iD (e.1:Int)) (iD e.2) λx hx=>h x (C4 _ hx)
  refine⟨y3,y4,?_⟩;rw[o6,O7 (ds1:=[some (.ob w (n8 Q T)),iD a,iD by',iD (e.1:Int),iD e.2]) rfl eB,ih];have:(λp=>(if p=e.1 then T.rt e.1+by'*e.2 else T.rt p)+by'*D9 c p)=λp=>T.rt p+by'*D9 (e::c) p:=by
   funext p
   rw[D9];by_cases z:e.1=p
   . rw[c7 z.symm,c7 z,z,eO,Int.add_assoc]
   . rw[e9 λy=>z y.symm,e9 z,J2]
  simp only[this]
theorem Fj(ha:a<Q.n)(hv:Q.lim a=some v)(hb:Bt 60000 v)(cb:∀e∈Q.col a,e.1<Q.m/\Bt 7000 e.2):G8 [.ob none (n8 Q T),.dat (.int (a:Int))]=some (.dat .none,[some (.ob none (n8 Q (iQ Q T a (-(T.sg a*v))))),none]):=by
 refine lj rfl λt=>?_
 have hby:Bt 60000 (-(T.sg a*v)):=by
  delta Sx.Tb.sg;split
  . exact hb.of_le (by lia)
  . exact hb.of_le (by lia)
 rw[show((aL t 0 [PV.ob none (n8 Q T),.dat (.int (a:Int))]).map some++v9 (5-2) none:Ds)=[some (.ob (some (t 0)) (n8 Q T)),iD (a:Int),none,none,none]from rfl]
 have s1:i7 2 (jl (j8 (gC "Table" 0 "full" (b9 1))) (c9 j5 (F6 "Table" 0 "limits") (b9 1)) (aa Q3 (c9 j5 (F6 "Table" 0 "limits") (b9 1)))) [some (.ob (some (t 0)) (n8 Q T)),iD (a:Int),none,none,none]=some (.next [some (.ob (some (t 0)) (n8 Q T)),iD (a:Int),iD (-(T.sg a*v)),none,none]):=by
  walk_at "v";rw[A3 _ ha];walk_at "v";rw[A3 _ ha,hv];simp only[Z8];walk_at "v";delta Sx.Tb.sg;cases T.full a
  . simp only[aG,M6,dG];rfl
  . simp only[A9,lH,dG,Int.neg_neg];rfl
 have s2:aW "Table" 0 "full" (b9 1) (qA (gC "Table" 0 "full" (b9 1))) [some (.ob (some (t 0)) (n8 Q T)),iD (a:Int),iD (-(T.sg a*v)),none,none]=some (.next [some (.ob (some (t 0)) (n8 Q {T with full:=λj=>if j=a then !T.full a else T.full j})),iD (a:Int),iD (-(T.sg a*v)),none,none]):=by
  rw[Jc (Q:=Q) (T:=T) (w:=some (t 0)) (a:=a) (b:=!T.full a) (pv:=.dat (.bool (!T.full a))) rfl ?_ rfl rfl ha]
  . rfl
  . walk_at "v";rw[A3 _ ha];walk_at "v"
 obtain⟨y3,y4,h3⟩:=yC (Q:=Q) (w:=some (t 0)) (a:=(a:Int)) hby (Q.col a) {T with full:=λj=>if j=a then !T.full a else T.full j} none none λe he=>⟨(cb e he).1,((cb e he).2).mono (by decide)⟩
 rw[j7,s1,j0,j7,s2,j0];walk_at "v";rw[A3 _ ha];walk_at "v";rw[h3];simp only[j4,jP,J5,A9];rfl
theorem Fm(K:X5 Q T)(ha:a<Q.n)(hv:Q.lim a=some v):G8 [.ob none (n8 Q T),.dat (.int (a:Int))]=some (.dat .none,[some (.ob none (n8 Q (iQ Q T a (-(T.sg a*v))))),none]) :=
 Fj ha hv ((K.lb a v ha hv).mono (by decide)) (K.cb a ha)
end
end
section
variable{w:Option Addr}{c':OD}{ds r:Ds}{xs:List c6}{a t:Nat}{g:Int}
section
variable{Q:K6}{T:Sx.Tb}
theorem KP(ds:Ds):∀xs:List c6,mU ds (xs.map AV.d)=some (xs.map .dat)
 | []=>rfl
 |x::xs=>by rw[o6,mU,KP ds xs];rfl
theorem Ek:∀(xs:List c6) (r ds:Ds),bH (xs.map AV.d) r ds=ds
 | [],r,ds=>by simp[bH]
 |x::xs,[],ds=>by simp[bH]
 |x::xs,y::r,ds=>by rw[o6,bH,Ek xs]
theorem ya:∀xs:List c6,N3 (xs.map AV.d)=[]
 | []=>rfl
 |x::xs=>by rw[o6,N3,ya xs]
theorem tZ{i:Nat}{c:OD}{f:List PV->Option (PV×Ds)}{Fl:Ds->Option (List AV)}{pv:PV}(h:ds[i]? = some (some (.ob w c)))(hl:Fl ds=some (.s i::xs.map AV.d))(hf:f (.ob none c::xs.map .dat)=some (pv,some (.ob none c')::r)):
  gD f Fl ds=some (pv,ds.set i (some (.ob w c'))):=by
 delta gD;rw[hl,j4];rw[c7 (by rw[N3,ya];simp),mU]
 simp only[h,KP,j4,hf];rw[bH,h,Ek];rfl
theorem oI{m:Str}{i:Nat}{f:List PV->Option (PV×Ds)}{Fl:Ds->Option (List AV)}{pv:PV}(h:ds[i]? = some (some (.ob w (n8 Q T))))(hm:q5 m (B8 Q T)=none)(hl:Fl ds=some (xs.map AV.d))(hf:f (.ob none (n8 Q T)::xs.map .dat)=some (pv,some (.ob none c')::r)):
  G5 "Table" m i f Fl ds=some (pv,ds.set i (some (.ob w c'))):=by delta G5 dS;rw[h];simp only[A9,j4,hm];refine tZ (xs:=xs) h ?_ hf;delta eY;rw[h];simp only[hl,j4]
def sE(Q:K6)(T:Sx.Tb)(a l:Nat)(g:Int)(t q:Nat):Int:=(T.pr t q*(g*T.i0 (l5 Q) a l)-(-g*T.rest (l5 Q) t a)*T.inv l q).fdiv T.size
def bg(Q:K6)(T:Sx.Tb)(a l:Nat)(g:Int)(k q:Nat):Int:=if k=l then g*T.inv l q else(T.inv k q*(g*T.i0 (l5 Q) a l)-(g*T.i0 (l5 Q) a k)*T.inv l q).fdiv T.size
def L7(Q:K6)(T:Sx.Tb)(a:Nat):Sx.Tb:=if T.full a=true then iQ Q T a (-(T.sg a*(Q.lim a).getD 0))else T
def P2(Q:K6)(T:Sx.Tb)(a l:Nat)(g:Int):Sx.Tb:=⟨λk=>if k=l then a else T.B k,(L7 Q T a).full,g*T.i0 (l5 Q) a l,bg Q T a l g,λt=>if t<3 then sE Q T a l g t else T.pr t,(L7 Q T a).rt⟩
theorem sD:(L7 Q T a).B=T.B/\(L7 Q T a).size=T.size/\(L7 Q T a).inv=T.inv/\(L7 Q T a).pr=T.pr:=by delta L7;split<;>exact⟨rfl,rfl,rfl,rfl⟩
def Q0(Q:K6)(T:Sx.Tb)(a l:Nat)(g:Int)(i:Nat):Sx.Tb:=⟨T.B,(L7 Q T a).full,T.size,T.inv,λt=>if t<i then sE Q T a l g t else T.pr t,(L7 Q T a).rt⟩
theorem Yg(a l:Nat)(g:Int):Q0 Q T a l g 0=L7 Q T a:=by
 delta Q0;have:(λt=>if t<0 then sE Q T a l g t else T.pr t)=T.pr:=by funext t;simp
 rw[this];obtain⟨h1,h2,h3,h4⟩:=sD (Q:=Q) (T:=T) (a:=a);cases hu:L7 Q T a;rw[hu]at h1 h2 h3 h4;simp only at h1 h2 h3 h4;rw[<-h1,<-h2,<-h3,<-h4]
theorem sZ(K:X5 Q T){l:Nat}(ha:a<Q.n)(hl:l<Q.m)(ht:t<3)(hg:g=1\/g = -1)(w:Option Addr)(x8:Option PV):
  ∃y8,bB [some (.ob w (n8 Q (Q0 Q T a l g t))),iD (a:Int),iD (l:Int),some (.dat (.list (rl Q.m λk=>.int (T.i0 (l5 Q) a k)))),iD g,iD (g*T.i0 (l5 Q) a l),some (.dat (il Q.m (T.inv l))),iD (t:Int),x8,none]=some (.next [some (.ob w (n8 Q (Q0 Q T a l g (t+1)))),iD (a:Int),iD (l:Int),some (.dat (.list (rl Q.m λk=>.int (T.i0 (l5 Q) a k)))),iD g,iD (g*T.i0 (l5 Q) a l),some (.dat (il Q.m (T.inv l))),iD (t:Int),y8,none]):=by
 have gb:Bt 10 g:=by rcases hg with h|h<;>rw[h]<;>exact⟨by decide⟩
 have ept:(Q0 Q T a l g t).pr t=T.pr t:=by show(if t<t then _ else T.pr t)=T.pr t;rw[e9 (by lia)]
 have er:(Q0 Q T a l g t).rest (l5 Q) t a=T.rest (l5 Q) t a:=by delta Sx.Tb.rest;rw[ept];rfl
 have rb:=K.XD t a ht ha;have e1:=Ei (Q:=Q) (T:=Q0 Q T a l g t) ht ha (K.cl a ha) (K.cb a ha) (K.wb t a ht ha) K.sb (λq hq=>by rw[ept];exact K.pb t q ht hq)
 rw[er]at e1;obtain⟨r,e2,e3⟩:=xS (m:=Q.m) (f:=T.pr t) (g:=T.inv l) (fa:=-g*T.rest (l5 Q) t a) (pv:=g*T.i0 (l5 Q) a l) (sz:=T.size) K.m1 (λi hi=>(K.pb t i ht hi).mono (by decide)) (λi hi=>(K.ib l i hl hi).mono (by decide)) ((gb.neg.mul rb).mono (by decide)) ((gb.mul (K.vt a l ha hl)).mono (by decide)) (K.sb.mono (by decide)) K.sp
 refine⟨iD (-g*T.rest (l5 Q) t a),?_⟩;delta bB;have s1:i7 8 (c9 B4 (aa Q3 (b9 4)) (T9 (K4 "Table" "rest" N5 (K8 0) (c5 (b9 7) (c5 (b9 1) c8))))) [some (.ob w (n8 Q (Q0 Q T a l g t))),iD (a:Int),iD (l:Int),some (.dat (.list (rl Q.m λk=>.int (T.i0 (l5 Q) a k)))),iD g,iD (g*T.i0 (l5 Q) a l),some (.dat (il Q.m (T.inv l))),iD (t:Int),x8,none]=some (.next [some (.ob w (n8 Q (Q0 Q T a l g t))),iD (a:Int),iD (l:Int),some (.dat (.list (rl Q.m λk=>.int (T.i0 (l5 Q) a k)))),iD g,iD (g*T.i0 (l5 Q) a l),some (.dat (il Q.m (T.inv l))),iD (t:Int),iD (-g*T.rest (l5 Q) t a),none]):=by
  walk_at "v";rw[lp (Q:=Q) (T:=Q0 Q T a l g t) (l:=[.int (t:Int),.int (a:Int)]) rfl rfl (EA Q _) rfl,e1];walk_at "v";simp only[LF,A9,j4,PV.gF];rw[p8 (gb.neg.mono (by decide)) (show Bt 60000 (T.rest (l5 Q) t a)from rb.mono (by decide))]
  rfl
 rw[j7,s1,j0];rw[Dj (Q:=Q) (T:=Q0 Q T a l g t) (w:=w) (t:=t) (x:=sE Q T a l g t) (pv:=r) rfl ?_ e3 rfl ht]
 . have:({Q0 Q T a l g t with pr:=λj=>if j=t then sE Q T a l g t else(Q0 Q T a l g t).pr j}:Sx.Tb)=Q0 Q T a l g (t+1):=by
     delta Q0;have:(λj=>if j=t then sE Q T a l g t else if j<t then sE Q T a l g j else T.pr j)=λj=>if j<t+1 then sE Q T a l g j else T.pr j:=by
      funext j
      by_cases c:j=t
      . rw[c7 c,c7 (by lia),c]
      . rw[e9 c];by_cases c2:j<t
        . rw[c7 c2,c7 (by lia)]
        . rw[e9 c2,e9 (by lia)]
     simp only[this]
   rw[this];rfl
 . walk_at "v";rw[A3 _ ht];walk_at "v";rw[ept];exact e2
theorem Rn(K:X5 Q T){l:Nat}(ha:a<Q.n)(hl:l<Q.m)(hf:T.full a=true->Q.lim a≠none)(hg:g=if 0<T.i0 (l5 Q) a l then 1 else -1):
  bu [.ob none (n8 Q T),.dat (.int (a:Int)),.dat (.int (l:Int)),.dat (.list (rl Q.m λk=>.int (T.i0 (l5 Q) a k)))]=some (.dat .none,[some (.ob none (n8 Q (P2 Q T a l g))),none,none,none]):=by
 refine lj rfl λt=>?_
 have hg':g=1\/g = -1:=by rw[hg];split<;>simp
 have gb:Bt 10 g:=by rcases hg' with h|h<;>rw[h]<;>exact⟨by decide⟩
 generalize hw:(some (t 0):Option Addr)=w;generalize hP:(nP (rl Q.m λk=>.int (T.i0 (l5 Q) a k)))=PC
 rw[show((aL t 0 [PV.ob none (n8 Q T),.dat (.int (a:Int)),.dat (.int (l:Int)),.dat PC]).map some++v9 (10-4) none:Ds)=[some (.ob (some (t 0)) (n8 Q T)),iD (a:Int),iD (l:Int),some (.dat PC),none,none,none,none,none,none]from rfl,hw]
 have s1:D1 (j8 (gC "Table" 0 "full" (b9 1))) (J1 (G5 "Table" "flip" 0 G8 (G9 (b9 1) cz))) t9 [some (.ob w (n8 Q T)),iD (a:Int),iD (l:Int),some (.dat PC),none,none,none,none,none,none]=some (.next [some (.ob w (n8 Q (L7 Q T a))),iD (a:Int),iD (l:Int),some (.dat PC),none,none,none,none,none,none]):=by
  have eb:j8 (gC "Table" 0 "full" (b9 1)) [some (.ob w (n8 Q T)),iD (a:Int),iD (l:Int),some (.dat PC),none,none,none,none,none,none]=some (T.full a):=by walk_at "v";rw[A3 _ ha];walk_at "v"
  delta D1 L7;rw[eb,j4];by_cases c:T.full a=true
  . rw[c7 c,c7 c];obtain⟨v,hv⟩:=Option.ne_none_iff_exists'.mp (hf c);rw[hv];delta J1;rw[oI (Q:=Q) (T:=T) (w:=w) (xs:=[.int (a:Int)]) rfl (tJ Q T) rfl (Fm K ha hv)];rfl
  . rw[e9 c,e9 c];rfl
 have s2:i7 4 (jl (j8 (c9 mF (c9 j5 (b9 3) (b9 2)) (fC (.int 0)))) (fC (.int 1)) (aa Q3 (fC (.int 1)))) [some (.ob w (n8 Q (L7 Q T a))),iD (a:Int),iD (l:Int),some (.dat PC),none,none,none,none,none,none]=some (.next [some (.ob w (n8 Q (L7 Q T a))),iD (a:Int),iD (l:Int),some (.dat PC),iD g,none,none,none,none,none]):=by subst hP;walk_at "v";rw[A3 _ hl];walk_at "v";rw[hg];split<;>rfl
 have s3:i7 5 (c9 B4 (b9 4) (c9 j5 (b9 3) (b9 2))) [some (.ob w (n8 Q (L7 Q T a))),iD (a:Int),iD (l:Int),some (.dat PC),iD g,none,none,none,none,none]=some (.next [some (.ob w (n8 Q (L7 Q T a))),iD (a:Int),iD (l:Int),some (.dat PC),iD g,iD (g*T.i0 (l5 Q) a l),none,none,none,none]):=by
  subst hP;walk_at "v";rw[A3 _ hl];walk_at "v";rw[p8 (gb.mono (by decide)) ((K.vt a l ha hl).mono (by decide))]
  rfl
 have s4:i7 6 (c9 j5 (F6 "Table" 0 "inverse") (b9 2)) [some (.ob w (n8 Q (L7 Q T a))),iD (a:Int),iD (l:Int),some (.dat PC),iD g,iD (g*T.i0 (l5 Q) a l),none,none,none,none]=some (.next [some (.ob w (n8 Q (Q0 Q T a l g 0))),iD (a:Int),iD (l:Int),some (.dat PC),iD g,iD (g*T.i0 (l5 Q) a l),some (.dat (il Q.m (T.inv l))),none,none,none]):=by rw[Yg];walk_at "v";rw[A3 _ hl,(sD (Q:=Q) (T:=T) (a:=a)).2.2.1];rfl
 have s5:∃x7 x8,F8 (L8 (fC dz)) (z9 7) bB [some (.ob w (n8 Q (Q0 Q T a l g 0))),iD (a:Int),iD (l:Int),some (.dat PC),iD g,iD (g*T.i0 (l5 Q) a l),some (.dat (il Q.m (T.inv l))),none,none,none]=some (.next [some (.ob w (n8 Q (Q0 Q T a l g 3))),iD (a:Int),iD (l:Int),some (.dat PC),iD g,iD (g*T.i0 (l5 Q) a l),some (.dat (il Q.m (T.inv l))),x7,x8,none]):=by
  subst hP;obtain⟨y0,e0⟩:=sZ K ha hl (t:=0) (by decide) hg' w none
  obtain⟨y1,e1⟩:=sZ K ha hl (t:=1) (by decide) hg' w y0
  obtain⟨y2,e2⟩:=sZ K ha hl (t:=2) (by decide) hg' w y1
  refine⟨iD 2,y2,?_⟩;walk_at "v";rw[O7 rfl e0,O7 rfl e1,O7 rfl e2];rfl
 obtain⟨x7,x8,s5⟩:=s5;have s6:R8 9 (m9 (D7 cD (c5 (F6 "Table" 0 "inverse") (c5 (b9 3) c8))) (N7 2) m6 dO) [some (.ob w (n8 Q (Q0 Q T a l g 3))),iD (a:Int),iD (l:Int),some (.dat PC),iD g,iD (g*T.i0 (l5 Q) a l),some (.dat (il Q.m (T.inv l))),x7,x8,none]=some (.next [some (.ob w (n8 Q (Q0 Q T a l g 3))),iD (a:Int),iD (l:Int),some (.dat PC),iD g,iD (g*T.i0 (l5 Q) a l),some (.dat (il Q.m (T.inv l))),x7,x8,some (.own (rl Q.m λk=>il Q.m λq=>(T.inv k q*(g*T.i0 (l5 Q) a l)-(g*T.i0 (l5 Q) a k)*T.inv l q).fdiv T.size))]):=by
  subst hP;walk_at "v";rw[show(Q0 Q T a l g 3).inv=T.inv from rfl,jd]
  walk_at "v";rw[c7 (R7 K.m1),B7 (g:=λk=>il Q.m λq=>(T.inv k q*(g*T.i0 (l5 Q) a l)-(g*T.i0 (l5 Q) a k)*T.inv l q).fdiv T.size) λk hk=>?_]
  . rfl
  . obtain⟨r,e2,e3⟩:=xS (m:=Q.m) (f:=T.inv k) (g:=T.inv l) (fa:=g*T.i0 (l5 Q) a k) (pv:=g*T.i0 (l5 Q) a l) (sz:=T.size) K.m1 (λi hi=>(K.ib k i hk hi).mono (by decide)) (λi hi=>(K.ib l i hl hi).mono (by decide)) ((gb.mul (K.vt a k ha hk)).mono (by decide)) ((gb.mul (K.vt a l ha hl)).mono (by decide)) (K.sb.mono (by decide)) K.sp
    refine⟨_,r,rfl,?_,e3⟩;delta dO;walk_at "v";rw[p8 (gb.mono (by decide)) ((K.vt a k ha hk).mono (by decide))]
    walk_at "v";exact e2
 have s7:S6 9 (b9 2) (m9 (L8 (b9 6)) m7 m6 bx) [some (.ob w (n8 Q (Q0 Q T a l g 3))),iD (a:Int),iD (l:Int),some (.dat PC),iD g,iD (g*T.i0 (l5 Q) a l),some (.dat (il Q.m (T.inv l))),x7,x8,some (.own (rl Q.m λk=>il Q.m λq=>(T.inv k q*(g*T.i0 (l5 Q) a l)-(g*T.i0 (l5 Q) a k)*T.inv l q).fdiv T.size))]=some (.next [some (.ob w (n8 Q (Q0 Q T a l g 3))),iD (a:Int),iD (l:Int),some (.dat PC),iD g,iD (g*T.i0 (l5 Q) a l),some (.dat (il Q.m (T.inv l))),x7,x8,some (.own (rl Q.m λk=>il Q.m (bg Q T a l g k)))]):=by
  have ev:m9 (L8 (b9 6)) m7 m6 bx [some (.ob w (n8 Q (Q0 Q T a l g 3))),iD (a:Int),iD (l:Int),some (.dat PC),iD g,iD (g*T.i0 (l5 Q) a l),some (.dat (il Q.m (T.inv l))),x7,x8,some (.own (rl Q.m λk=>il Q.m λq=>(T.inv k q*(g*T.i0 (l5 Q) a l)-(g*T.i0 (l5 Q) a k)*T.inv l q).fdiv T.size))]=some (.own (rl Q.m λq=>.int (g*T.inv l q))):=by
   walk_at "v";rw[c7 (R7 K.m1),B7 (g:=λq=>.int (g*T.inv l q)) λq hq=>⟨_,_,rfl,by delta bx;walk_at "v";rw[p8 (gb.mono (by decide)) ((K.ib l q hl hq).mono (by decide))],rfl⟩]
   rfl
  delta S6;rw[ev,j4];show(fT (rl Q.m _).length (l:Int)).bind _=_
  rw[B2,kJ hl,j4,gw];have:(rl Q.m λk=>if k=l then PV.d (.own (rl Q.m λq=>.int (g*T.inv l q)))else il Q.m λq=>(T.inv k q*(g*T.i0 (l5 Q) a l)-(g*T.i0 (l5 Q) a k)*T.inv l q).fdiv T.size)=rl Q.m λk=>il Q.m (bg Q T a l g k):=X0 λk _=>by
   by_cases c:k=l
   . rw[c7 c];show il Q.m _=_
     congr 2
     funext q
     delta bg;rw[c7 c]
   . rw[e9 c]
     congr 2
     funext q
     delta bg;rw[e9 c]
  rw[this];rfl
 have s8:iO 9 (S7 "Table" 0 "inverse" gE (b9 9)) [some (.ob w (n8 Q (Q0 Q T a l g 3))),iD (a:Int),iD (l:Int),some (.dat PC),iD g,iD (g*T.i0 (l5 Q) a l),some (.dat (il Q.m (T.inv l))),x7,x8,some (.own (rl Q.m λk=>il Q.m (bg Q T a l g k)))]=some (.next [some (.ob w (n8 Q {Q0 Q T a l g 3 with inv:=bg Q T a l g})),iD (a:Int),iD (l:Int),some (.dat PC),iD g,iD (g*T.i0 (l5 Q) a l),some (.dat (il Q.m (T.inv l))),x7,x8,some (.dat (.list (rl Q.m λk=>il Q.m (bg Q T a l g k))))]):=by walk_at "v";rw[c7 (by delta B8;simp),Gm]
 have s9:S7 "Table" 0 "size" gE (b9 5) [some (.ob w (n8 Q {Q0 Q T a l g 3 with inv:=bg Q T a l g})),iD (a:Int),iD (l:Int),some (.dat PC),iD g,iD (g*T.i0 (l5 Q) a l),some (.dat (il Q.m (T.inv l))),x7,x8,some (.dat (.list (rl Q.m λk=>il Q.m (bg Q T a l g k))))]=some (.next [some (.ob w (n8 Q {Q0 Q T a l g 3 with inv:=bg Q T a l g,size:=g*T.i0 (l5 Q) a l})),iD (a:Int),iD (l:Int),some (.dat PC),iD g,iD (g*T.i0 (l5 Q) a l),some (.dat (il Q.m (T.inv l))),x7,x8,some (.dat (.list (rl Q.m λk=>il Q.m (bg Q T a l g k))))]):=by walk_at "v";rw[c7 (by delta B8;simp),RV]
 have s10:aW "Table" 0 "chosen" (b9 2) (b9 1) [some (.ob w (n8 Q {Q0 Q T a l g 3 with inv:=bg Q T a l g,size:=g*T.i0 (l5 Q) a l})),iD (a:Int),iD (l:Int),some (.dat PC),iD g,iD (g*T.i0 (l5 Q) a l),some (.dat (il Q.m (T.inv l))),x7,x8,some (.dat (.list (rl Q.m λk=>il Q.m (bg Q T a l g k))))]=some (.next [some (.ob w (n8 Q (P2 Q T a l g))),iD (a:Int),iD (l:Int),some (.dat PC),iD g,iD (g*T.i0 (l5 Q) a l),some (.dat (il Q.m (T.inv l))),x7,x8,some (.dat (.list (rl Q.m λk=>il Q.m (bg Q T a l g k))))]):=by
  rw[Dk (Q:=Q) (T:={Q0 Q T a l g 3 with inv:=bg Q T a l g,size:=g*T.i0 (l5 Q) a l}) (w:=w) (p:=l) (x:=a) (pv:=.dat (.int (a:Int))) rfl rfl rfl rfl hl]
  rfl
 rw[j7,s1,j0,j7,s2,j0,j7,s3,j0,j7,s4,j0,j7,s5,j0,j7,s6,j0,j7,s7,j0,j7,s8,j0,j7,s9,j0,s10];subst hw;simp only[j4,jP,J5,A9]
end
end
section
variable{a p:Nat}{v g:Int}
section
variable{Q:K6}{T:Sx.Tb}
theorem AA(s:Q9):j5 (F0 s) (.int 3)=some (.dat (optN s.pl)):=rfl
theorem VW(s:Q9):j5 (F0 s) (.int 4)=some (.dat (.bool s.tp)):=rfl
theorem VX(s:Q9):j5 (F0 s) (.int 2)=some (.dat (.int (s.ch:Int))):=rfl
theorem VY(s:Q9):j5 (F0 s) (.int 0)=some (.dat (.int s.top)):=rfl
theorem Om(K:X5 Q T){s:Q9}{PC:c6}(ha:a<Q.n)(hv:Q.lim a=some v)(hs:s.pl=none):
  jJ [.ob none (n8 Q T),.dat (.int (a:Int)),.dat PC,.dat (F0 s)]=some (.dat .none,[some (.ob none (n8 Q (iQ Q T a (-(T.sg a*v))))),none,none,none]):=by
 refine lj rfl λt=>?_
 rw[show((aL t 0 [PV.ob none (n8 Q T),.dat (.int (a:Int)),.dat PC,.dat (F0 s)]).map some++v9 (4-4) none:Ds)=[some (.ob (some (t 0)) (n8 Q T)),iD (a:Int),some (.dat PC),some (.dat (F0 s))]from rfl]
 generalize hw:(some (t 0):Option Addr)=w;have s1:D1 (j8 (c9 gz (c9 j5 (b9 3) (fC (.int 3))) (fC .none))) (i6 (J1 (G5 "Table" "flip" 0 G8 (G9 (b9 1) cz))) lg) t9 [some (.ob w (n8 Q T)),iD (a:Int),some (.dat PC),some (.dat (F0 s))]=some (.retO (.dat .none) [some (.ob w (n8 Q (iQ Q T a (-(T.sg a*v))))),iD (a:Int),some (.dat PC),some (.dat (F0 s))]):=by
  have eb:j8 (c9 gz (c9 j5 (b9 3) (fC (.int 3))) (fC .none)) [some (.ob w (n8 Q T)),iD (a:Int),some (.dat PC),some (.dat (F0 s))]=some true:=by walk_at "v";rw[AA,hs];rfl
  delta D1;rw[eb,j4,c7 rfl,j7];delta J1;rw[oI (Q:=Q) (T:=T) (w:=w) (xs:=[.int (a:Int)]) rfl (tJ Q T) rfl (Fm K ha hv)];rfl
 rw[j7,s1];subst hw;show(some (Out.retO _ _)).bind _=_
 simp only[j4,jP,J5,A9]
theorem EB(K:X5 Q T){l:Nat}{s:Q9}(ha:a<Q.n)(hl:l<Q.m)(hs:s.pl=some l)(hf:T.full a=true->Q.lim a≠none)(hg:g=if 0<T.i0 (l5 Q) a l then 1 else -1)(hc:s.ch<Q.n)(hv:s.tp=true->Q.lim s.ch=some v):
  jJ [.ob none (n8 Q T),.dat (.int (a:Int)),.dat (.list (rl Q.m λk=>.int (T.i0 (l5 Q) a k))),.dat (F0 s)]=some (.dat .none,[some (.ob none (n8 Q (if s.tp=true then iQ Q (P2 Q T a l g) s.ch (-((P2 Q T a l g).sg s.ch*v))else P2 Q T a l g))),none,none,none]):=by
 refine lj rfl λt=>?_
 generalize hP:(nP (rl Q.m λk=>.int (T.i0 (l5 Q) a k)))=PC
 rw[show((aL t 0 [PV.ob none (n8 Q T),.dat (.int (a:Int)),.dat PC,.dat (F0 s)]).map some++v9 (4-4) none:Ds)=[some (.ob (some (t 0)) (n8 Q T)),iD (a:Int),some (.dat PC),some (.dat (F0 s))]from rfl]
 generalize hw:(some (t 0):Option Addr)=w;have s1:D1 (j8 (c9 gz (c9 j5 (b9 3) (fC (.int 3))) (fC .none))) (i6 (J1 (G5 "Table" "flip" 0 G8 (G9 (b9 1) cz))) lg) t9 [some (.ob w (n8 Q T)),iD (a:Int),some (.dat PC),some (.dat (F0 s))]=some (.next [some (.ob w (n8 Q T)),iD (a:Int),some (.dat PC),some (.dat (F0 s))]):=by
  have eb:j8 (c9 gz (c9 j5 (b9 3) (fC (.int 3))) (fC .none)) [some (.ob w (n8 Q T)),iD (a:Int),some (.dat PC),some (.dat (F0 s))]=some false:=by walk_at "v";rw[AA,hs];rfl
  delta D1;rw[eb];rfl
 have s2:J1 (G5 "Table" "turn" 0 bu (G9 (b9 1) (G9 (c9 j5 (b9 3) (fC (.int 3))) (G9 (b9 2) cz)))) [some (.ob w (n8 Q T)),iD (a:Int),some (.dat PC),some (.dat (F0 s))]=some (.next [some (.ob w (n8 Q (P2 Q T a l g))),iD (a:Int),some (.dat PC),some (.dat (F0 s))]):=by
  delta J1;have ha':G9 (b9 1) (G9 (c9 j5 (b9 3) (fC (.int 3))) (G9 (b9 2) cz)) [some (.ob w (n8 Q T)),iD (a:Int),some (.dat PC),some (.dat (F0 s))]=some (([.int (a:Int),.int (l:Int),PC]:List c6).map AV.d):=by walk_at "v";rw[AA,hs];rfl
  rw[oI (Q:=Q) (T:=T) (w:=w) (xs:=[.int (a:Int),.int (l:Int),PC]) rfl (Oe Q T) ha' (by subst hP;exact Rn K ha hl hf hg)]
  rfl
 have s3:D1 (j8 (c9 j5 (b9 3) (fC (.int 4)))) (J1 (G5 "Table" "flip" 0 G8 (G9 (c9 j5 (b9 3) (fC (.int 2))) cz))) t9 [some (.ob w (n8 Q (P2 Q T a l g))),iD (a:Int),some (.dat PC),some (.dat (F0 s))]=some (.next [some (.ob w (n8 Q (if s.tp=true then iQ Q (P2 Q T a l g) s.ch (-((P2 Q T a l g).sg s.ch*v))else P2 Q T a l g))),iD (a:Int),some (.dat PC),some (.dat (F0 s))]):=by
  have eb:j8 (c9 j5 (b9 3) (fC (.int 4))) [some (.ob w (n8 Q (P2 Q T a l g))),iD (a:Int),some (.dat PC),some (.dat (F0 s))]=some s.tp:=by walk_at "v";rw[VW];rfl
  delta D1;rw[eb,j4];by_cases c:s.tp=true
  . rw[c7 c,c7 c];delta J1;have ha':G9 (c9 j5 (b9 3) (fC (.int 2))) cz [some (.ob w (n8 Q (P2 Q T a l g))),iD (a:Int),some (.dat PC),some (.dat (F0 s))]=some (([.int (s.ch:Int)]:List c6).map AV.d):=by walk_at "v";rw[VX];rfl
    rw[oI (Q:=Q) (T:=P2 Q T a l g) (w:=w) (xs:=[.int (s.ch:Int)]) rfl (tJ Q _) ha' (Fj hc (hv c) ((K.lb _ v hc (hv c)).mono (by decide)) (K.cb _ hc))]
    rfl
  . rw[e9 c,e9 c];rfl
 rw[j7,s1,j0,j7,s2,j0,s3];subst hw;simp only[j4,jP,J5,A9]
def X4(Q:K6)(T:Sx.Tb)(tp:Nat->Option Q2):Nat->Nat->Q2
 | 0,j=>if T.full j=true then(tp j).getD q0 else q0
 |i+1,j=>if j=T.B i then r9 (T.am (l5 Q) i*Q.sc (T.B i)) (T.size*Q.un)else X4 Q T tp i j
theorem VF(K:X5 Q T){tp:Nat->Option Q2}(hs:∀j,j<Q.n->Bt 7000 (Q.sc j))(hu:Bt 900 Q.un)(hz:Bt 7000 T.size)(hp:0<Q.un)(hf:∀j,j<Q.n->T.full j=true->tp j≠none):
  aQ [o8 Q T,.list (rl Q.n λj=>o2 (tp j))]=some (.own (rl Q.n λj=>fr (X4 Q T tp Q.m j))):=by
 have hb:Bt 8000 (T.size*Q.un):=(hz.mul hu).mono (by decide)
 have hne:T.size*Q.un≠0:=by have:=G0 K.sp hp;lia
 delta aQ;walk_at "v";rw[jd];walk_at "v";rw[c7 (R7 K.n1),B7 (g:=λj=>fr (X4 Q T tp 0 j)) λj hj=>⟨_,if T.full j=true then .dat (o2 (tp j))else .dat aO,rfl,by
  delta pG;walk_at "v";split<;>rfl,by
  show PV.d _=fr (if T.full j=true then(tp j).getD q0 else q0)
  by_cases c:T.full j=true
  . rw[c7 c,c7 c];obtain⟨v,hv⟩:=Option.ne_none_iff_exists'.mp (hf j hj c);rw[hv];rfl
  . rw[e9 c,e9 c];rfl⟩]
 walk_at "v";rw[lp (Q:=Q) (T:=T) (l:=[]) rfl rfl (uJ Q T) rfl,vy K];walk_at "v";rw[jd];walk_at "v";obtain⟨ds',h1,x3,x4,rfl⟩:=tP (gt:=jN 2 (U2 3 (U2 4 jO))) (G:=kG) (items:=rl Q.m λi=>.tuple [.int (T.B i:Int),.int (T.am (l5 Q) i)]) (ds:=[some (.dat (o8 Q T)),some (.dat (.list (rl Q.n λj=>o2 (tp j)))),some (.own (rl Q.n λj=>fr (X4 Q T tp 0 j))),none,none])
  (λi ds=>∃x3 x4,ds=[some (.dat (o8 Q T)),some (.dat (.list (rl Q.n λj=>o2 (tp j)))),some (.own (rl Q.n λj=>fr (X4 Q T tp i j))),x3,x4])
  ⟨none,none,rfl⟩ (by
   rintro i d ds hd ⟨x3,x4,rfl⟩;obtain⟨hi,rfl⟩:=uw hd;have hB:=K.bn i hi;refine⟨[some (.dat (o8 Q T)),some (.dat (.list (rl Q.n λj=>o2 (tp j)))),some (.own (rl Q.n λj=>fr (X4 Q T tp i j))),iD (T.B i:Int),iD (T.am (l5 Q) i)],[some (.dat (o8 Q T)),some (.dat (.list (rl Q.n λj=>o2 (tp j)))),some (.own (rl Q.n λj=>fr (X4 Q T tp (i+1) j))),iD (T.B i:Int),iD (T.am (l5 Q) i)],rfl,.inl ?_,_,_,rfl⟩
   delta kG;have ev:g0 U9 (c5 (c9 B4 (b9 4) (c9 j5 (A1 "Table" "scales" (b9 0)) (b9 3))) (c5 (c9 B4 (A1 "Table" "size" (b9 0)) (A1 "Table" "unit" (b9 0))) c8)) [some (.dat (o8 Q T)),some (.dat (.list (rl Q.n λj=>o2 (tp j)))),some (.own (rl Q.n λj=>fr (X4 Q T tp i j))),iD (T.B i:Int),iD (T.am (l5 Q) i)]=some (.dat (fr (r9 (T.am (l5 Q) i*Q.sc (T.B i)) (T.size*Q.un)))):=by
    walk_at "v";rw[A3 _ hB];walk_at "v";rw[p8 ((K.ab i hi).mono (by decide)) ((hs _ hB).mono (by decide)),p8 (hz.mono (by decide)) (hu.mono (by decide))]
    walk_at "v";rw[iP hne hb]
   delta S6;rw[ev,j4];show(fT (rl Q.n _).length (T.B i:Int)).bind _=_
   rw[B2,kJ hB,j4,gw];have:(rl Q.n λk=>if k=T.B i then PV.d (.dat (fr (r9 (T.am (l5 Q) i*Q.sc (T.B i)) (T.size*Q.un))))else fr (X4 Q T tp i k))=rl Q.n λj=>fr (X4 Q T tp (i+1) j):=X0 λk _=>by rw[X4];split<;>rfl
   rw[this];rfl)
 rw[B2]at h1;rw[h1];walk_at "v"
def F3(Q:K6)(T:Sx.Tb)(p:Nat):Tr:=⟨r9 (T.pr 0 p) (T.size*Q.mu 0),r9 (T.pr 1 p) (T.size*Q.mu 1),r9 (T.pr 2 p) (T.size*Q.mu 2)⟩
theorem NF(K:X5 Q T)(hp:p<Q.m)(hm:∀t,t<3->0<Q.mu t/\Bt 900 (Q.mu t)):gT [o8 Q T,.int (p:Int)]=some (.dat (p9 (F3 Q T p))):=by
 have one:∀t:Nat,t<3->bw [iD (t:Int),some (.dat (o8 Q T)),iD (p:Int),none]=some (.dat (fr (r9 (T.pr t p) (T.size*Q.mu t)))):=λt ht=>by
  obtain⟨m0,m1⟩:=hm t ht;have hne:T.size*Q.mu t≠0:=by have:=G0 K.sp m0;lia
  delta bw;walk_at "v";rw[A3 _ ht];walk_at "v";rw[A3 _ hp,A3 _ ht];walk_at "v";rw[p8 (K.sb.mono (by decide)) (m1.mono (by decide))]
  walk_at "v";rw[iP hne ((K.sb.mul m1).mono (by decide))]
 delta gT;walk_at "v";have e:D6 m7 m6 bw [some (.dat (o8 Q T)),iD (p:Int),none] [.int 0,.int 1,.int 2]=some [fr (r9 (T.pr 0 p) (T.size*Q.mu 0)),fr (r9 (T.pr 1 p) (T.size*Q.mu 1)),fr (r9 (T.pr 2 p) (T.size*Q.mu 2))]:=by
  have:=B7 (Fe:=bw) (ds:=[some (.dat (o8 Q T)),iD (p:Int),none]) (n:=3) (f:=λi=>.int (i:Int)) (g:=λt=>fr (r9 (T.pr t p) (T.size*Q.mu t))) (gt:=m7) λi hi=>⟨_,_,rfl,one i hi,rfl⟩
  exact this
 rw[e];rfl
theorem xh{n:Nat}(x:c6)(h:n<=1000):mB (.list [x]) (.int (n:Int))=some (.own (rl n λ_=>x)):=by
 show(if (0<=(n:Int)/\(n:Int).toNat<=100000)/\[x].length*(n:Int).toNat<=100000 then some (PV.own (v9 (n:Int).toNat [x]).flatten)else none)=_
 rw[c7 ⟨⟨by lia,by lia⟩,by rw[J8,CH];lia⟩,J8,Uy]
def ba(Q:K6)(T:Sx.Tb)(a:Nat):Nat->Nat->Q2
 | 0,j=>if j=a then(Q.sc a,1)else q0
 |i+1,j=>if j=T.B i then r9 (-T.i0 (l5 Q) a i*Q.sc (T.B i)) T.size else ba Q T a i j
theorem TL(K:X5 Q T)(ha:a<Q.n)(hs:∀j,j<Q.n->Bt 7000 (Q.sc j)):fI [o8 Q T,.int (a:Int),.list (rl Q.m λk=>.int (T.i0 (l5 Q) a k))]=some (.own (rl Q.n λj=>fr (ba Q T a Q.m j))):=by
 have n1:=K.n1;have e0:R8 3 (c9 mB (K9 (c5 (fC aO) c8)) (g0 J9 (c5 (A1 "Table" "full" (b9 0)) c8))) [some (.dat (o8 Q T)),iD (a:Int),some (.dat (.list (rl Q.m λk=>.int (T.i0 (l5 Q) a k)))),none,none,none]=some (.next [some (.dat (o8 Q T)),iD (a:Int),some (.dat (.list (rl Q.m λk=>.int (T.i0 (l5 Q) a k)))),some (.own (rl Q.n λ_=>aO)),none,none]):=by walk_at "v";rw[B2];rw[xh _ n1];rfl
 have e1:S6 3 (b9 1) (C2 (c5 (c9 j5 (A1 "Table" "scales" (b9 0)) (b9 1)) (c5 (fC (.int 1)) c8))) [some (.dat (o8 Q T)),iD (a:Int),some (.dat (.list (rl Q.m λk=>.int (T.i0 (l5 Q) a k)))),some (.own (rl Q.n λ_=>aO)),none,none]=some (.next [some (.dat (o8 Q T)),iD (a:Int),some (.dat (.list (rl Q.m λk=>.int (T.i0 (l5 Q) a k)))),some (.own (rl Q.n λj=>fr (ba Q T a 0 j))),none,none]):=by
  have ev:C2 (c5 (c9 j5 (A1 "Table" "scales" (b9 0)) (b9 1)) (c5 (fC (.int 1)) c8)) [some (.dat (o8 Q T)),iD (a:Int),some (.dat (.list (rl Q.m λk=>.int (T.i0 (l5 Q) a k)))),some (.own (rl Q.n λ_=>aO)),none,none]=some (.dat (fr (Q.sc a,1))):=by walk_at "v";rw[A3 _ ha];walk_at "v"
  delta S6;rw[ev,j4];show(fT (rl Q.n _).length (a:Int)).bind _=_
  rw[B2,kJ ha,j4,gw];have:(rl Q.n λk=>if k=a then PV.d (.dat (fr (Q.sc a,1)))else aO)=rl Q.n λj=>fr (ba Q T a 0 j):=X0 λk _=>by rw[ba];split<;>rfl
  rw[this];rfl
 obtain⟨ds',h1,x4,x5,rfl⟩:=tP (gt:=jN 2 (U2 4 (U2 5 jO))) (G:=kF) (items:=rl Q.m λi=>.tuple [.int (T.B i:Int),.int (T.i0 (l5 Q) a i)]) (ds:=[some (.dat (o8 Q T)),iD (a:Int),some (.dat (.list (rl Q.m λk=>.int (T.i0 (l5 Q) a k)))),some (.own (rl Q.n λj=>fr (ba Q T a 0 j))),none,none])
  (λi ds=>∃x4 x5,ds=[some (.dat (o8 Q T)),iD (a:Int),some (.dat (.list (rl Q.m λk=>.int (T.i0 (l5 Q) a k)))),some (.own (rl Q.n λj=>fr (ba Q T a i j))),x4,x5])
  ⟨none,none,rfl⟩ (by
   rintro i d ds hd ⟨x4,x5,rfl⟩;obtain⟨hi,rfl⟩:=uw hd;have hB:=K.bn i hi;refine⟨[some (.dat (o8 Q T)),iD (a:Int),some (.dat (.list (rl Q.m λk=>.int (T.i0 (l5 Q) a k)))),some (.own (rl Q.n λj=>fr (ba Q T a i j))),iD (T.B i:Int),iD (T.i0 (l5 Q) a i)],[some (.dat (o8 Q T)),iD (a:Int),some (.dat (.list (rl Q.m λk=>.int (T.i0 (l5 Q) a k)))),some (.own (rl Q.n λj=>fr (ba Q T a (i+1) j))),iD (T.B i:Int),iD (T.i0 (l5 Q) a i)],rfl,.inl ?_,_,_,rfl⟩
   delta kF;have ev:g0 U9 (c5 (c9 B4 (aa Q3 (b9 5)) (c9 j5 (A1 "Table" "scales" (b9 0)) (b9 4))) (c5 (A1 "Table" "size" (b9 0)) c8)) [some (.dat (o8 Q T)),iD (a:Int),some (.dat (.list (rl Q.m λk=>.int (T.i0 (l5 Q) a k)))),some (.own (rl Q.n λj=>fr (ba Q T a i j))),iD (T.B i:Int),iD (T.i0 (l5 Q) a i)]=some (.dat (fr (r9 (-T.i0 (l5 Q) a i*Q.sc (T.B i)) T.size))):=by
    walk_at "v";rw[A3 _ hB];walk_at "v";rw[p8 (((K.vt a i ha hi).mono (by decide)).neg) ((hs _ hB).mono (by decide))]
    walk_at "v";rw[iP (by have:=K.sp;lia) (K.sb.mono (by decide))]
   delta S6;rw[ev,j4];show(fT (rl Q.n _).length (T.B i:Int)).bind _=_
   rw[B2,kJ hB,j4,gw];have:(rl Q.n λk=>if k=T.B i then PV.d (.dat (fr (r9 (-T.i0 (l5 Q) a i*Q.sc (T.B i)) T.size)))else fr (ba Q T a i k))=rl Q.n λj=>fr (ba Q T a (i+1) j):=X0 λk _=>by rw[ba];split<;>rfl
   rw[this];rfl)
 rw[B2]at h1;delta fI D2;rw[c7 (by rfl),show(L4 [o8 Q T,.int (a:Int),.list (rl Q.m λk=>.int (T.i0 (l5 Q) a k))]++v9 (6-3) none:Ds)=[some (.dat (o8 Q T)),iD (a:Int),some (.dat (.list (rl Q.m λk=>.int (T.i0 (l5 Q) a k)))),none,none,none]from rfl,j7,e0,j0,j7,e1,j0]
 walk_at "v";rw[jd];walk_at "v";rw[h1];walk_at "v"
end
end
section
variable{D:Int}{m t j:Nat}{q:Q2}
def nH(c x:Int):Int:=(r9 c x).1*x
def QL(l:List Int):Int:=l.foldl nH 1
theorem KG{c x:Int}(hc:0<c)(hx:0<x)(h1:c∣D)(h2:x∣D):0<nH c x/\c∣nH c x/\x∣nH c x/\nH c x∣D:=by
 obtain⟨e1,e2,e3,e4⟩:=cw (t:=c) hx;delta nH;generalize (r9 c x).1=p at *;generalize (r9 c x).2=q at *;obtain⟨r,hr⟩:=e4;have hq:q≠0:=by lia
 have hc':c=p*r:=by
  have:q*(p*r)=q*c:=by rw[hr]at e3;grind
  exact(wI hq this).symm
 have hr0:0<r:=by
  rcases eZ 0 r with h|h
  . exact h
  . have:=vz (T3 e1) h;lia
 have hp0:0<p:=by
  rcases eZ 0 p with h|h
  . exact h
  . have:=CY h (T3 hr0);lia
 refine⟨G0 hp0 hx,⟨q,by rw[hc',hr];grind⟩,⟨p,D3 _ _⟩,?_⟩
 obtain⟨u,hu⟩:=h1;obtain⟨v,hv⟩:=h2;have h3:p*u=q*v:=by
  have:r*(p*u)=r*(q*v):=by rw[hc']at hu;rw[hr]at hv;grind
  exact wI (by lia) this
 have h4:q∣u:=by
  have:q∣p*u:=⟨v,h3⟩;have h:=Int.natAbs_dvd_natAbs.mpr this;rw[aE]at h;refine Int.natAbs_dvd_natAbs.mp (Nat.Coprime.dvd_of_dvd_mul_left (k:=q.natAbs) (m:=p.natAbs) ?_ h);show Nat.gcd q.natAbs p.natAbs=1
  rw[Nat.gcd_comm];exact e2
 obtain⟨w,hw⟩:=h4;exact⟨w,by rw[hu,hc',hw,hr];grind⟩
theorem vq{D:Int}:∀(l:List Int) (c:Int),0<c->c∣D->(∀x∈l,0<x/\x∣D)->0<l.foldl nH c/\c∣l.foldl nH c/\(∀x∈l,x∣l.foldl nH c)/\l.foldl nH c∣D
 | [],c,h1,h2,_=>⟨h1,X8 _,λx hx=>absurd hx (by simp),h2⟩
 |x::l,c,h1,h2,h3=>by
  obtain⟨g1,g2⟩:=h3 x A2;obtain⟨e1,e2,e3,e4⟩:=KG h1 g1 h2 g2;obtain⟨i1,i2,i3,i4⟩:=vq l (nH c x) e1 e4 λy hy=>h3 y (C4 _ hy)
  rw[vU];refine⟨i1,gP e2 i2,λy hy=>?_,i4⟩
  rcases List.mem_cons.mp hy with rfl|hy
  . exact gP e3 i2
  . exact i3 y hy
theorem qE{c:Int}(hD:0<D)(hc:0<c)(h:c∣D)(b:Bt m D):Bt m c:=b.of_le (by have:=ff hD h;lia)
theorem jR{l:List Int}(hD:0<D)(hb:Bt 7000 D)(h:∀x∈l,0<x/\x∣D):E9 [.list (l.map .int)]=some (.dat (.int (QL l))):=by
 have key:∀(k:List Int) (c:Int) (L:c6) (x:Option PV),0<c->c∣D->(∀x∈k,0<x/\x∣D)->∃x',K7 (z9 2) T5 (k.map .int) [some (.dat L),iD c,x]=some (.next [some (.dat L),iD (k.foldl nH c),x']):=by
  intro k;induction k with
  |nil=>exact λc L x _ _ _=>⟨x,rfl⟩
  |cons y k ih =>
   intro c L x h1 h2 h3;obtain⟨g1,g2⟩:=h3 y A2;obtain⟨e1,e2,e3,e4⟩:=KG h1 g1 h2 g2;have by':=qE hD g1 g2 hb;have bc:=qE hD h1 h2 hb;have e:T5 [some (.dat L),iD c,iD y]=some (.next [some (.dat L),iD (nH c y),iD y]):=by
    delta T5;walk_at "r";rw[iP (by lia) (by'.mono (by decide))]
    walk_at "r";rw[p8 ((bK g1 bc by').bt.mono (by decide)) (by'.mono (by decide))]
    rfl
   rw[o6,O7 (ds1:=[some (.dat L),iD c,iD y]) rfl e,vU];exact ih _ L _ e1 e4 λz hz=>h3 z (C4 _ hz)
 obtain⟨x',e⟩:=key l 1 (.list (l.map .int)) none (by decide) ⟨D,by lia⟩ h
 delta E9;walk_at "r";rw[e];rfl
def wh(q:Q2)(b:Int):Int:=q.1*b.fdiv q.2
theorem oo{b:Int}(h1:Bt 7000 q.1)(h2:Bt 7000 q.2)(h0:q.2≠0)(h3:Bt 7000 b):fX [fr q,.int b]=some (.dat (.int (wh q b))):=by
 delta fX;walk_at "r";rw[K3 h0 (h2.mono (by decide))]
 walk_at "r";rw[p8 (h1.mono (by decide)) (h3.fdiv.mono (by decide))]
 rfl
theorem uh{b:Int}(h:0<q.2)(hd:q.2∣b):wh q b*q.2=q.1*b:=by
 obtain⟨c,hc⟩:=hd;delta wh;rw[hc,LZ _ (by lia)]
 grind
structure m8 where
 m:Nat
 n:Nat
 cost:Nat->Tr
 row:Nat->Nat->Q2
 rg:Nat->Q2
 tp:Nat->Option Q2
 fs:Nat->Nat
def O5(x:Tr):Nat->Q2
 | 0=>x.a
 | 1=>x.b
 | 2=>x.c
 |_=>q0
theorem VU(x:Tr)(h:t<3):j5 (p9 x) (.int (t:Int))=some (.dat (fr (O5 x t))):=by rcases(by lia:t=0\/t=1\/t=2)with rfl|rfl|rfl<;>rfl
def m8.sc(I:m8)(j:Nat):Int:=QL ((A4 I.m).map λp=>(I.row p j).2)
def m8.Q1(I:m8)(j:Nat):Nat->List (Nat×Int)
 | 0=>[]
 |i+1=>I.Q1 j i++(if I.row i j≠q0 then[(i,wh (I.row i j) (I.sc j))]else[])
def m8.wq(I:m8)(t j:Nat):Q2:=N0 (O5 (I.cost j) t) (I.sc j,1)
def m8.mu(I:m8)(t:Nat):Int:=QL ((A4 I.n).map λj=>(I.wq t j).2)
def m8.wt(I:m8)(t j:Nat):Int:=wh (I.wq t j) (I.mu t)
def m8.hq(I:m8)(j:Nat):Option Q2:=(I.tp j).map λq=>N0 q (1,I.sc j)
def m8.lB(I:m8):List Int:=((A4 I.m).map λp=>(I.rg p).2)++(A4 I.n).filterMap λj=>(I.hq j).map (·.2)
def m8.un(I:m8):Int:=QL I.lB
def m8.lim(I:m8)(j:Nat):Option Int:=(I.hq j).map λq=>wh q I.un
def m8.b(I:m8)(p:Nat):Int:=wh (I.rg p) I.un
def m8.A0(I:m8):K6:=⟨I.m,I.n,I.sc,λj=>I.Q1 j I.m,I.mu,I.wt,I.un,I.lim⟩
def m8.tab(I:m8):Sx.Tb:=⟨I.fs,λ_=>false,1,λk q=>if k=q then 1 else 0,λt k=>I.wt t (I.fs k),I.b⟩
structure v5(I:m8)(D E F:Int):Prop where
 m1:I.m<=1000
 n1:I.n<=1000
 d0:0<D
 e0:0<E
 f0:0<F
 db:Bt 900 D
 eb:Bt 900 E
 fb:Bt 900 F
 row:∀p j,p<I.m->j<I.n->l7 800 (I.row p j)/\(I.row p j).2∣D
 cost:∀t j,t<3->j<I.n->l7 800 (O5 (I.cost j) t)/\(O5 (I.cost j) t).2∣E
 rg:∀p,p<I.m->l7 800 (I.rg p)/\(I.rg p).2∣F
 tp:∀j q,j<I.n->I.tp j=some q->l7 800 q/\∀s,s∣D->q.2*s∣F
 fs:∀k,k<I.m->I.fs k<I.n
section
variable{I:m8}{D E F:Int}
theorem v5.sc(H:v5 I D E F){j:Nat}(hj:j<I.n):0<I.sc j/\I.sc j∣D/\Bt 900 (I.sc j)/\∀p,p<I.m->(I.row p j).2∣I.sc j:=by
 have:=vq (D:=D) ((A4 I.m).map λp=>(I.row p j).2) 1 (by decide) ⟨D,by lia⟩ λx hx=>by obtain⟨p,hp,rfl⟩:=mem_map.mp hx;have:=H.row p j (mem_range.mp hp) hj;exact⟨this.1.pos,this.2⟩
 obtain⟨h1,h2,h3,h4⟩:=this;exact⟨h1,h4,qE H.d0 h1 h4 H.db,λp hp=>h3 _ (mem_map.mpr ⟨p,mem_range.mpr hp,rfl⟩)⟩
theorem MP(H:v5 I D E F)(hj:j<I.n):gS [.list (rl I.m λp=>.list (rl I.n λj=>fr (I.row p j))),.int (j:Int)]=some (.dat (.int (I.sc j))):=by
 delta gS;walk_at "r";rw[c7 (R7 H.m1),B7 (g:=λp=>.int (I.row p j).2) λp hp=>⟨_,.dat (.int (I.row p j).2),rfl,by delta mf;walk_at "r";rw[A3 _ hj];walk_at "r",rfl⟩]
 walk_at "r";have e:(rl I.m λp=>ao (I.row p j).2)=((A4 I.m).map λp=>(I.row p j).2).map ao:=by rw[eU];rfl
 rw[e,jR H.d0 (H.db.mono (by decide)) λx hx=>by obtain⟨p,hp,rfl⟩:=mem_map.mp hx;have:=H.row p j (mem_range.mp hp) hj;exact⟨this.1.pos,this.2⟩]
 rfl
theorem VE(p q:Q2):V4 (fr p) (fr q)=some (.dat (.bool (decide (p≠q)))):=rP p q
theorem KD(H:v5 I D E F)(hj:j<I.n):eV [.list (rl I.m λp=>.list (rl I.n λj=>fr (I.row p j))),.int (j:Int),.int (I.sc j)]=some (.own ((I.Q1 j I.m).map λe=>.tuple [.int (e.1:Int),.int e.2])):=by
 obtain⟨_,_,sb,_⟩:=H.sc hj;have key:∀k,k<=I.m->D6 (N7 2) R3 R5 [some (.dat (.list (rl I.m λp=>.list (rl I.n λj=>fr (I.row p j))))),iD (j:Int),iD (I.sc j)] ((rl I.m λi=>.tuple [.int (0+(i:Int)),.list (rl I.n λj=>fr (I.row i j))]).take k)=some ((I.Q1 j k).map λe=>.tuple [.int (e.1:Int),.int e.2]):=by
  have app:∀(l1 l2 r1 r2:List c6) (ds:Ds),D6 (N7 2) R3 R5 ds l1=some r1->D6 (N7 2) R3 R5 ds l2=some r2->D6 (N7 2) R3 R5 ds (l1++l2)=some (r1++r2):=by
   intro l1;induction l1 with
   |nil=>intro l2 r1 r2 ds h1 h2;cases h1;exact h2
   |cons x l1 ih =>
    intro l2 r1 r2 ds h1 h2;rw[X9];unfold D6 at h1 ⊢;obtain⟨bs,g1,h1⟩:=l9 h1;obtain⟨b,g2,h1⟩:=l9 h1;rw[g1,j4,g2,j4];cases b with
    |false =>
     simp only[aG,M6]at h1 ⊢;exact ih l2 r1 r2 ds h1 h2
    |true =>
     simp only[A9]at h1 ⊢;obtain⟨y,g3,h1⟩:=l9 h1;obtain⟨l,g4,h1⟩:=l9 h1;cases h1;rw[g3,j4,ih l2 l r2 ds g4 h2];rfl
  intro k;induction k with
  |zero=>intro _;rfl
  |succ k ih =>
   intro hk;have hk':k<I.m:=by lia
   obtain⟨f1,f2⟩:=H.row k j hk' hj;have e1:(rl I.m λi=>eQ [.int (0+(i:Int)),.list (rl I.n λj=>fr (I.row i j))]).take (k+1)=(rl I.m λi=>eQ [.int (0+(i:Int)),.list (rl I.n λj=>fr (I.row i j))]).take k++[.tuple [.int (0+(k:Int)),.list (rl I.n λj=>fr (I.row k j))]]:=by rw[List.take_succ,Q6,lY hk'];rfl
   rw[e1,m8.Q1,gQ];refine app _ _ _ _ _ (ih (by lia)) ?_
   unfold D6;simp only[N7,O0,lN,Nat.reduceAdd,A9,j4];have eq:R3 (L4 [.int (0+(k:Int)),.list (rl I.n λj=>fr (I.row k j))]++[some (.dat (.list (rl I.m λp=>.list (rl I.n λj=>fr (I.row p j))))),iD (j:Int),iD (I.sc j)])=some (decide (I.row k j≠q0)):=by unfold R3;walk_at "r";rw[A3 _ hj];walk_at "r";rw[VE (I.row k j) q0];walk_at "r"
   rw[eq,j4];by_cases c:I.row k j=q0
   . rw[e9 (by simp[c]),e9 (λz=>z c)]
     rfl
   . rw[c7 (by simpa using c),c7 c]
     have ee:R5 (L4 [.int (0+(k:Int)),.list (rl I.n λj=>fr (I.row k j))]++[some (.dat (.list (rl I.m λp=>.list (rl I.n λj=>fr (I.row p j))))),iD (j:Int),iD (I.sc j)])=some (.dat (.tuple [.int (0+(k:Int)),.int (wh (I.row k j) (I.sc j))])):=by
      unfold R5;walk_at "r";rw[A3 _ hj];walk_at "r";rw[oo (f1.bt.mono (by decide)) (f1.bb.mono (by decide)) (by have:=f1.pos;lia) (sb.mono (by decide))]
      walk_at "r"
     rw[ee,j4];simp only[D6,j4,o6,N8,J2,PV.gF]
 have:=key I.m (o3 _);rw[CK (by rw[B2];lia)]at this
 unfold eV;walk_at "r";rw[rZ,c7 (R7 H.m1),this];rfl
theorem Bf(I:m8)(j:Nat):∀k e,e∈I.Q1 j k->e.1<k/\e.2=wh (I.row e.1 j) (I.sc j)
 | 0,e,h=>absurd h (by simp[m8.Q1])
 |k+1,e,h=>by
  rw[m8.Q1]at h;rcases List.mem_append.mp h with h|h
  . have:=Bf I j k e h;exact⟨by lia,this.2⟩
  . split at h
    . have:e=(k,wh (I.row k j) (I.sc j)):=by simpa using h
      rw[this];exact⟨by lia,rfl⟩
    . simp at h
theorem Bg(I:m8)(j:Nat):∀k,(I.Q1 j k).length<=k
 | 0=>by simp[m8.Q1]
 |k+1=>by have:=Bg I j k;rw[m8.Q1,iU];split<;>simp<;>lia
theorem Pq(c d:List (Nat×Int))(r:Nat):D9 (c++d) r=D9 c r+D9 d r:=by
 induction c with
 |nil=>simp[D9]
 |cons e c ih=>rw[X9,D9,D9,ih];lia
theorem yI(I:m8)(j p:Nat):∀k,D9 (I.Q1 j k) p=if p<k then wh (I.row p j) (I.sc j)else 0
 | 0=>by simp[m8.Q1,D9]
 |k+1=>by
  rw[m8.Q1,Pq,yI I j p k];by_cases c:p=k
  . subst c;have e1:(if p<p then wh (I.row p j) (I.sc j)else 0)=0:=e9 (by lia)
    have e2:(if p<p+1 then wh (I.row p j) (I.sc j)else 0)=wh (I.row p j) (I.sc j):=c7 (by lia)
    rw[e1,e2];by_cases z:I.row p j=q0
    . have e3:(if I.row p j≠q0 then[(p,wh (I.row p j) (I.sc j))]else[])=[]:=e9 (λy=>y z)
      rw[e3,z];show(0:Int)+0=0*_
      lia
    . have e3:(if I.row p j≠q0 then[(p,wh (I.row p j) (I.sc j))]else[])=[(p,wh (I.row p j) (I.sc j))]:=c7 z
      rw[e3];simp[D9]
  . have e:D9 (if I.row k j≠q0 then[(k,wh (I.row k j) (I.sc j))]else[]) p=0:=by
      split
      . have c':¬k=p:=λz=>c z.symm
        simp[D9,c']
      . rfl
    rw[e];by_cases c2:p<k
    . rw[c7 c2,c7 (by lia)];lia
    . rw[e9 c2,e9 (by lia)];lia
end
end
section
variable{f m g:Str}{ds:Ds}{w:Option Addr}{p q:PF}{r:List (Str×PF)}
theorem oK{f:Str}:∀fs:List (Str×PF),(fs.map (·.1)).contains f=false->q5 f fs=none
 | [],_=>rfl
 |(g,x)::r,h=>by
  rw[o6,List.contains_cons,LK]at h;rw[q5,e9 (λz=>by rw[z]at h;simp at h)]
  exact oK r h.2
theorem zR{f:Str}{p:PF}:∀fs:List (Str×PF),q5 f fs=none->F7 f p fs=fs++[(f,p)]
 | [],_=>rfl
 |(g,x)::r,h=>by
  rw[q5]at h;split at h
  . cases h
  . rename_i c;rw[F7,e9 c,zR r h];rfl
theorem X1{kp:PV->Option PF}{F:Ds->Option PV}{i:Nat}{fs:List (Str×PF)}{pv:PV}(h:ds[i]? = some (some (.ob w (.ins "Table" fs))))(hl:fs.length<900)(hn:(fs.map (·.1)).contains f=false)(hF:F ds=some pv)(hk:kp pv=some p):S7 "Table" i f kp F ds=some (.next (ds.set i (some (.ob w (.ins "Table" (fs++[(f,p)])))))):=by delta S7 dS;rw[hF,j4,hk,j4,h];simp only[A9,j4];rw[c7 hl,zR fs (oK fs hn)]
theorem kY{i:Nat}{fs:List (Str×PF)}{d:c6}(h:ds[i]? = some (some (.ob w (.ins "Table" fs))))(hl:q5 f fs=some (.dat d)):F6 "Table" i f ds=some (.dat d):=by delta F6 dS;rw[h];simp only[A9,j4,hl,AY]
theorem Ew{F:Ds->Option PV}{i:Nat}{fs:List (Str×PF)}{pv:PV}{l:List c6}(h:ds[i]? = some (some (.ob w (.ins "Table" fs))))(hl:q5 f fs=some (.own l))(hn:l.length<1000000)(hF:F ds=some pv):mG "Table" i f F ds=some (.next (ds.set i (some (.ob w (.ins "Table" (F7 f (.own (l++[pv.d])) fs)))))):=by delta mG dS;rw[hF,j4,h];simp only[A9,j4,hl,qh];rw[c7 hn]
theorem yk{i:Nat}{fs:List (Str×PF)}{c':OD}{r:Ds}{f:List PV->Option (PV×Ds)}{Fl:Ds->Option (List AV)}{xs:List c6}{pv:PV}(h:ds[i]? = some (some (.ob w (.ins "Table" fs))))(hm:(fs.map (·.1)).contains m=false)(hl:Fl ds=some (xs.map AV.d))(hf:f (.ob none (.ins "Table" fs)::xs.map .dat)=some (pv,some (.ob none c')::r)):
  G5 "Table" m i f Fl ds=some (pv,ds.set i (some (.ob w c'))):=by delta G5 dS;rw[h];simp only[A9,j4,oK fs hm];refine tZ (xs:=xs) h ?_ hf;delta eY;rw[h];simp only[hl,j4]
theorem oM:q5 f ((f,p)::r)=some p:=by rw[q5,c7 rfl]
theorem du(h:(g==f)=false):q5 f ((g,p)::r)=q5 f r:=by rw[q5,e9 (by simpa using h)]
theorem UW:F7 f q ((f,p)::r)=(f,q)::r:=by rw[F7,c7 rfl]
theorem put2(h:(g==f)=false):F7 f q ((g,p)::r)=(g,p)::F7 f q r:=by rw[F7,e9 (by simpa using h)]
section
variable{I:m8}{D E F:Int}
abbrev m8.m3(I:m8):c6:=.list (rl I.n λj=>p9 (I.cost j))
abbrev m8.p5(I:m8):c6:=.list (rl I.m λp=>.list (rl I.n λj=>fr (I.row p j)))
abbrev m8.o7(I:m8):c6:=.list (rl I.m λp=>fr (I.rg p))
abbrev m8.t6(I:m8):c6:=.list (rl I.n λj=>o2 (I.tp j))
abbrev m8.D4(I:m8):c6:=.list (rl I.m λk=>.int (I.fs k:Int))
theorem v5.wq(H:v5 I D E F){t j:Nat}(ht:t<3)(hj:j<I.n):l7 1700 (I.wq t j)/\(I.wq t j).2∣E:=by
 obtain⟨s1,s2,s3,s4⟩:=H.sc hj;obtain⟨c1,c2⟩:=H.cost t j ht hj;refine⟨N6 c1 (ix s3 (by decide)),?_⟩
 have:=(cw (t:=(O5 (I.cost j) t).1*I.sc j) (b:=(O5 (I.cost j) t).2*1) (by have:=c1.pos;lia)).2.2.2
 rw[cq]at this;delta m8.wq N0;rw[cq];exact gP this c2
theorem v5.mu(H:v5 I D E F){t:Nat}(ht:t<3):0<I.mu t/\I.mu t∣E/\Bt 900 (I.mu t)/\∀j,j<I.n->(I.wq t j).2∣I.mu t:=by
 obtain⟨h1,h2,h3,h4⟩:=vq (D:=E) ((A4 I.n).map λj=>(I.wq t j).2) 1 (by decide) ⟨E,by lia⟩ λx hx=>by obtain⟨p,hp,rfl⟩:=mem_map.mp hx;have:=H.wq ht (mem_range.mp hp);exact⟨this.1.pos,this.2⟩
 exact⟨h1,h4,qE H.e0 h1 h4 H.eb,λp hp=>h3 _ (mem_map.mpr ⟨p,mem_range.mpr hp,rfl⟩)⟩
theorem v5.wt(H:v5 I D E F){t j:Nat}(ht:t<3)(hj:j<I.n):Bt 2600 (I.wt t j):=(H.wq ht hj).1.bt.mul (H.mu ht).2.2.1.fdiv
theorem v5.hq(H:v5 I D E F){j:Nat}{q:Q2}(hj:j<I.n)(h:I.hq j=some q):l7 1700 q/\q.2∣F:=by
 obtain⟨s1,s2,s3,s4⟩:=H.sc hj;delta m8.hq at h;obtain⟨r,hr,rfl⟩:=Option.map_eq_some_iff.mp h;obtain⟨c1,c2⟩:=H.tp j r hj hr;have k:l7 900 (1,I.sc j):=⟨s1,by show n9 1 _=1;simp,⟨by show(1:Int).natAbs<2 ^ 900;exact Ls (by decide)⟩,s3⟩
 refine⟨N6 c1 k,?_⟩;have:=(cw (t:=r.1*1) (b:=r.2*I.sc j) (G0 c1.pos s1)).2.2.2;exact gP this (c2 _ s2)
theorem v5.KO(H:v5 I D E F):∀x∈I.lB,0<x/\x∣F:=by
 intro x hx;delta m8.lB at hx;rcases List.mem_append.mp hx with hx|hx
 . obtain⟨p,hp,rfl⟩:=mem_map.mp hx;have:=H.rg p (mem_range.mp hp);exact⟨this.1.pos,this.2⟩
 . obtain⟨j,hj,h⟩:=List.mem_filterMap.mp hx;obtain⟨q,hq,rfl⟩:=Option.map_eq_some_iff.mp h;have:=H.hq (mem_range.mp hj) hq;exact⟨this.1.pos,this.2⟩
theorem v5.un(H:v5 I D E F):0<I.un/\I.un∣F/\Bt 900 I.un/\(∀p,p<I.m->(I.rg p).2∣I.un)/\∀j q,j<I.n->I.hq j=some q->q.2∣I.un:=by
 obtain⟨h1,h2,h3,h4⟩:=vq (D:=F) I.lB 1 (by decide) ⟨F,by lia⟩ H.KO
 refine⟨h1,h4,qE H.f0 h1 h4 H.fb,λp hp=>h3 _ (List.mem_append.mpr (.inl (mem_map.mpr ⟨p,mem_range.mpr hp,rfl⟩))),λj q hj hq=>h3 _ (List.mem_append.mpr (.inr (List.mem_filterMap.mpr ⟨j,mem_range.mpr hj,by rw[hq];rfl⟩)))⟩
theorem v5.lim(H:v5 I D E F){j:Nat}{v:Int}(hj:j<I.n)(h:I.lim j=some v):Bt 2600 v:=by delta m8.lim at h;obtain⟨q,hq,rfl⟩:=Option.map_eq_some_iff.mp h;exact(H.hq hj hq).1.bt.mul H.un.2.2.1.fdiv
theorem v5.b(H:v5 I D E F){p:Nat}(hp:p<I.m):Bt 1700 (I.b p):=(H.rg p hp).1.bt.mul H.un.2.2.1.fdiv
abbrev Ff(I:m8):List (Str×PF):=[("scales",.dat (il I.n I.sc)),("columns",.dat (.list (rl I.n λj=>av (I.Q1 j I.m))))]
abbrev dQ(I:m8)(u v:List c6):List (Str×PF):=[("scales",.dat (il I.n I.sc)),("columns",.dat (.list (rl I.n λj=>av (I.Q1 j I.m)))),("multiples",.own u),("weights",.own v)]
theorem mR(H:v5 I D E F){t:Nat}(ht:t<3)(w:Option Addr)(u v:List c6)(hu:u.length<1000)(hv:v.length<1000)(x3 x4:Option PV):∃y3 y4,W9 [some (.ob w (.ins "Table" (dQ I u v))),some (.dat I.m3),iD (t:Int),x3,x4]=some (.next [some (.ob w (.ins "Table" (dQ I (u++[.int (I.mu t)]) (v++[il I.n (I.wt t)])))),some (.dat I.m3),iD (t:Int),y3,y4]):=by
 refine⟨some (.dat (.list (rl I.n λj=>fr (I.wq t j)))),iD (I.mu t),?_⟩
 delta W9;have s1:i7 3 (m9 (D7 cD (c5 (b9 1) (c5 (F6 "Table" 0 "scales") c8))) (N7 2) m6 P1) [some (.ob w (.ins "Table" (dQ I u v))),some (.dat I.m3),iD (t:Int),x3,x4]=some (.next [some (.ob w (.ins "Table" (dQ I u v))),some (.dat I.m3),iD (t:Int),some (.dat (.list (rl I.n λj=>fr (I.wq t j)))),x4]):=by
  have e0:F6 "Table" 0 "scales" [some (.ob w (.ins "Table" (dQ I u v))),some (.dat I.m3),iD (t:Int),x3,x4]=some (.dat (il I.n I.sc)):=kY rfl oM;have e1:m9 (D7 cD (c5 (b9 1) (c5 (F6 "Table" 0 "scales") c8))) (N7 2) m6 P1 [some (.ob w (.ins "Table" (dQ I u v))),some (.dat I.m3),iD (t:Int),x3,x4]=some (.own (rl I.n λj=>fr (I.wq t j))):=by
   walk_at "r";rw[e0];walk_at "r";rw[jd];walk_at "r";rw[c7 (R7 H.n1),B7 (g:=λj=>fr (I.wq t j)) λj hj=>⟨_,.dat (fr (I.wq t j)),rfl,by
    delta P1;walk_at "r";rw[VU _ ht];walk_at "r";rw[Ie (p:=O5 (I.cost j) t) (q:=(I.sc j,1)) (H.cost t j ht hj).1 (ix (H.sc hj).2.2.1 (by decide)) (by decide)]
    rfl,rfl⟩]
   walk_at "r"
  rw[T8,e1];rfl
 rw[j7,s1,j0];have s2:i7 4 (g0 E9 (c5 (m9 (L8 (b9 3)) m7 m6 W8) c8)) [some (.ob w (.ins "Table" (dQ I u v))),some (.dat I.m3),iD (t:Int),some (.dat (.list (rl I.n λj=>fr (I.wq t j)))),x4]=some (.next [some (.ob w (.ins "Table" (dQ I u v))),some (.dat I.m3),iD (t:Int),some (.dat (.list (rl I.n λj=>fr (I.wq t j)))),iD (I.mu t)]):=by
  walk_at "r";rw[c7 (R7 H.n1),B7 (g:=λj=>.int (I.wq t j).2) λj hj=>⟨_,.dat (.int (I.wq t j).2),rfl,by delta W8;walk_at "r",rfl⟩]
  walk_at "r";have e:(rl I.n λj=>ao (I.wq t j).2)=((A4 I.n).map λj=>(I.wq t j).2).map ao:=by rw[eU];rfl
  rw[e,jR H.e0 (H.eb.mono (by decide)) λx hx=>by obtain⟨p,hp,rfl⟩:=mem_map.mp hx;have:=H.wq ht (mem_range.mp hp);exact⟨this.1.pos,this.2⟩]
  rfl
 rw[j7,s2,j0];rw[j7,Ew (fs:=dQ I u v) (pv:=.dat (.int (I.mu t))) (l:=u) rfl (by rw[du (by decide +kernel),du (by decide +kernel),oM]) (by lia) rfl,j0]
 rw[show F7 "multiples" (.own (u++[(PV.dat (.int (I.mu t))).d])) (dQ I u v)=dQ I (u++[.int (I.mu t)]) v from by rw[put2 (by decide +kernel),put2 (by decide +kernel),UW];rfl]
 have e3:m9 (L8 (b9 3)) m7 m6 W7 [some (.ob w (.ins "Table" (dQ I (u++[.int (I.mu t)]) v))),some (.dat I.m3),iD (t:Int),some (.dat (.list (rl I.n λj=>fr (I.wq t j)))),iD (I.mu t)]=some (.own (rl I.n λj=>.int (I.wt t j))):=by
  walk_at "r";rw[c7 (R7 H.n1),B7 (g:=λj=>.int (I.wt t j)) λj hj=>⟨_,.dat (.int (I.wt t j)),rfl,by delta W7;walk_at "r";exact oo ((H.wq ht hj).1.bt.mono (by decide)) ((H.wq ht hj).1.bb.mono (by decide)) (by have:=(H.wq ht hj).1.pos;lia) ((H.mu ht).2.2.1.mono (by decide)),rfl⟩]
  walk_at "r"
 simp only[W5];rw[Ew (fs:=dQ I (u++[.int (I.mu t)]) v) (pv:=.own (rl I.n λj=>.int (I.wt t j))) (l:=v) rfl (by rw[du (by decide +kernel),du (by decide +kernel),du (by decide +kernel),oM]) (by lia) e3]
 rw[show F7 "weights" (.own (v++[(PV.own (rl I.n λj=>.int (I.wt t j))).d])) (dQ I (u++[.int (I.mu t)]) v)=dQ I (u++[.int (I.mu t)]) (v++[il I.n (I.wt t)])from by rw[put2 (by decide +kernel),put2 (by decide +kernel),put2 (by decide +kernel),UW];rfl]
 rfl
theorem FN(H:v5 I D E F):T4 [.ob none (.ins "Table" (Ff I)),.dat I.m3]=some (.dat .none,[some (.ob none (.ins "Table" (dQ I (rl 3 λt=>.int (I.mu t)) (rl 3 λt=>il I.n (I.wt t))))),none]):=by
 refine lj rfl λt=>?_
 generalize hw:(some (t 0):Option Addr)=w;generalize hC:I.m3=C;rw[show((aL t 0 [PV.ob none (.ins "Table" (Ff I)),.dat C]).map some++v9 (5-2) none:Ds)=[some (.ob (some (t 0)) (.ins "Table" (Ff I))),some (.dat C),none,none,none]from rfl,hw]
 rw[j7,X1 (w:=w) (fs:=Ff I) (pv:=.own []) (p:=.own []) rfl (by show(2:Nat)<900;decide) (by show(["scales","columns"]:List Str).contains _=false;decide +kernel) rfl rfl,j0]
 simp only[W5,X9,aF];rw[j7,X1 (w:=w) (fs:=[("scales",.dat (il I.n I.sc)),("columns",.dat (.list (rl I.n λj=>av (I.Q1 j I.m)))),("multiples",.own [])]) (pv:=.own []) (p:=.own []) rfl (by show(3:Nat)<900;decide) (by show(["scales","columns","multiples"]:List Str).contains _=false;decide +kernel) rfl rfl,j0]
 simp only[W5,X9,aF];subst hC;obtain⟨a1,a2,h0⟩:=mR H (t:=0) (by decide) w [] [] (by decide) (by decide) none none
 obtain⟨b1,b2,h1⟩:=mR H (t:=1) (by decide) w [.int (I.mu 0)] [il I.n (I.wt 0)] (by show(1:Nat)<1000;decide) (by show(1:Nat)<1000;decide) a1 a2
 obtain⟨c1,c2,h2⟩:=mR H (t:=2) (by decide) w [.int (I.mu 0),.int (I.mu 1)] [il I.n (I.wt 0),il I.n (I.wt 1)] (by show(2:Nat)<1000;decide) (by show(2:Nat)<1000;decide) b1 b2
 delta F8;rw[show L8 (fC dz) [some (.ob w (.ins "Table" (dQ I [] []))),some (.dat I.m3),none,none,none]=some [.int ((0:Nat):Int),.int ((1:Nat):Int),.int ((2:Nat):Int)]from rfl]
 rw[j4];rw[O7 (ds1:=[some (.ob w (.ins "Table" (dQ I [] []))),some (.dat I.m3),iD ((0:Nat):Int),none,none]) rfl h0];rw[O7 (ds1:=[some (.ob w (.ins "Table" (dQ I [.int (I.mu 0)] [il I.n (I.wt 0)]))),some (.dat I.m3),iD ((1:Nat):Int),a1,a2]) rfl h1];rw[O7 (ds1:=[some (.ob w (.ins "Table" (dQ I [.int (I.mu 0),.int (I.mu 1)] [il I.n (I.wt 0),il I.n (I.wt 1)]))),some (.dat I.m3),iD ((2:Nat):Int),b1,b2]) rfl h2];rw[K7,j4];show jP [PV.ob none (.ins "Table" (Ff I)),.dat I.m3] t (.next [some (.ob w (.ins "Table" (dQ I (rl 3 λt=>.int (I.mu t)) (rl 3 λt=>il I.n (I.wt t))))),some (.dat I.m3),_,c1,c2])=_
 rw[<-hw];simp only[jP,J5,A9]
end
end
section
variable{j a m k:Nat}
section
variable{I:m8}{D E F:Int}
abbrev sM(I:m8):List (Str×PF):=dQ I (rl 3 λt=>.int (I.mu t)) (rl 3 λt=>il I.n (I.wt t))
abbrev QE(I:m8):List (Str×PF):=[("scales",.dat (il I.n I.sc)),("columns",.dat (.list (rl I.n λj=>av (I.Q1 j I.m)))),("multiples",.own (rl 3 λt=>.int (I.mu t))),("weights",.own (rl 3 λt=>il I.n (I.wt t))),("unit",.dat (.int I.un))]
abbrev QF(I:m8):List (Str×PF):=[("scales",.dat (il I.n I.sc)),("columns",.dat (.list (rl I.n λj=>av (I.Q1 j I.m)))),("multiples",.own (rl 3 λt=>.int (I.mu t))),("weights",.own (rl 3 λt=>il I.n (I.wt t))),("unit",.dat (.int I.un)),("rights",.own (rl I.m λp=>.int (I.b p)))]
abbrev Wh(I:m8):List (Str×PF):=[("scales",.dat (il I.n I.sc)),("columns",.dat (.list (rl I.n λj=>av (I.Q1 j I.m)))),("multiples",.own (rl 3 λt=>.int (I.mu t))),("weights",.own (rl 3 λt=>il I.n (I.wt t))),("unit",.dat (.int I.un)),("rights",.own (rl I.m λp=>.int (I.b p))),("limits",.dat (.list (rl I.n λj=>Z8 (I.lim j))))]
theorem VA(H:v5 I D E F)(hj:j<I.n):l7 900 (1,I.sc j):=by obtain⟨s1,s2,s3,s4⟩:=H.sc hj;exact⟨s1,by show n9 1 _=1;simp,⟨by show(1:Int).natAbs<2 ^ 900;exact Ls (by decide)⟩,s3⟩
theorem KC(k:Nat)(h:Nat->Option Q2)(ds:Ds):D6 m7 F9 G4 ds (rl k λj=>o2 (h j))=some (((A4 k).filterMap λj=>(h j).map (·.2)).map .int):=by
 have key:∀l:List Nat,D6 m7 F9 G4 ds (l.map λj=>o2 (h j))=some ((l.filterMap λj=>(h j).map (·.2)).map .int):=by
  intro l;induction l with
  |nil=>rfl
  |cons j l ih =>
   rw[o6];unfold D6;simp only[m7,j4];have e1:F9 (L4 [o2 (h j)]++ds)=some (h j).isSome:=by unfold F9;walk_at "r";cases h j<;>rfl
   rw[e1,j4,wB];cases hj:h j with
   |none =>
    rw[e9 (by simp)]
    exact ih
   |some q =>
    rw[c7 (by simp)]
    have e2:G4 (L4 [o2 (some q)]++ds)=some (.dat (.int q.2)):=by unfold G4;simp only[o2];walk_at "r"
    rw[e2,j4,ih];rfl
 exact key _
theorem JG(H:v5 I D E F):V8 [.ob none (.ins "Table" (sM I)),.dat I.o7,.dat I.t6]=some (.dat .none,[some (.ob none (.ins "Table" (Wh I))),none,none]):=by
 refine lj rfl λt=>?_
 obtain⟨u1,u2,u3,u4,u5⟩:=H.un;generalize hw:(some (t 0):Option Addr)=w;rw[show((aL t 0 [PV.ob none (.ins "Table" (sM I)),.dat I.o7,.dat I.t6]).map some++v9 (5-3) none:Ds)=[some (.ob (some (t 0)) (.ins "Table" (sM I))),some (.dat I.o7),some (.dat I.t6),none,none]from rfl,hw]
 have s1:m9 (D7 cD (c5 (b9 2) (c5 (F6 "Table" 0 "scales") c8))) (N7 2) m6 Y4 [some (.ob w (.ins "Table" (sM I))),some (.dat I.o7),some (.dat I.t6),none,none]=some (.own (rl I.n λj=>o2 (I.hq j))):=by
  have e0:F6 "Table" 0 "scales" [some (.ob w (.ins "Table" (sM I))),some (.dat I.o7),some (.dat I.t6),none,none]=some (.dat (il I.n I.sc)):=kY rfl oM;walk_at "r";rw[e0];walk_at "r";rw[jd];walk_at "r";rw[c7 (R7 H.n1),B7 (g:=λj=>o2 (I.hq j)) λj hj=>⟨_,.dat (o2 (I.hq j)),rfl,by
   delta Y4;walk_at "r";delta m8.hq;cases hq:I.tp j with
   |none=>rfl
   |some q =>
    simp only[aG,M6,o2,jC];rw[Ie (p:=q) (q:=(1,I.sc j)) (H.tp j q hj hq).1 (VA H hj) (by decide)],rfl⟩]
  walk_at "r"
 rw[j7,T8,s1];simp only[mC,j0,PV.ku,rh,W5];have s2:c9 v8 (m9 (L8 (b9 1)) m7 m6 Y3) (m9 (L8 (b9 3)) m7 F9 G4) [some (.ob w (.ins "Table" (sM I))),some (.dat I.o7),some (.dat I.t6),some (.dat (.list (rl I.n λj=>o2 (I.hq j)))),none]=some (.own (I.lB.map .int)):=by
  walk_at "r";rw[c7 (R7 H.m1),B7 (g:=λp=>.int (I.rg p).2) λp hp=>⟨_,.dat (.int (I.rg p).2),rfl,by delta Y3;walk_at "r",rfl⟩]
  walk_at "r";rw[c7 (R7 H.n1),KC];walk_at "r";rw[qI (by
   rw[B2,N9];have:=List.length_filterMap_le (λj=>(I.hq j).map (·.2)) (A4 I.n)
   rw[nX]at this;have:=H.m1;have:=H.n1;lia)]
  delta m8.lB;rw[gQ,eU];rfl
 rw[j7,T8,s2];simp only[mC,j0,PV.ku,rh,W5];have s3:g0 E9 (c5 (b9 4) c8) [some (.ob w (.ins "Table" (sM I))),some (.dat I.o7),some (.dat I.t6),some (.dat (.list (rl I.n λj=>o2 (I.hq j)))),some (.dat (.list (I.lB.map .int)))]=some (.dat (.int I.un)):=by
  walk_at "r";rw[jR H.f0 (H.fb.mono (by decide)) H.KO]
  rfl
 rw[j7,X1 (w:=w) (fs:=sM I) (p:=.dat (.int I.un)) rfl (by show(4:Nat)<900;decide) (by show(["scales","columns","multiples","weights"]:List Str).contains _=false;decide +kernel) s3 rfl,j0]
 simp only[W5,X9,aF];have s4:m9 (L8 (b9 1)) m7 m6 Y2 [some (.ob w (.ins "Table" (QE I))),some (.dat I.o7),some (.dat I.t6),some (.dat (.list (rl I.n λj=>o2 (I.hq j)))),some (.dat (.list (I.lB.map .int)))]=some (.own (rl I.m λp=>.int (I.b p))):=by
  walk_at "r";rw[c7 (R7 H.m1),B7 (g:=λp=>.int (I.b p)) λp hp=>⟨_,.dat (.int (I.b p)),rfl,by
   delta Y2;have e0:F6 "Table" 1 "unit" (L4 [fr (I.rg p)]++[some (.ob w (.ins "Table" (QE I))),some (.dat I.o7),some (.dat I.t6),some (.dat (.list (rl I.n λj=>o2 (I.hq j)))),some (.dat (.list (I.lB.map .int)))])=some (.dat (.int I.un)):=kY (w:=w) (fs:=QE I) rfl (by rw[du (by decide +kernel),du (by decide +kernel),du (by decide +kernel),du (by decide +kernel),oM])
   simp only[g0,c5,c8];rw[e0];walk_at "r";rw[oo ((H.rg p hp).1.bt.mono (by decide)) ((H.rg p hp).1.bb.mono (by decide)) (by have:=(H.rg p hp).1.pos;lia) (u3.mono (by decide))]
   rfl,rfl⟩]
  walk_at "r"
 rw[j7,X1 (w:=w) (fs:=QE I) (p:=.own (rl I.m λp=>.int (I.b p))) rfl (by show(5:Nat)<900;decide) (by show(["scales","columns","multiples","weights","unit"]:List Str).contains _=false;decide +kernel) s4 rfl,j0]
 simp only[W5,X9,aF];have s5:m9 (L8 (b9 3)) m7 m6 Y1 [some (.ob w (.ins "Table" (QF I))),some (.dat I.o7),some (.dat I.t6),some (.dat (.list (rl I.n λj=>o2 (I.hq j)))),some (.dat (.list (I.lB.map .int)))]=some (.own (rl I.n λj=>Z8 (I.lim j))):=by
  walk_at "r";rw[c7 (R7 H.n1),B7 (g:=λj=>Z8 (I.lim j)) λj hj=>⟨_,.dat (Z8 (I.lim j)),rfl,by
   delta Y1;have e0:F6 "Table" 1 "unit" (L4 [o2 (I.hq j)]++[some (.ob w (.ins "Table" (QF I))),some (.dat I.o7),some (.dat I.t6),some (.dat (.list (rl I.n λj=>o2 (I.hq j)))),some (.dat (.list (I.lB.map .int)))])=some (.dat (.int I.un)):=kY (w:=w) (fs:=QF I) rfl (by rw[du (by decide +kernel),du (by decide +kernel),du (by decide +kernel),du (by decide +kernel),oM])
   simp only[g0,c5,c8,jl];rw[e0];walk_at "r";delta m8.lim;cases hq:I.hq j with
   |none=>rfl
   |some q =>
    simp only[aG,M6,o2,jC,Z8];rw[oo ((H.hq hj hq).1.bt.mono (by decide)) ((H.hq hj hq).1.bb.mono (by decide)) (by have:=(H.hq hj hq).1.pos;lia) (u3.mono (by decide))],rfl⟩]
  walk_at "r"
 rw[X1 (w:=w) (fs:=QF I) (p:=.dat (.list (rl I.n λj=>Z8 (I.lim j)))) rfl (by show(6:Nat)<900;decide) (by show(["scales","columns","multiples","weights","unit","rights"]:List Str).contains _=false;decide +kernel) s5 rfl,j4]
 simp only[W5,X9,aF];rw[<-hw];simp only[jP,J5,A9]
theorem ig{i:Nat}{Fk Fv:Ds->Option PV}{ds:Ds}{pv:PV}{l:List c6}(h:ds[i]? = some (some (.own l)))(hv:Fv ds=some pv)(hk:Fk ds=some (.dat (.int (a:Int))))(ha:a<l.length):S6 i Fk Fv ds=some (.next (ds.set i (some (.own (l.set a pv.d))))):=by delta S6;rw[hv,j4,hk,j4,h];simp only[PV.gF,kJ ha,j4]
theorem De(hm:m<=1000)(hk:k<m):gR [.int (m:Int),.int (k:Int)]=some (.own (rl m λq=>.int (if k=q then 1 else 0))):=by
 have e1:R8 2 (c9 mB (K9 (c5 (fC (.int 0)) c8)) (b9 0)) [iD (m:Int),iD (k:Int),none]=some (.next [iD (m:Int),iD (k:Int),some (.own (rl m λ_=>.int 0))]):=by walk_at "r";rw[xh _ hm];rfl
 have e2:=ig (i:=2) (a:=k) (Fk:=b9 1) (Fv:=fC (.int 1)) (ds:=[iD (m:Int),iD (k:Int),some (.own (rl m λ_=>.int 0))]) (pv:=.dat (.int 1)) rfl rfl rfl (by rw[B2];exact hk)
 rw[gw]at e2;delta gR;delta D2;rw[c7 (show([.int (m:Int),.int (k:Int)]:List c6).length=2 from rfl)]
 rw[show(L4 [.int (m:Int),.int (k:Int)]++v9 (3-2) none:Ds)=[iD (m:Int),iD (k:Int),none]from rfl]
 rw[j7,e1,j0,j7,e2,j0];have e:(rl m λq=>if q=k then(PV.dat (ao 1)).d else ao 0)=rl m λq=>.int (if k=q then 1 else 0):=X0 λq _=>by
  by_cases c:q=k
  . rw[c7 c,c7 c.symm];rfl
  . rw[e9 c,e9 λz=>c z.symm]
 rw[e];rfl
end
end
section
variable{I:m8}{D E F:Int}
abbrev Ke(I:m8):List (Str×PF):=[("scales",.dat (il I.n I.sc)),("columns",.dat (.list (rl I.n λj=>av (I.Q1 j I.m)))),("multiples",.own (rl 3 λt=>.int (I.mu t))),("weights",.own (rl 3 λt=>il I.n (I.wt t))),("unit",.dat (.int I.un)),("rights",.own (rl I.m λp=>.int (I.b p))),("limits",.dat (.list (rl I.n λj=>Z8 (I.lim j)))),("chosen",.own (rl I.m λk=>.int (I.fs k:Int))),("full",.own (rl I.n λ_=>.bool false)),("size",.dat (.int 1)),("inverse",.dat (.list (rl I.m λk=>il I.m λq=>if k=q then 1 else 0)))]
abbrev Qq:List Str:=["scales","columns","multiples","weights","unit","rights","limits","chosen","full","size","inverse"]
abbrev lP(I:m8):List c6:=[il I.n I.sc,.list (rl I.n λj=>av (I.Q1 j I.m)),.list (rl 3 λt=>.int (I.mu t)),.list (rl 3 λt=>il I.n (I.wt t)),.int I.un,.list (rl I.m λp=>.int (I.b p)),.list (rl I.n λj=>Z8 (I.lim j)),.list (rl I.m λk=>.int (I.fs k:Int)),.list (rl I.n λ_=>.bool false),.int 1,.list (rl I.m λk=>il I.m λq=>if k=q then 1 else 0)]
def xb(I:m8):c6:=(OD.ins "Table" (Ke I)).d
theorem Vd(I:m8):xb I=qw "Table" Qq (lP I):=rfl
theorem xq(I:m8):rV "Table" (xb I)=some (Qq.map .str,lP I):=by rw[Vd];exact JV _ _ _
theorem Gr(I:m8):Q4 "Table" "chosen" (xb I)=some (.list (rl I.m λk=>.int (I.fs k:Int))):=by delta Q4;rw[xq,j4];simp only[o6,N8,E8];walk_at "f"
theorem Dh(I:m8):Q4 "Table" "weights" (xb I)=some (.list (rl 3 λt=>il I.n (I.wt t))):=by delta Q4;rw[xq,j4];simp only[o6,N8,E8];walk_at "f"
theorem Vc(I:m8):E8 "first_prices" (Qq.map .str) (lP I)=none:=by simp only[o6,N8,E8];walk_at "f"
theorem vi(H:v5 I D E F){t:Nat}(ht:t<3):E6 [xb I,.int (t:Int)]=some (.own (rl I.m λk=>.int (I.wt t (I.fs k)))):=by
 delta E6;walk_at "v";rw[Gr];walk_at "r";rw[c7 (R7 H.m1),B7 (g:=λk=>.int (I.wt t (I.fs k))) λk hk=>⟨_,.dat (.int (I.wt t (I.fs k))),rfl,by delta aS;walk_at "v";rw[Dh];walk_at "r";rw[A3 _ ht];walk_at "r";rw[A3 _ (H.fs k hk)];walk_at "r",rfl⟩]
 rfl
theorem Ar(n:Nat)(f:Nat->Int):pO (rl n λk=>.int (f k))=true:=by
 have:∀l:List Nat,pO (l.map λk=>ao (f k))=true:=by
  intro l;induction l with
  |nil=>rfl
  |cons x l ih=>rw[o6,pO,ih];rfl
 exact this _
theorem SR(H:v5 I D E F):Z3 [.ob none (.ins "Table" []),.dat I.m3,.dat I.p5,.dat I.o7,.dat I.t6,.dat I.D4]=some (.dat .none,[some (.ob none (n8 I.A0 I.tab)),none,none,none,none,none]):=by
 refine lj rfl λt=>?_
 generalize hw:(some (t 0):Option Addr)=w;rw[show((aL t 0 [PV.ob none (.ins "Table" []),.dat I.m3,.dat I.p5,.dat I.o7,.dat I.t6,.dat I.D4]).map some++v9 (6-6) none:Ds)=[some (.ob (some (t 0)) (.ins "Table" [])),some (.dat I.m3),some (.dat I.p5),some (.dat I.o7),some (.dat I.t6),some (.dat I.D4)]from rfl,hw]
 have s1:m9 (D7 I0 (c5 (g0 J9 (c5 (b9 1) c8)) c8)) m7 m6 bX [some (.ob w (.ins "Table" [])),some (.dat I.m3),some (.dat I.p5),some (.dat I.o7),some (.dat I.t6),some (.dat I.D4)]=some (.own (rl I.n λj=>.int (I.sc j))):=by
  walk_at "r";rw[B2,C8 (by have:=H.n1;lia),J8,ni]
  walk_at "r";rw[c7 (R7 H.n1),B7 (g:=λj=>.int (I.sc j)) λj hj=>⟨_,.dat (.int (I.sc j)),rfl,by delta bX;walk_at "r";exact MP H hj,rfl⟩]
  walk_at "r"
 rw[j7,X1 (w:=w) (fs:=[]) (p:=.dat (il I.n I.sc)) rfl (by show(0:Nat)<900;decide) (by show([]:List Str).contains _=false;decide +kernel) s1 rfl,j0]
 simp only[W5,X9,aF];have s2:m9 (D7 kq (c5 (F6 "Table" 0 "scales") c8)) (N7 2) m6 bW [some (.ob w (.ins "Table" [("scales",.dat (il I.n I.sc))])),some (.dat I.m3),some (.dat I.p5),some (.dat I.o7),some (.dat I.t6),some (.dat I.D4)]=some (.own (rl I.n λj=>av (I.Q1 j I.m))):=by
  have e0:F6 "Table" 0 "scales" [some (.ob w (.ins "Table" [("scales",.dat (il I.n I.sc))])),some (.dat I.m3),some (.dat I.p5),some (.dat I.o7),some (.dat I.t6),some (.dat I.D4)]=some (.dat (il I.n I.sc)):=kY rfl oM;walk_at "r";rw[e0];walk_at "r";rw[rZ,c7 (R7 H.n1),B7 (g:=λj=>av (I.Q1 j I.m)) λj hj=>⟨_,.own ((I.Q1 j I.m).map λe=>.tuple [.int (e.1:Int),.int e.2]),rfl,by delta bW;walk_at "r";rw[J2];exact KD H hj,rfl⟩]
  walk_at "r"
 rw[j7,X1 (w:=w) (fs:=[("scales",.dat (il I.n I.sc))]) (p:=.dat (.list (rl I.n λj=>av (I.Q1 j I.m)))) rfl (by show(1:Nat)<900;decide) (by show(["scales"]:List Str).contains _=false;decide +kernel) s2 rfl,j0]
 simp only[W5,X9,aF];rw[j7,J1,yk (w:=w) (fs:=Ff I) (xs:=[I.m3]) (c':=.ins "Table" (sM I)) (r:=[none]) rfl (by show(["scales","columns"]:List Str).contains _=false;decide +kernel) rfl (FN H),j4,j0]
 simp only[W5];rw[j7,J1,yk (w:=w) (fs:=sM I) (xs:=[I.o7,I.t6]) (c':=.ins "Table" (Wh I)) (r:=[none,none]) rfl (by show(["scales","columns","multiples","weights"]:List Str).contains _=false;decide +kernel) rfl (JG H),j4,j0]
 simp only[W5];rw[j7,X1 (w:=w) (fs:=Wh I) (pv:=.own (rl I.m λk=>.int (I.fs k:Int))) (p:=.own (rl I.m λk=>.int (I.fs k:Int))) rfl (by show(7:Nat)<900;decide) (by show(["scales","columns","multiples","weights","unit","rights","limits"]:List Str).contains _=false;decide +kernel) rfl rfl,j0]
 simp only[W5,X9,aF];rw[j7,X1 (w:=w) (pv:=.own (rl I.n λ_=>.bool false)) (p:=.own (rl I.n λ_=>.bool false)) (fs:=[("scales",.dat (il I.n I.sc)),("columns",.dat (.list (rl I.n λj=>av (I.Q1 j I.m)))),("multiples",.own (rl 3 λt=>.int (I.mu t))),("weights",.own (rl 3 λt=>il I.n (I.wt t))),("unit",.dat (.int I.un)),("rights",.own (rl I.m λp=>.int (I.b p))),("limits",.dat (.list (rl I.n λj=>Z8 (I.lim j)))),("chosen",.own (rl I.m λk=>.int (I.fs k:Int)))]) rfl (by show(8:Nat)<900;decide) (by show(["scales","columns","multiples","weights","unit","rights","limits","chosen"]:List Str).contains _=false;decide +kernel) (by walk_at "r";rw[B2,xh _ H.n1]) rfl,j0]
 simp only[W5,X9,aF];rw[j7,X1 (w:=w) (pv:=.dat (.int 1)) (p:=.dat (.int 1)) (fs:=[("scales",.dat (il I.n I.sc)),("columns",.dat (.list (rl I.n λj=>av (I.Q1 j I.m)))),("multiples",.own (rl 3 λt=>.int (I.mu t))),("weights",.own (rl 3 λt=>il I.n (I.wt t))),("unit",.dat (.int I.un)),("rights",.own (rl I.m λp=>.int (I.b p))),("limits",.dat (.list (rl I.n λj=>Z8 (I.lim j)))),("chosen",.own (rl I.m λk=>.int (I.fs k:Int))),("full",.own (rl I.n λ_=>.bool false))]) rfl (by show(9:Nat)<900;decide) (by show(["scales","columns","multiples","weights","unit","rights","limits","chosen","full"]:List Str).contains _=false;decide +kernel) rfl rfl,j0]
 simp only[W5,X9,aF];rw[j7,X1 (w:=w) (pv:=.own (rl I.m λk=>il I.m λq=>if k=q then 1 else 0)) (p:=.dat (.list (rl I.m λk=>il I.m λq=>if k=q then 1 else 0))) (fs:=[("scales",.dat (il I.n I.sc)),("columns",.dat (.list (rl I.n λj=>av (I.Q1 j I.m)))),("multiples",.own (rl 3 λt=>.int (I.mu t))),("weights",.own (rl 3 λt=>il I.n (I.wt t))),("unit",.dat (.int I.un)),("rights",.own (rl I.m λp=>.int (I.b p))),("limits",.dat (.list (rl I.n λj=>Z8 (I.lim j)))),("chosen",.own (rl I.m λk=>.int (I.fs k:Int))),("full",.own (rl I.n λ_=>.bool false)),("size",.dat (.int 1))]) rfl (by show(10:Nat)<900;decide) (by show(["scales","columns","multiples","weights","unit","rights","limits","chosen","full","size"]:List Str).contains _=false;decide +kernel) (by
  walk_at "r";rw[B2,C8 (by have:=H.m1;lia),J8,ni]
  walk_at "r";rw[c7 (R7 H.m1),B7 (g:=λk=>il I.m λq=>if k=q then 1 else 0) λk hk=>⟨_,.own (rl I.m λq=>.int (if k=q then 1 else 0)),rfl,by delta fN;walk_at "r";rw[B2];exact De H.m1 hk,rfl⟩]
  walk_at "r") rfl,j0]
 simp only[W5,X9,aF];rw[X1 (w:=w) (fs:=Ke I) (pv:=.own (rl 3 λt=>il I.m λk=>I.wt t (I.fs k))) (p:=.own (rl 3 λt=>il I.m λk=>I.wt t (I.fs k))) rfl (by show(11:Nat)<900;decide) (by show Qq.contains _=false;decide +kernel) (by
  delta m9;rw[show L8 (fC dz) _=some (rl 3 λi=>.int (i:Int))from rfl,j4]
  rw[c7 (R7 (by decide)),B7 (g:=λt=>il I.m λk=>I.wt t (I.fs k)) λt' ht=>⟨_,.own (rl I.m λk=>.int (I.wt t' (I.fs k))),rfl,by
   delta fM T9;have e:K4 "Table" "first_prices" E6 (K8 1) (c5 (b9 0) c8) (L4 [.int (t':Int)]++[some (.ob w (.ins "Table" (Ke I))),some (.dat I.m3),some (.dat I.p5),some (.dat I.o7),some (.dat I.t6),some (.dat I.D4)])=some (.own (rl I.m λk=>.int (I.wt t' (I.fs k)))):=by
    delta K4;rw[show K8 1 (L4 [.int (t':Int)]++[some (.ob w (.ins "Table" (Ke I))),some (.dat I.m3),some (.dat I.p5),some (.dat I.o7),some (.dat I.t6),some (.dat I.D4)])=some (.dat (xb I))from rfl,j4,PV.gF,xq,j4]
    simp only[Vc];rw[show c5 (b9 0) c8 (L4 [.int (t':Int)]++[some (.ob w (.ins "Table" (Ke I))),some (.dat I.m3),some (.dat I.p5),some (.dat I.o7),some (.dat I.t6),some (.dat I.D4)])=some [.int (t':Int)]from rfl,j4]
    exact vi H ht
   rw[e,j4];simp only[Ar,A9],rfl⟩]
  rfl) rfl,j4]
 simp only[W5,X9,aF];rw[<-hw];simp only[jP,J5,A9];rfl
end
section
variable{e m k:Nat}
open Sx (sN pN sm det v7 dot)
theorem Jb{x y k:Nat}(hx:1<=x)(hy:1<=y):∀(n:Nat) (f:Nat->Nat),(∀i,i<n->i≠k->f i<=x)->(k<n->f k<=y)->pN n f<=x ^ n*y
 | 0,f,_,_=>by rw[pN,Nat.pow_zero];lia
 |n+1,f,h1,h2=>by
  rw[pN];have px:1<=x ^ n:=vC hx;by_cases c:n=k
  . have a:pN n f<=x ^ n:=by
      have:∀m,m<=n->pN m f<=x ^ m:=by
       intro m;induction m with
       |zero=>intro _;rw[pN,Nat.pow_zero];lia
       |succ m ih =>
        intro hm;rw[pN,qQ];exact vO (ih (by lia)) (h1 m (by lia) (by lia))
      exact this n (o3 _)
    have b:f n<=y:=by rw[c];exact h2 (by lia)
    have e:x ^ n*y<=x ^ (n+1)*y:=pk _ (by rw[qQ];exact Nat.le_mul_of_pos_right _ hx)
    exact P5 (vO a b) e
  . have a:=Jb hx hy n f (λi hi=>h1 i (by lia)) λz=>h2 (by lia)
    have b:=h1 n (by lia) c
    calc pN n f*f n<=(x ^ n*y)*x:=vO a b
     _=x ^ (n+1)*y:=by rw[qQ,BQ,BQ,nQ y x]
theorem ur:∀{n:Nat} {f:Nat->Nat},n<=1000->(∀i,i<n->f i<2 ^ e)->sN n f<2 ^ (e+10):=by
 intro n f hn h;have:∀m,m<=n->sN m f<=m*2 ^ e:=by
  intro m;induction m with
  |zero=>intro _;rw[sN];lia
  |succ m ih =>
   intro hm;have:=ih (by lia)
   have:=h m (by lia)
   rw[sN,Nat.succ_mul];lia
 have:=this n (o3 _);have p:0<2 ^ e:=vC (by decide)
 have q:n*2 ^ e<=1000*2 ^ e:=pk _ hn;rw[BI];have:2 ^ e*2 ^ 10=1024*2 ^ e:=by rw[nQ]
 lia
theorem Bt.sm{e n:Nat}{f:Nat->Int}(hn:n<=1000)(h:∀i,i<n->Bt e (f i)):Bt (e+10) (Sx.sm n f):=⟨Cz (Sx.Iq n f) (ur hn λi hi=>(h i hi).lt)⟩
theorem xF{c d:Nat}{M:Nat->Nat->Int}(h1:∀i,i<m->i≠k->sN m (λr=>(M i r).natAbs)<=2 ^ c)(h2:k<m->sN m (λr=>(M k r).natAbs)<=2 ^ d):Bt (c*m+d+1) (det m M):=⟨by
 have h:=P5 (Sx.yG m M) (Jb (k:=k) (x:=2 ^ c) (y:=2 ^ d) (vC (by decide)) (vC (by decide)) m (λi=>sN m λr=>(M i r).natAbs) h1 h2)
 rw[<-Nat.pow_mul,<-BI]at h;exact Cz h (LJ (by decide) (by lia))⟩
theorem Bt.sign{s x y:Int}(hs:s=1\/s = -1)(h:s*x=y)(b:Bt e y):Bt e x:=b.of_le (by rw[<-h];rcases hs with rfl|rfl<;>lia)
structure Small(Q:K6)(b:Nat->Int)(c:Nat):Prop where
 m1:Q.m<=1000
 n1:Q.n<=1000
 c1:c*Q.m<=2000
 c2:c<=1000
 cn:∀j,j<Q.n->sN Q.m (λp=>(D9 (Q.col j) p).natAbs)<=2 ^ c
 cl:∀j,j<Q.n->(Q.col j).length<=1000
 cb:∀j,j<Q.n->∀e∈Q.col j,e.1<Q.m/\Bt 7000 e.2
 wb:∀t j,t<3->j<Q.n->Bt 2600 (Q.wt t j)
 w0:∀t j,3<=t->Q.wt t j=0
 lb:∀j v,j<Q.n->Q.lim j=some v->Bt 2600 v/\0<=v
 bb:∀p,p<Q.m->Bt 2600 (b p)
section
variable{Q:K6}{T:Sx.Tb}{b:Nat->Int}{c:Nat}
theorem WU{n:Nat}{f:Nat->Nat}{i:Nat}(h:i<n):f i<=sN n f:=by
 induction n with
 |zero=>lia
 |succ n ih =>
  rw[sN];by_cases z:i=n
  . rw[z];lia
  . have:=ih (by lia);lia
theorem Small.col(S:Small Q b c){j p:Nat}(hj:j<Q.n)(hp:p<Q.m):Bt (c+1) (D9 (Q.col j) p):=⟨by
 have h1:=S.cn j hj;have h2:=WU (f:=λp=>(D9 (Q.col j) p).natAbs) hp
 have:2 ^ c<2 ^ (c+1):=LJ (by decide) (by lia)
 lia⟩
theorem Small.det(S:Small Q b c)(L:Sx.H9 (Q.pb b) T){d:Nat}(hk:k<Q.m){x:Nat->Int}(hx:sN Q.m (λr=>(x r).natAbs)<=2 ^ d):Bt (c*Q.m+d+1) (dot Q.m (T.inv k) x):=by
 obtain⟨s,h1,h2,h3⟩:=L.sg;refine Bt.sign h1 (h3 k hk x) (xF (k:=k) (λi hi hik=>?_) λ_=>?_)
 . rw[show(λr=>(v7 (T.M (Q.pb b)) k x i r).natAbs)=λr=>(D9 (Q.col (T.B i)) r).natAbs from by funext r;rw[Sx.V1 _ _ _ hik];rfl]
   exact S.cn _ (L.bn i hi)
 . rw[show(λr=>(v7 (T.M (Q.pb b)) k x k r).natAbs)=λr=>(x r).natAbs from by funext r;rw[Sx.Z5]]
   exact hx
theorem Small.tab(S:Small Q b c)(K:Sx.Ok (Q.pb b) T):X5 Q T:=by
 have L:=K.u6;have c1:=S.c1;have c2:=S.c2;have size:Bt 2001 T.size:=by
  obtain⟨s,h1,h2,h3⟩:=L.sg;have:=xF (m:=Q.m) (c:=c) (d:=0) (k:=Q.m) (M:=T.M (Q.pb b)) (λi hi _=>S.cn _ (L.bn i hi)) (λz=>by lia)
  exact(Bt.sign h1 h2 this).mono (by lia)
 have inv:∀k q,k<Q.m->q<Q.m->Bt 2012 (T.inv k q):=λk q hk hq=>by
  have h:sN Q.m (λr=>(Sx.unit q r).natAbs)<2 ^ (1+10):=ur S.m1 λi _=>by delta Sx.unit;split<;>decide
  have:=S.det L hk (x:=Sx.unit q) (d:=11) (jy h);rw[Sx.oX _ hq]at this;exact this.mono (by lia)
 have i0:∀a k,a<Q.n->k<Q.m->Bt 3001 (T.i0 (l5 Q) a k):=λa k ha hk=>(S.det L hk (x:=D9 (Q.col a)) (d:=c) (S.cn a ha)).mono (by lia)
 have rt:∀p,p<Q.m->Bt 3612 (T.rt p):=λp hp=>by
  rw[K.rt p hp];have h1:Bt (2600+(c+1)+10) (Sx.fsum (Q.pb b) T λj=>(Q.pb b).A j p):=Bt.sm S.n1 λj hj=>by
   split
   . refine Bt.mul ?_ (S.col hj hp);delta Sx.uv;show Bt 2600 ((Q.lim j).getD 0)
     cases hl:Q.lim j with
     |none=>exact Bt.mono (m:=1) ⟨by decide⟩ (by decide)
     |some v=>exact(S.lb j v hj hl).1
   . exact Bt.mono (m:=1) ⟨by decide⟩ (by lia)
  have h2:=((S.bb p hp).mono (n:=3611) (by decide)).sub (h1.mono (n:=3611) (by lia))
  exact h2
 have am:∀k,k<Q.m->Bt 5623 (T.am (l5 Q) k):=λk hk=>by
  have h:sN Q.m (λr=>(T.rt r).natAbs)<2 ^ (3612+10):=ur S.m1 λp hp=>(rt p hp).lt
  exact(S.det L hk (x:=T.rt) (d:=3622) (jy h)).mono (by lia)
 have pr:∀t q,t<3->q<Q.m->Bt 4622 (T.pr t q):=λt q ht hq=>by rw[L.pr t q hq];exact Bt.sm (e:=4612) S.m1 λk hk=>((S.wb t _ ht (L.bn k hk)).mul (inv k q hk hq)).mono (by decide)
 refine⟨S.m1,S.n1,S.cl,S.cb,λt j ht hj=>(S.wb t j ht hj).mono (by decide),λj v hj hv=>(S.lb j v hj hv).1.mono (by decide),L.bn,λp hp=>(rt p hp).mono (by decide),λk q hk hq=>(inv k q hk hq).mono (by decide),λt q ht hq=>(pr t q ht hq).mono (by decide),size.mono (by decide),L.pos,λk hk=>(am k hk).mono (by decide),λa k ha hk=>(i0 a k ha hk).mono (by decide),λt a ht ha=>?_⟩
 have h1:Bt 4601 (Q.wt t a*T.size):=(S.wb t a ht ha).mul size;have h2:Bt (4622+(c+1)+10) (dot Q.m (T.pr t) (D9 (Q.col a))):=Bt.sm S.m1 λp hp=>(pr t p ht hp).mul (S.col ha hp)
 exact((h1.mono (n:=5633) (by decide)).sub (h2.mono (n:=5633) (by lia))).mono (by decide)
end
end
section
variable{z g v:Int}{a k:Nat}
open Sx (sN pN sm det v7 dot)
section
variable{Q:K6}{T:Sx.Tb}{b:Nat->Int}{c:Nat}
theorem vj{s x:Int}(hs:0<s)(h:s*z=x):s*x.fdiv s=x:=by rw[<-h,LZ _ (by lia)]
theorem Df(S:Small Q b c)(K:Sx.Ok (Q.pb b) T){l:Nat}(hl:l<Q.m):Sx.Bx (Q.pb b) T a l g (P2 Q T a l g):=by
 have L:=K.u6;refine⟨λk hk=>rfl,rfl,λq hq=>?_,λr q hr hq hrl=>?_,λt q hq=>?_⟩
 . show bg Q T a l g l q=_
   delta bg;rw[c7 rfl]
 . show T.size*bg Q T a l g r q=_
   delta bg;rw[e9 hrl];obtain⟨z,hz⟩:=L.exact (a:=a) hl g r q hr hq hrl;exact vj L.pos hz
 . show T.size*(if t<3 then sE Q T a l g t else T.pr t) q=_
   by_cases ct:t<3
   . rw[c7 ct];delta sE;obtain⟨z,hz⟩:=L.Wm (a:=a) hl g t hq;have e:T.pr t q*(g*T.i0 (l5 Q) a l)-(-g*T.rest (l5 Q) t a)*T.inv l q=T.pr t q*(g*T.i0 (Q.pb b) a l)+g*T.rest (Q.pb b) t a*T.inv l q:=by
      show T.pr t q*(g*T.i0 (l5 Q) a l)-(-g*T.rest (l5 Q) t a)*T.inv l q=T.pr t q*(g*T.i0 (l5 Q) a l)+g*T.rest (l5 Q) t a*T.inv l q
      rw[lH,lH];lia
     rw[e];exact vj L.pos hz
   . rw[e9 ct];have w0:∀j,(Q.pb b).c t j=0:=λj=>S.w0 t j (by lia)
     have p0:∀q,q<Q.m->T.pr t q=0:=λq hq=>by rw[L.pr t q hq];exact Sx.fO λk _=>by rw[w0,U6]
     have r0:T.rest (Q.pb b) t a=0:=by
      delta Sx.Tb.rest;rw[w0,U6];have:dot (Q.pb b).m (T.pr t) ((Q.pb b).A a)=0:=Sx.fO λp hp=>by rw[p0 p hp,U6]
      rw[this];rfl
     rw[p0 q hq,r0];simp
theorem flip_flip(hv:Q.lim a=some v):Sx.HN (Q.pb b) T a (iQ Q T a (-(T.sg a*v))):=by
 refine⟨λ_ _=>rfl,rfl,λ_ _ _ _=>rfl,λ_ _ _=>rfl,λj _=>rfl,λp _=>?_⟩
 show T.rt p + -(T.sg a*v)*D9 (Q.col a) p=T.rt p-T.sg a*(Sx.uv (Q.pb b) a*D9 (Q.col a) p)
 have:Sx.uv (Q.pb b) a=v:=by delta Sx.uv;show(Q.lim a).getD 0=v;rw[hv];rfl
 rw[this,lH,G3];lia
theorem T6{a:Nat}{s:Q9}:∀{k:Nat},s∈stI Q T a k↔s∈rF Q a\/∃i,i<k/\s∈stK Q T a i
 | 0=>by
  delta stI;constructor
  . exact .inl
  . rintro(h|⟨i,hi,_⟩)
    . exact h
    . lia
 |k+1=>by
  rw[stI,jD,T6 (k:=k)];constructor
  . rintro((h|⟨i,hi,h⟩)|h)
    . exact .inl h
    . exact .inr ⟨i,by lia,h⟩
    . exact .inr ⟨k,by lia,h⟩
  . rintro(h|⟨i,hi,h⟩)
    . exact .inl (.inl h)
    . by_cases z:i=k
      . rw[z]at h;exact .inr h
      . exact .inl (.inr ⟨i,by lia,h⟩)
theorem fQ{s:Q9}:s∈rF Q a ↔ ∃v,Q.lim a=some v/\s=⟨v,1,a,none,false⟩:=by
 delta rF;cases h:Q.lim a with
 |none=>simp
 |some v=>simp
theorem W3{s:Q9}:s∈stK Q T a k↔(0<T.sg a*T.i0 (l5 Q) a k/\s=⟨T.am (l5 Q) k,T.sg a*T.i0 (l5 Q) a k,T.B k,some k,false⟩)\/(T.sg a*T.i0 (l5 Q) a k<0/\∃v,Q.lim (T.B k)=some v/\s=⟨v*T.size-T.am (l5 Q) k,-(T.sg a*T.i0 (l5 Q) a k),T.B k,some k,true⟩):=by
 delta stK;by_cases c1:0<T.sg a*T.i0 (l5 Q) a k
 . rw[c7 c1];constructor
   . intro h;exact .inl ⟨c1,by simpa using h⟩
   . rintro(⟨_,h⟩|⟨h,_⟩)
     . simpa using h
     . lia
 . rw[e9 c1];by_cases c2:T.sg a*T.i0 (l5 Q) a k<0
   . rw[c7 c2];cases h:Q.lim (T.B k)with
     |none =>
      constructor
      . intro z;simp at z
      . rintro(⟨z,_⟩|⟨_,v,z,_⟩)
        . lia
        . cases z
     |some v =>
      constructor
      . intro z;exact .inr ⟨c2,v,rfl,by simpa using z⟩
      . rintro(⟨z,_⟩|⟨_,v',z,e⟩)
        . lia
        . cases z;simpa using e
   . rw[e9 c2];constructor
     . intro z;simp at z
     . rintro(⟨z,_⟩|⟨z,_⟩)<;>lia
theorem wW{s:Q9}(h:s∈stI Q T a k):0<s.bot:=by
 rcases T6.mp h with h|⟨i,_,h⟩
 . obtain⟨v,_,rfl⟩:=fQ.mp h;exact Int.one_pos
 . rcases W3.mp h with ⟨h',rfl⟩|⟨h',v,_,rfl⟩
   . exact h'
   . show 0 < -(T.sg a*T.i0 (l5 Q) a i)
     lia
theorem Ul(K:X5 Q T)(ha:a<Q.n){s:Q9}(h:s∈stI Q T a Q.m):FJ s:=by
 have sgb:∀x:Int,Bt 7000 x->Bt 7000 (T.sg a*x):=λx hx=>by
  rcases Sx.oB T a with ⟨_,e⟩|⟨_,e⟩<;>rw[e]
  . exact hx.of_le (by lia)
  . exact hx.of_le (by lia)
 refine⟨?_,?_,wW h⟩
 . rcases T6.mp h with h|⟨i,hi,h⟩
   . obtain⟨v,hv,rfl⟩:=fQ.mp h;exact(K.lb a v ha hv).mono (by decide)
   . rcases W3.mp h with ⟨_,rfl⟩|⟨_,v,hv,rfl⟩
     . exact(K.ab i hi).mono (by decide)
     . exact((((K.lb _ v (K.bn i hi) hv).mul K.sb)).sub ((K.ab i hi).mono (by decide))).mono (by decide)
 . rcases T6.mp h with h|⟨i,hi,h⟩
   . obtain⟨v,hv,rfl⟩:=fQ.mp h;exact Bt.mono (m:=1) ⟨by show(1:Int).natAbs<2 ^ 1;decide⟩ (by decide)
   . rcases W3.mp h with ⟨_,rfl⟩|⟨_,v,hv,rfl⟩
     . exact(sgb _ (K.vt a i ha hi)).mono (by decide)
     . exact(sgb _ (K.vt a i ha hi)).neg.mono (by decide)
theorem Rr(S:Small Q b c)(K:Sx.Ok (Q.pb b) T)(ha:a<Q.n){s:Q9}(hs:s∈stI Q T a Q.m)(hm:∀r∈stI Q T a Q.m,le s r):Sx.qJ (Q.pb b) T a s.top s.bot:=by
 have hb:=wW hs;have hle:∀r∈stI Q T a Q.m,s.top*r.bot<=r.top*s.bot:=λr hr=>by have:=hm r hr;unfold le at this;lia
 refine⟨?_,hb,λv hv=>?_,λk hk hp=>?_,λk v hk hp hv=>?_⟩
 . rcases T6.mp hs with h|⟨i,hi,h⟩
   . obtain⟨v,hv,rfl⟩:=fQ.mp h;exact(S.lb a v ha hv).2
   . rcases W3.mp h with ⟨_,rfl⟩|⟨_,v,hv,rfl⟩
     . exact K.lo i hi
     . have:=K.hi i v hi hv;show 0<=v*T.size-T.am (Q.pb b) i
       lia
 . have:=hle ⟨v,1,a,none,false⟩ (T6.mpr (.inl (fQ.mpr ⟨v,hv,rfl⟩)));simpa using this
 . exact hle ⟨T.am (l5 Q) k,T.sg a*T.i0 (l5 Q) a k,T.B k,some k,false⟩ (T6.mpr (.inr ⟨k,hk,W3.mpr (.inl ⟨hp,rfl⟩)⟩))
 . exact hle ⟨v*T.size-T.am (l5 Q) k,-(T.sg a*T.i0 (l5 Q) a k),T.B k,some k,true⟩ (T6.mpr (.inr ⟨k,hk,W3.mpr (.inr ⟨hp,v,hv,rfl⟩)⟩))
def nextT(Q:K6)(T:Sx.Tb)(a:Nat)(s:Q9):Sx.Tb:=match s.pl with
 |none=>iQ Q T a (-(T.sg a*(Q.lim a).getD 0))
 |some l=>if s.tp=true then iQ Q (P2 Q T a l (if 0<T.i0 (l5 Q) a l then 1 else -1)) s.ch (-((P2 Q T a l (if 0<T.i0 (l5 Q) a l then 1 else -1)).sg s.ch*(Q.lim s.ch).getD 0))else P2 Q T a l (if 0<T.i0 (l5 Q) a l then 1 else -1)
theorem SI(KT:X5 Q T)(K:Sx.Ok (Q.pb b) T)(ha:a<Q.n){s:Q9}(hs:s∈stI Q T a Q.m):jJ [.ob none (n8 Q T),.dat (.int (a:Int)),.dat (.list (rl Q.m λk=>.int (T.i0 (l5 Q) a k))),.dat (F0 s)]=some (.dat .none,[some (.ob none (n8 Q (nextT Q T a s))),none,none,none]):=by
 rcases T6.mp hs with h|⟨l,hl,h⟩
 . obtain⟨v,hv,rfl⟩:=fQ.mp h;rw[Om KT ha hv rfl];delta nextT;simp only[hv,Ck]
 . have hf:T.full a=true->Q.lim a≠none:=λz=>(K.fu a ha z).1
   rcases W3.mp h with ⟨hp,rfl⟩|⟨hp,v,hv,rfl⟩
   . rw[EB KT (v:=0) ha hl rfl hf rfl (KT.bn l hl) (λz=>by cases z)]
     delta nextT;simp only[aG,M6]
   . rw[EB KT (v:=v) ha hl rfl hf rfl (KT.bn l hl) (λ_=>hv)]
     delta nextT;simp only[A9,hv,Ck]
theorem Jz(S:Small Q b c)(K:Sx.Ok (Q.pb b) T)(E:Sx.M9 (Q.pb b) T a){s:Q9}(hs:s∈stI Q T a Q.m)(hm:∀r∈stI Q T a Q.m,le s r):Sx.Step (Q.pb b) T a s.top (nextT Q T a s):=by
 have ha:a<Q.n:=E.an;have so:=Rr S K ha hs hm;have nb:=E.nb K.u6;rcases T6.mp hs with h|⟨l,hl,h⟩
 . obtain⟨v,hv,rfl⟩:=fQ.mp h;refine .flip hv rfl so ?_;unfold nextT;simp only[hv,Ck];exact flip_flip hv
 . have hB:T.B l<Q.n:=K.u6.bn l hl;have hfB:T.full (T.B l)=false:=by
    cases z:T.full (T.B l)with
    |false=>rfl
    |true=>exact absurd rfl ((K.fu _ hB z).2 l hl)
   have hBa:T.B l≠a:=nb l hl;have hpl:s.pl=some l/\s.ch=T.B l:=by rcases W3.mp h with ⟨_,rfl⟩|⟨_,v,_,rfl⟩<;>exact⟨rfl,rfl⟩
   have hpz:T.i0 (l5 Q) a l≠0:=λz=>by rcases W3.mp h with ⟨hp,_⟩|⟨hp,_⟩<;>rw[z,J6]at hp<;>lia
   generalize hg:(if 0<T.i0 (l5 Q) a l then(1:Int)else -1)=g
   have hg1:g=1\/g = -1:=by rw[<-hg];split<;>simp
   have hgp:0<g*T.i0 (Q.pb b) a l:=by
    show 0<g*T.i0 (l5 Q) a l
    rw[<-hg];split<;>lia
   have xW:s.top=0->∀k,k<(Q.pb b).m->(0<T.sg a*T.i0 (Q.pb b) a k/\T.am (Q.pb b) k=0)\/(T.sg a*T.i0 (Q.pb b) a k<0/\∃v,(Q.pb b).u (T.B k)=some v/\T.am (Q.pb b) k=v*T.size)->T.B l<=T.B k:=by
    intro h0 k hk hh;rcases hh with ⟨hp,h1⟩|⟨hp,v,hv,h1⟩
    . have:=hm ⟨T.am (l5 Q) k,T.sg a*T.i0 (l5 Q) a k,T.B k,some k,false⟩ (T6.mpr (.inr ⟨k,hk,W3.mpr (.inl ⟨hp,rfl⟩)⟩));unfold le at this;rw[h0,hpl.2]at this;have h1':T.am (l5 Q) k=0:=h1;simp only[h1',U6]at this;lia
    . have:=hm ⟨v*T.size-T.am (l5 Q) k,-(T.sg a*T.i0 (l5 Q) a k),T.B k,some k,true⟩ (T6.mpr (.inr ⟨k,hk,W3.mpr (.inr ⟨hp,v,hv,rfl⟩)⟩));unfold le at this;rw[h0,hpl.2]at this;have h1':T.am (l5 Q) k=v*T.size:=h1;simp only[h1',Int.sub_self,U6]at this;lia
   have ufull:∀j,(P2 Q T a l g).full j=if j=a then false else T.full j:=λj=>by
    show(L7 Q T a).full j=_
    unfold L7;by_cases z:T.full a=true
    . rw[c7 z];show(if j=a then !T.full a else T.full j)=_
      rw[z];rfl
    . rw[e9 z];by_cases y:j=a
      . rw[c7 y,y];simpa using z
      . rw[e9 y]
   have urt:∀p,(P2 Q T a l g).rt p=T.rt p+(if T.full a=true then Sx.uv (Q.pb b) a*(Q.pb b).A a p else 0):=λp=>by
    show(L7 Q T a).rt p=_
    unfold L7;by_cases z:T.full a=true
    . rw[c7 z,c7 z];show T.rt p + -(T.sg a*(Q.lim a).getD 0)*D9 (Q.col a) p=T.rt p+(Q.lim a).getD 0*D9 (Q.col a) p
      have:T.sg a = -1:=by unfold Sx.Tb.sg;rw[c7 z]
      rw[this]
      congr 1
      congr 1
      lia
    . rw[e9 z,e9 z,lJ]
   have tn:=Df S K (a:=a) (l:=l) (g:=g) hl;rcases W3.mp h with ⟨hp,rfl⟩|⟨hp,v,hv,rfl⟩
   . refine .move (l:=l) (g:=g) (tp:=false) hl hg1 hgp so ⟨λ_=>⟨rfl,rfl⟩,λz=>by cases z⟩ ?_ xW
     unfold nextT;simp only[aG,M6];rw[hg];refine⟨tn,λj hj=>?_,λp hp=>?_⟩
     . rw[ufull];by_cases z:j=a
       . rw[c7 z,c7 z]
       . rw[e9 z,e9 z];by_cases y:j=T.B l
         . rw[c7 y,y,hfB]
         . rw[e9 y]
     . rw[urt];simp
   . refine .move (l:=l) (g:=g) (tp:=true) hl hg1 hgp so ⟨λz=>(by cases z),λ_=>⟨?_,rfl,?_⟩⟩ ?_ xW
     . show v*T.size-_=Sx.uv (Q.pb b) (T.B l)*T.size-_
       have:Sx.uv (Q.pb b) (T.B l)=v:=by unfold Sx.uv;show(Q.lim (T.B l)).getD 0=v;rw[hv];rfl
       rw[this];rfl
     . show Q.lim (T.B l)≠none
       rw[hv];intro z;cases z
     unfold nextT;simp only[A9];rw[hg];have hsg:(P2 Q T a l g).sg (T.B l)=1:=by unfold Sx.Tb.sg;rw[ufull,e9 hBa,hfB];rfl
     refine⟨⟨tn.b,tn.size,tn.il,tn.ir,tn.pr⟩,λj hj=>?_,λp hp=>?_⟩
     . show(if j=T.B l then !(P2 Q T a l g).full (T.B l)else(P2 Q T a l g).full j)=_
       rw[ufull,ufull,e9 hBa,hfB];by_cases z:j=a
       . rw[e9 (by rw[z];exact λy=>hBa y.symm),c7 z,c7 z]
       . rw[e9 z,e9 z];by_cases y:j=T.B l
         . rw[c7 y,c7 y];rfl
         . rw[e9 y,e9 y]
     . show(P2 Q T a l g).rt p + -((P2 Q T a l g).sg (T.B l)*(Q.lim (T.B l)).getD 0)*D9 (Q.col (T.B l)) p=_
       have e:(if true=true then Sx.uv (Q.pb b) (T.B l)*(Q.pb b).A (T.B l) p else 0)=(Q.lim (T.B l)).getD 0*D9 (Q.col (T.B l)) p:=c7 rfl
       rw[urt,hsg,e,dG,lH];lia
end
end
section
variable{ds ds2:Ds}
structure Data where
 c:c6
 r:c6
 g:c6
 t:c6
 f:c6
section
variable{Q:K6}{b:Nat->Int}{c:Nat}{tp:Nat->Option Q2}
abbrev bh(Z:Data)(Q:K6)(w:Option Addr)(T:Sx.Tb)(r:Option Nat)(x7 x8:Option PV):Ds:=[some (.dat Z.c),some (.dat Z.r),some (.dat Z.g),some (.dat Z.t),some (.dat Z.f),some (.ob w (n8 Q T)),some (.dat (optN r)),x7,x8]
abbrev ze(Q:K6)(tp:Nat->Option Q2):c6:=.list (rl Q.n λj=>o2 (tp j))
abbrev iz(Q:K6)(tp:Nat->Option Q2)(T:Sx.Tb):c6:=.list (rl Q.n λj=>fr (X4 Q T tp Q.m j))
abbrev kR(Q:K6)(T:Sx.Tb)(a:Nat):c6:=.list (rl Q.n λj=>fr (ba Q T a Q.m j))
theorem EJ{l:List c6}(h:∀d∈l,LF d=true):pO l=true:=by
 induction l with
 |nil=>rfl
 |cons x l ih=>rw[pO,h x A2,ih λd hd=>h d (C4 _ hd)];rfl
theorem GW(q:Q2):LF (fr q)=true:=rfl
theorem Aq{n:Nat}{f:Nat->c6}(h:∀i,LF (f i)=true):pO (rl n f)=true:=EJ λd hd=>by obtain⟨i,_,rfl⟩:=mem_map.mp hd;exact h i
theorem VM(s:Q9):LF (F0 s)=true:=by delta F0;cases s.pl<;>rfl
theorem nC{F:Ds->Option PV}{l:List c6}(h:F ds=some (.own l))(hl:pO l=true):T9 F ds=some (.own l):=by delta T9;rw[h,j4];simp only[hl,A9]
theorem xu{F:Ds->Option PV}{d:c6}(h:F ds=some (.dat d))(hl:LF d=true):T9 F ds=some (.dat d):=by delta T9;rw[h,j4];simp only[hl,A9]
theorem Xt{f:List c6->Option PV}{F:Ds->Option PV}{pv:PV}(h:F ds=some pv):g0 f (c5 F c8) ds=f [pv.d]:=by delta g0 c5 c8;rw[h];rfl
theorem call2{f:List c6->Option PV}{F G:Ds->Option PV}{pv qv:PV}(h:F ds=some pv)(h2:G ds=some qv):g0 f (c5 F (c5 G c8)) ds=f [pv.d,qv.d]:=by delta g0 c5 c8;rw[h];dsimp only[j4];rw[h2];rfl
theorem EK(r:Option Nat):LF (optN r)=true:=by cases r<;>rfl
structure By(Q:K6)(b:Nat->Int)(c:Nat)(tp:Nat->Option Q2):Prop where
 s:Small Q b c
 sc:∀j,j<Q.n->Bt 900 (Q.sc j)
 un:0<Q.un/\Bt 900 Q.un
 mu:∀t,t<3->0<Q.mu t/\Bt 900 (Q.mu t)
 tl:∀j,j<Q.n->(tp j=none↔Q.lim j=none)
theorem By.mix(H:By Q b c tp){T:Sx.Tb}(K:Sx.Ok (Q.pb b) T):aQ [o8 Q T,ze Q tp]=some (.own (rl Q.n λj=>fr (X4 Q T tp Q.m j))) :=
 VF (H.s.tab K) (λj hj=>(H.sc j hj).mono (by decide)) H.un.2 (H.s.tab K).sb H.un.1 λj hj z y=>(K.fu j hj z).1 ((H.tl j hj).mp y)
theorem FY(H:By Q b c tp){T:Sx.Tb}(K:Sx.Ok (Q.pb b) T){a:Nat}(E:Sx.M9 (Q.pb b) T a)(Z:Data)(hZ:Z.t=ze Q tp)(w:Option Addr)(x7 x8:Option PV):
  (stI Q T a Q.m=[]/\Y5 (bh Z Q w T (some a) x7 x8)=some (.ret (.dat (.tuple [.str "endless",iz Q tp T,kR Q T a])))) \/
  ∃s T' r y7 y8,Y5 (bh Z Q w T (some a) x7 x8)=some (.next (bh Z Q w T' r y7 y8))/\Sx.Step (Q.pb b) T a s T'/\(r=none->∀j,j<Q.n->¬Sx.M9 (Q.pb b) T' j)/\∀a',r=some a'->Sx.M9 (Q.pb b) T' a'/\(s=0->∀j,j<a'->¬Sx.M9 (Q.pb b) T' j):=by
 have KT:=H.s.tab K;have ha:a<Q.n:=E.an;generalize hP:(nP (rl Q.m λk=>.int (T.i0 (l5 Q) a k)))=PC
 have s1:i7 7 (T9 (K4 "Table" "paces" R4 (K8 5) (c5 (b9 6) c8))) (bh Z Q w T (some a) x7 x8)=some (.next (bh Z Q w T (some a) (some (.dat PC)) x8)):=by
  have e:K4 "Table" "paces" R4 (K8 5) (c5 (b9 6) c8) (bh Z Q w T (some a) x7 x8)=some (.own (rl Q.m λk=>.int (T.i0 (l5 Q) a k))):=by rw[lp (Q:=Q) (T:=T) (l:=[.int (a:Int)]) rfl rfl (Oh Q T) rfl];exact NV KT ha
  rw[T8,nC e (Ar _ _),<-hP];rfl
 have s2:i7 8 (g0 ah (c5 (T9 (g0 fY (c5 (K8 5) (c5 (b9 6) (c5 (b9 7) c8))))) c8)) (bh Z Q w T (some a) (some (.dat PC)) x8)=some (.next (bh Z Q w T (some a) (some (.dat PC)) (some (.dat (bI ((stI Q T a Q.m).foldl dD none)))))):=by
  have e:g0 fY (c5 (K8 5) (c5 (b9 6) (c5 (b9 7) c8))) (bh Z Q w T (some a) (some (.dat PC)) x8)=some (.own ((stI Q T a Q.m).map F0)):=by rw[<-hP];exact MK KT ha
  have e2:g0 ah (c5 (T9 (g0 fY (c5 (K8 5) (c5 (b9 6) (c5 (b9 7) c8))))) c8) (bh Z Q w T (some a) (some (.dat PC)) x8)=some (.dat (bI ((stI Q T a Q.m).foldl dD none))):=by
   rw[Xt (nC e (EJ λd hd=>by obtain⟨s,_,rfl⟩:=mem_map.mp hd;exact VM s))]
   exact OS λs hs=>Ul KT ha hs
  rw[T8,e2];rfl
 have fm:=yE (stI Q T a Q.m) none (λs hs=>wW hs) (λr z=>by cases z)
 delta Y5;rw[j7,s1,j0,j7,s2,j0,j7];cases ho:(stI Q T a Q.m).foldl dD none with
 |none =>
  refine .inl ⟨(fm.1 ho).2,?_⟩;have eb:j8 (c9 gz (b9 8) (fC .none)) (bh Z Q w T (some a) (some (.dat PC)) (some (.dat (bI none))))=some true:=rfl;have e1:T9 (g0 aQ (c5 (K8 5) (c5 (b9 3) c8))) (bh Z Q w T (some a) (some (.dat PC)) (some (.dat (bI none))))=some (.own (rl Q.n λj=>fr (X4 Q T tp Q.m j))):=by
   refine nC ?_ (Aq λi=>GW _)
   show aQ [o8 Q T,Z.t]=_
   rw[hZ];exact H.mix K
  have e2:T9 (g0 fI (c5 (K8 5) (c5 (b9 6) (c5 (b9 7) c8)))) (bh Z Q w T (some a) (some (.dat PC)) (some (.dat (bI none))))=some (.own (rl Q.n λj=>fr (ba Q T a Q.m j))):=by
   refine nC ?_ (Aq λi=>GW _)
   show fI [o8 Q T,.int (a:Int),PC]=_
   rw[<-hP];exact TL KT ha λj hj=>(H.sc j hj).mono (by decide)
  delta D1;rw[eb];simp only[j4,A9,u9,C2,c5,c8,e1,e2,fC,PV.gF,PV.ku];rfl
 |some s =>
  obtain⟨m1,_,m2⟩:=fm.2 s ho;have hs:s∈stI Q T a Q.m:=by
   rcases m1 with z|z
   . cases z
   . exact z
  have st:=Jz H.s K E hs m2;have K':=st.ok K E;have eb:j8 (c9 gz (b9 8) (fC .none)) (bh Z Q w T (some a) (some (.dat PC)) (some (.dat (bI (some s)))))=some false:=rfl;have e3:J1 (gD jJ (eY 5 (G9 (b9 6) (G9 (b9 7) (G9 (b9 8) cz))))) (bh Z Q w T (some a) (some (.dat PC)) (some (.dat (bI (some s)))))=some (.next (bh Z Q w (nextT Q T a s) (some a) (some (.dat PC)) (some (.dat (bI (some s)))))):=by
   delta J1;rw[tZ (i:=5) (w:=w) (c:=n8 Q T) (c':=n8 Q (nextT Q T a s)) (xs:=[.int (a:Int),PC,F0 s]) rfl rfl (by rw[<-hP];exact SI KT K ha hs)]
   rfl
  obtain⟨r,e4,r1,r2⟩:=yj (H.s.tab K') (decide (s.top=0));refine .inr ⟨s.top,nextT Q T a s,r,some (.dat PC),some (.dat (bI (some s))),?_,st,λhr j hj z=>?_,λa' ha'=>?_⟩
  . delta D1;rw[eb];simp only[j4,aG,M6,t9,j0,j7,e3];rw[T8,xu (d:=optN r) ?_ (EK r)]
    . rfl
    . have:(c9 O3 (c9 j5 (b9 8) (fC (.int 0))) (fC (.int 0))) (bh Z Q w (nextT Q T a s) (some a) (some (.dat PC)) (some (.dat (bI (some s)))))=some (.dat (.bool (decide (s.top=0)))):=by
        show(j5 (F0 s) (.int 0)).bind _=_
        rw[VY];show O3 (.int s.top) (.int 0)=_
        rw[oW]
      rw[call2 (pv:=.dat (o8 Q (nextT Q T a s))) rfl this];exact e4
  . have:=(gn_enter hj b).mpr z;rw[r1 hr j hj]at this;cases this
  . obtain⟨h1,h2,h3⟩:=r2 a' ha';refine⟨(gn_enter h1 b).mp h2,λh0 j hj z=>?_⟩
    have:=(gn_enter (by lia) b).mpr z
    rw[h3 (by simpa using h0) j hj]at this
    cases this
structure WS where
 T:Sx.Tb
 a:Nat
 cf:Bool
 x7:Option PV
 x8:Option PV
structure WS.Ok(Q:K6)(b:Nat->Int)(s:WS):Prop where
 ok:Sx.Ok (Q.pb b) s.T
 en:Sx.M9 (Q.pb b) s.T s.a
 cr:s.cf=true->∀j,j<s.a->¬Sx.M9 (Q.pb b) s.T j
inductive Ends(Z:Data)(Q:K6)(b:Nat->Int)(tp:Nat->Option Q2)(w:Option Addr):Out->Prop
 |best {T x7 x8}:Sx.Ok (Q.pb b) T->(∀j,j<Q.n->¬Sx.M9 (Q.pb b) T j)->Ends Z Q b tp w (.next (bh Z Q w T none x7 x8))
 |endless {T a}:Sx.Ok (Q.pb b) T->Sx.M9 (Q.pb b) T a->stI Q T a Q.m=[]->Ends Z Q b tp w (.ret (.dat (.tuple [.str "endless",iz Q tp T,kR Q T a])))
theorem ug{Fc:Ds->Option Bool}{G:Ds->Option Out}{m:Nat}(h1:Fc ds=some true)(h2:G ds=some (.next ds2)):E4 Fc G (m+1) ds=E4 Fc G m ds2:=by rw[E4,h1];simp only[j4,A9,h2]
theorem HS(H:By Q b c tp)(Z:Data)(hZ:Z.t=ze Q tp)(w:Option Addr)(s0:WS)(h0:s0.Ok Q b):∃m o,E4 aK Y5 m (bh Z Q w s0.T (some s0.a) s0.x7 s0.x8)=some o/\Ends Z Q b tp w o:=by
 have ct:∀(T:Sx.Tb) (a:Nat) (x7 x8:Option PV),aK (bh Z Q w T (some a) x7 x8)=some true:=λ_ _ _ _=>rfl
 have cf:∀(T:Sx.Tb) (x7 x8:Option PV),aK (bh Z Q w T none x7 x8)=some false:=λ_ _ _=>rfl
 let En:WS->Prop:=λs=>∃m o,E4 aK Y5 m (bh Z Q w s.T (some s.a) s.x7 s.x8)=some o/\Ends Z Q b tp w o
 refine sj λhn=>?_
 have nx:∀s:{s:WS // s.Ok Q b/\¬En s},∃s':{s:WS // s.Ok Q b/\¬En s},∃top,Sx.Step (Q.pb b) s.1.T s.1.a top s'.1.T/\(s'.1.cf=true↔top=0):=by
  rintro⟨s,hs,he⟩;rcases FY H hs.ok hs.en Z hZ w s.x7 s.x8 with ⟨e1,e2⟩|⟨top,T',r,y7,y8,e1,st,r1,r2⟩
  . refine absurd ⟨1,_,?_,.endless hs.ok hs.en e1⟩ he;rw[E4,ct];simp only[j4,A9,e2]
  . have K':=st.ok hs.ok hs.en;cases r with
    |none =>
     refine absurd ⟨2,_,?_,.best (x7:=y7) (x8:=y8) K' (r1 rfl)⟩ he;rw[ug (ct _ _ _ _) e1,E4,cf];rfl
    |some a' =>
     obtain⟨g1,g2⟩:=r2 a' rfl;refine⟨⟨⟨T',a',decide (top=0),y7,y8⟩,⟨K',g1,λz=>g2 (qY z)⟩,λz=>he ?_⟩,top,st,by simp⟩
     obtain⟨m,o,e3,e4⟩:=z;exact⟨m+1,o,by rw[ug (ct _ _ _ _) e1];exact e3,e4⟩
 let q0:{s:WS // s.Ok Q b/\¬En s}:=⟨s0,h0,hn⟩
 let sq:Nat->{s:WS // s.Ok Q b/\¬En s}:=λi=>Nat.rec q0 (λ_ s=>(nx s).choose) i
 have hsq:∀i,∃top,Sx.Step (Q.pb b) (sq i).1.T (sq i).1.a top (sq (i+1)).1.T/\((sq (i+1)).1.cf=true↔top=0):=λi=>(nx (sq i)).choose_spec
 exact Sx.Oi (C:=⟨λi=>(sq i).1.T,λi=>(sq i).1.a,λi=>(hsq i).choose,λi=>(sq i).1.cf⟩) ⟨λi=>(sq i).2.1.ok,λi=>(sq i).2.1.en,λi=>(sq i).2.1.cr,λi=>(hsq i).choose_spec.1,λi=>(hsq i).choose_spec.2⟩
end
end
section
variable{p j k m:Nat}
open Sx (sN pN sm det v7 dot)
structure cY(I:m8)(c:Nat):Prop where
 fi:∀k p,k<I.m->p<I.m->I.row p (I.fs k)=if p=k then(1,1)else q0
 inj:∀k l,k<I.m->l<I.m->I.fs k=I.fs l->k=l
 r0:∀p,p<I.m->0<=(I.rg p).1
 t0:∀j q,j<I.n->I.tp j=some q->0<=q.1
 ft:∀k q,k<I.m->I.tp (I.fs k)=some q->(I.rg k).1*q.2<=q.1*(I.rg k).2
 cn:∀j,j<I.n->sN I.m (λp=>(wh (I.row p j) (I.sc j)).natAbs)<=2 ^ c
 c1:c*I.m<=2000
 c2:c<=1000
section
variable{I:m8}{D E F:Int}{c:Nat}
theorem MR{n:Nat}{f g:Nat->Nat}(h:∀i,i<n->f i=g i):sN n f=sN n g:=Nat.le_antisymm (Sx.zh λi hi=>vJ (h i hi)) (Sx.zh λi hi=>vJ (h i hi).symm)
theorem Be(I:m8)(j:Nat)(hp:p<I.m):D9 (I.A0.col j) p=wh (I.row p j) (I.sc j):=by
 show D9 (I.Q1 j I.m) p=_
 rw[yI,c7 hp]
theorem Ap(H:v5 I D E F){v:Int}(hj:j<I.n)(h:I.lim j=some v):∃q,I.tp j=some q/\0<q.2/\v*(q.2*I.sc j)=q.1*I.un:=by
 obtain⟨s1,s2,s3,s4⟩:=H.sc hj;delta m8.lim at h;obtain⟨r,hr,rfl⟩:=Option.map_eq_some_iff.mp h;have ho:=H.hq hj hr;have hu:=H.un.2.2.2.2 j r hj hr;have e1:=uh ho.1.pos hu;delta m8.hq at hr;obtain⟨q,hq,rfl⟩:=Option.map_eq_some_iff.mp hr;obtain⟨c1,c2⟩:=H.tp j q hj hq;obtain⟨l1,l2,l3,l4⟩:=cw (t:=q.1*1) (b:=q.2*I.sc j) (G0 c1.pos s1);refine⟨q,hq,c1.pos,?_⟩;have e1':wh (N0 q (1,I.sc j)) I.un*(r9 (q.1*1) (q.2*I.sc j)).2=(r9 (q.1*1) (q.2*I.sc j)).1*I.un:=e1;generalize wh (N0 q (1,I.sc j)) I.un=v at e1' ⊢;generalize (r9 (q.1*1) (q.2*I.sc j)).1=x at *;generalize (r9 (q.1*1) (q.2*I.sc j)).2=y at *;have:y*(v*(q.2*I.sc j))=y*(q.1*I.un):=by
  calc y*(v*(q.2*I.sc j))=(v*y)*(q.2*I.sc j):=by grind
   _=(x*I.un)*(q.2*I.sc j):=by rw[e1']
   _=(x*(q.2*I.sc j))*I.un:=by grind
   _=(q.1*1*y)*I.un:=by rw[l3]
   _=y*(q.1*I.un):=by grind
 exact wI (by lia) this
theorem bL:I.tp j=none↔I.lim j=none:=by delta m8.lim m8.hq;cases I.tp j<;>simp
theorem Yo(I:m8)(t j:Nat)(h:3<=t):I.wt t j=0:=by
 have:O5 (I.cost j) t=q0:=by
  match t,h with
  |t+3,_=>rfl
 delta m8.wt wh m8.wq;rw[this];have:(N0 q0 (I.sc j,1)).1=0:=by
  delta N0 r9;show(0*I.sc j).fdiv _=0
  rw[U6,Int.zero_fdiv]
 rw[this,U6]
theorem m8.side(H:v5 I D E F)(G:cY I c):By I.A0 I.b c I.tp:=by
 refine⟨⟨H.m1,H.n1,G.c1,G.c2,λj hj=>?_,λj hj=>P5 (Bg I j I.m) H.m1,λj hj e he=>?_,λt j ht hj=>H.wt ht hj,λt j ht=>Yo I t j ht,λj v hj hv=>⟨H.lim hj hv,?_⟩,λp hp=>(H.b hp).mono (by decide)⟩,λj hj=>(H.sc hj).2.2.1,⟨H.un.1,H.un.2.2.1⟩,λt ht=>⟨(H.mu ht).1,(H.mu ht).2.2.1⟩,λj _=>bL⟩
 . rw[MR (g:=λp=>(wh (I.row p j) (I.sc j)).natAbs) λp hp=>by rw[Be I j hp]]
   exact G.cn j hj
 . obtain⟨h1,h2⟩:=Bf I j I.m e he;refine⟨h1,?_⟩;rw[h2];exact((H.row e.1 j h1 hj).1.bt.mul (H.sc hj).2.2.1.fdiv).mono (by decide)
 . obtain⟨q,hq,q2,e⟩:=Ap H hj hv;have h0:=G.t0 j q hj hq;have:=bN h0 (T3 H.un.1);have p:=G0 q2 (H.sc hj).1;rcases eZ v 0 with z|z
   . have:=rn z p;lia
   . exact z
theorem zM(H:v5 I D E F)(G:cY I c)(hk:k<I.m):I.sc (I.fs k)=1:=by
 obtain⟨h1,h2,h3,h4⟩:=vq (D:=1) ((A4 I.m).map λp=>(I.row p (I.fs k)).2) 1 (by decide) ⟨1,by lia⟩ λx hx=>by
  obtain⟨p,hp,rfl⟩:=mem_map.mp hx;rw[G.fi k p hk (mem_range.mp hp)];split
  . exact⟨by decide,⟨1,rfl⟩⟩
  . exact⟨by decide,⟨1,rfl⟩⟩
 have h4':I.sc (I.fs k)∣1:=h4;have:=ff (by decide) h4'
 have h1':0<I.sc (I.fs k):=h1;lia
theorem vh(H:v5 I D E F)(G:cY I c)(hk:k<I.m)(hp:p<I.m):D9 (I.A0.col (I.fs k)) p=if k=p then 1 else 0:=by
 rw[Be I _ hp,zM H G hk,G.fi k p hk hp];by_cases z:p=k
 . rw[c7 z,c7 z.symm];rfl
 . rw[e9 z,e9 λy=>z y.symm];rfl
theorem Fy(x:Nat->Int)(hk:k<m):dot m (λq=>if k=q then 1 else 0) x=x k:=by
 delta Sx.dot;rw[Sx.O6 hk λi _ hi=>by
  show(if k=i then(1:Int)else 0)*x i=0
  rw[e9 (λz=>hi z.symm),U6]]
 show(if k=k then(1:Int)else 0)*x k=x k
 rw[c7 rfl,dG]
theorem Kj(H:v5 I D E F)(G:cY I c):Sx.H9 (I.A0.pb I.b) I.tab:=by
 have eM:∀k r,k<I.m->r<I.m->I.tab.M (I.A0.pb I.b) k r=if k=r then 1 else 0:=λk r hk hr=>vh H G hk hr
 refine⟨H.fs,G.inj,⟨1,.inl rfl,?_,λr hr x=>?_⟩,by show(0:Int)<1;decide,λp q hp hq=>?_,λt q hq=>?_⟩
 . show 1*1=det I.m (I.tab.M (I.A0.pb I.b))
   rw[Sx.O8 eM,Sx.xE];rfl
 . show 1*dot I.m (λq=>if r=q then 1 else 0) x=det I.m (v7 (I.tab.M (I.A0.pb I.b)) r x)
   have hr':r<I.m:=hr;rw[Fy x hr',dG];have e1:det I.m (v7 (I.tab.M (I.A0.pb I.b)) r x)=det I.m (v7 (λc r=>if c=r then 1 else 0) r λp=>sm I.m λi=>x i*Sx.unit i p):=Sx.O8 λk p hk hp=>by
    by_cases z:k=r
    . rw[z,Sx.Z5,Sx.Z5,Sx.HU x hp]
    . rw[Sx.V1 _ _ _ z,Sx.V1 _ _ _ z,eM k p hk hp]
   rw[e1,Sx.xD _ hr' x Sx.unit I.m,Sx.O6 hr' λi hi hir=>?_]
   . have:det I.m (v7 (λc r=>if c=r then(1:Int)else 0) r (Sx.unit r))=1:=by
       refine Eq.trans ?_ (Sx.xE I.m);exact Sx.O8 λk p hk hp=>by
        by_cases z:k=r
        . rw[z,Sx.Z5];delta Sx.unit;by_cases y:p=r
          . rw[c7 y,c7 y.symm]
          . rw[e9 y,e9 λw=>y w.symm]
        . rw[Sx.V1 _ _ _ z]
     rw[this,cq]
   . have:det I.m (v7 (λc r=>if c=r then(1:Int)else 0) r (Sx.unit i))=0:=Sx.oY (i:=i) (j:=r) hi hr' hir λp hp=>by
       rw[Sx.V1 _ _ _ hir,Sx.Z5];delta Sx.unit;by_cases y:i=p
       . rw[c7 y,c7 y.symm]
       . rw[e9 y,e9 λw=>y w.symm]
     rw[this,J6]
 . show sm I.m (λk=>(if k=q then 1 else 0)*D9 (I.A0.col (I.fs k)) p)=if p=q then 1 else 0
   have hq':q<I.m:=hq;rw[Sx.O6 hq' λi _ hi=>by rw[e9 hi,U6],c7 rfl,dG,vh H G hq' hp]
   by_cases y:p=q
   . rw[c7 y,c7 y.symm]
   . rw[e9 y,e9 λw=>y w.symm]
 . show I.wt t (I.fs q)=sm I.m λk=>I.wt t (I.fs k)*(if k=q then 1 else 0)
   have hq':q<I.m:=hq;rw[Sx.O6 hq' λi _ hi=>by rw[e9 hi,J6],c7 rfl,cq]
theorem OR(H:v5 I D E F)(G:cY I c):Sx.Ok (I.A0.pb I.b) I.tab:=by
 have ea:∀k,k<I.m->I.tab.am (I.A0.pb I.b) k=I.b k:=λk hk=>Fy I.b hk
 have eb:∀k,k<I.m->I.b k*(I.rg k).2=(I.rg k).1*I.un:=λk hk=>uh (H.rg k hk).1.pos (H.un.2.2.2.1 k hk)
 refine⟨Kj H G,λp hp=>?_,λj hj z=>(by cases z),λk hk=>?_,λk v hk hv=>?_⟩
 . have:Sx.fsum (I.A0.pb I.b) I.tab (λj=>(I.A0.pb I.b).A j p)=0:=Sx.fO λj _=>by
     show(if false=true then _ else(0:Int))=0
     rfl
   rw[this];show I.b p=I.b p-0
   lia
 . rw[ea k hk];have h1:=eb k hk;have h2:=bN (G.r0 k hk) (T3 H.un.1);have h3:=(H.rg k hk).1.pos;rcases eZ (I.b k) 0 with z|z
   . have:=rn z h3;lia
   . exact z
 . rw[ea k hk];show I.b k<=v*1
   rw[cq];have hk':k<I.m:=hk;have hv':I.lim (I.fs k)=some v:=hv;obtain⟨q,hq,q2,e⟩:=Ap H (H.fs k hk') hv';rw[zM H G hk',cq]at e;have h1:=eb k hk';have h2:=G.ft k q hk' hq;have h3:=(H.rg k hk').1.pos;have h4:=iX h2 (T3 H.un.1);have h5:=G0 q2 h3;generalize (I.rg k).1=x at *;generalize (I.rg k).2=y at *;have:(q.2*y)*I.b k<=(q.2*y)*v:=by
    have a1:(q.2*y)*I.b k=x*q.2*I.un:=by
     calc (q.2*y)*I.b k=q.2*(I.b k*y):=by grind
      _=q.2*(x*I.un):=by rw[h1]
      _=x*q.2*I.un:=by grind
    have a2:(q.2*y)*v=q.1*y*I.un:=by
     calc (q.2*y)*v=y*(v*q.2):=by grind
      _=y*(q.1*I.un):=by rw[e]
      _=q.1*y*I.un:=by grind
    lia
   exact wH this h5
inductive Res(I:m8):c6->Prop
 |best {T}:Sx.Ok (I.A0.pb I.b) T->(∀j,j<I.n->¬Sx.M9 (I.A0.pb I.b) T j)->Res I (.tuple [.str "best",iz I.A0 I.tp T,.list (rl I.m λp=>p9 (F3 I.A0 T p))])
 |endless {T a}:Sx.Ok (I.A0.pb I.b) T->Sx.M9 (I.A0.pb I.b) T a->stI I.A0 T a I.m=[]->Res I (.tuple [.str "endless",iz I.A0 I.tp T,kR I.A0 T a])
theorem VL(x:Tr):LF (p9 x)=true:=rfl
theorem xZ(H:v5 I D E F)(G:cY I c):∃d,aP [I.m3,I.p5,I.o7,I.t6,I.D4]=some (.dat d)/\Res I d:=by
 have S:=m8.side H G;have K0:=OR H G;have s1:R8 5 (rY "Table" Z3 (c5 (b9 0) (c5 (b9 1) (c5 (b9 2) (c5 (b9 3) (c5 (b9 4) c8)))))) [some (.dat I.m3),some (.dat I.p5),some (.dat I.o7),some (.dat I.t6),some (.dat I.D4),none,none,none,none]=some (.next [some (.dat I.m3),some (.dat I.p5),some (.dat I.o7),some (.dat I.t6),some (.dat I.D4),some (.ob none (n8 I.A0 I.tab)),none,none,none]):=by
  have e:rY "Table" Z3 (c5 (b9 0) (c5 (b9 1) (c5 (b9 2) (c5 (b9 3) (c5 (b9 4) c8))))) [some (.dat I.m3),some (.dat I.p5),some (.dat I.o7),some (.dat I.t6),some (.dat I.D4),none,none,none,none]=some (.ob none (n8 I.A0 I.tab)):=by
   delta rY;rw[show c5 (b9 0) (c5 (b9 1) (c5 (b9 2) (c5 (b9 3) (c5 (b9 4) c8)))) [some (.dat I.m3),some (.dat I.p5),some (.dat I.o7),some (.dat I.t6),some (.dat I.D4),none,none,none,none]=some [I.m3,I.p5,I.o7,I.t6,I.D4]from rfl,j4]
   rw[show([I.m3,I.p5,I.o7,I.t6,I.D4]:List c6).map PV.dat=[.dat I.m3,.dat I.p5,.dat I.o7,.dat I.t6,.dat I.D4]from rfl,SR H]
   rfl
  rw[xw,e];rfl
 generalize hZ:(⟨I.m3,I.p5,I.o7,I.t6,I.D4⟩:Data)=Z;obtain⟨r,e2,r1,r2⟩:=yj (S.s.tab K0) false;have s2:i7 6 (T9 (g0 fK (c5 (K8 5) (c5 (fC (.bool false)) c8)))) [some (.dat I.m3),some (.dat I.p5),some (.dat I.o7),some (.dat I.t6),some (.dat I.D4),some (.ob none (n8 I.A0 I.tab)),none,none,none]=some (.next (bh Z I.A0 none I.tab r none none)):=by
  rw[T8,xu (d:=optN r) ?_ (EK r),<-hZ]
  . rfl
  . rw[call2 (pv:=.dat (o8 I.A0 I.tab)) (qv:=.dat (.bool false)) rfl rfl];exact e2
 have wh:∃m o,E4 aK Y5 m (bh Z I.A0 none I.tab r none none)=some o/\Ends Z I.A0 I.b I.tp none o:=by
  cases r with
  |none =>
   refine⟨1,_,?_,.best (x7:=none) (x8:=none) K0 λj hj z=>?_⟩
   . rw[E4];rfl
   . have:=(gn_enter (Q:=I.A0) hj I.b).mpr z;rw[r1 rfl j hj]at this;cases this
  |some a =>
   obtain⟨g1,g2,_⟩:=r2 a rfl;exact HS S Z (by rw[<-hZ];rfl) none ⟨I.tab,a,false,none,none⟩ ⟨K0,(gn_enter g1 I.b).mp g2,λz=>by cases z⟩
 obtain⟨m,o,e3,e4⟩:=wh;have e5:=Ho e3;delta aP D2;rw[c7 (show([I.m3,I.p5,I.o7,I.t6,I.D4]:List c6).length=5 from rfl)]
 rw[show(L4 [I.m3,I.p5,I.o7,I.t6,I.D4]++v9 (9-5) none:Ds)=[some (.dat I.m3),some (.dat I.p5),some (.dat I.o7),some (.dat I.t6),some (.dat I.D4),none,none,none,none]from rfl]
 rw[j7,s1,j0,j7,s2,j0,j7,e5];cases e4 with
 |endless k1 k2 k3=>exact⟨_,rfl,.endless k1 k2 k3⟩
 | @best T x7 x8 k1 k2 =>
  refine⟨_,?_,.best k1 k2⟩;have e1:T9 (g0 aQ (c5 (K8 5) (c5 (b9 3) c8))) (bh Z I.A0 none T none x7 x8)=some (.own (rl I.n λj=>fr (X4 I.A0 T I.tp I.m j))):=by
   refine nC ?_ (Aq λi=>GW _)
   rw[call2 (pv:=.dat (o8 I.A0 T)) (qv:=.dat (ze I.A0 I.tp)) rfl (by rw[<-hZ];rfl)]
   exact S.mix k1
  have e2:m9 (D7 I0 (c5 (g0 J9 (c5 (b9 1) c8)) c8)) m7 m6 kD (bh Z I.A0 none T none x7 x8)=some (.own (rl I.m λp=>p9 (F3 I.A0 T p))):=by
   have hr:D7 I0 (c5 (g0 J9 (c5 (b9 1) c8)) c8) (bh Z I.A0 none T none x7 x8)=some (rl I.m λi=>.int (i:Int)):=by rw[<-hZ];walk_at "r";rw[B2,C8 (by have:=H.m1;lia),J8,ni]
   delta m9;rw[hr,j4,c7 (R7 H.m1),B7 (g:=λp=>p9 (F3 I.A0 T p)) λp hp=>⟨_,.dat (p9 (F3 I.A0 T p)),rfl,by delta kD;refine xu ?_ (VL _);rw[call2 (pv:=.dat (o8 I.A0 T)) (qv:=.dat (.int (p:Int))) rfl rfl];exact NF (S.s.tab k1) hp S.mu,rfl⟩]
   rfl
  rw[j0];simp only[u9,C2,c5,c8,fC,e1,e2,j4,PV.gF,PV.ku];rfl
end
end
theorem JT(i:Int):iN (.int i)=false:=rfl
theorem Hj(i:Bool):iN (.bool i)=false:=rfl
theorem JS(i:Str):iN (.str i)=false:=rfl
theorem Hh:iN .none=false:=rfl
theorem JR(l:List c6):iN (.tuple l)=false:=rfl
theorem Hi(l:List c6):iN (.list l)=false:=rfl
end Law
local macro_rules | `(tactic| walk_at "r") => `(tactic| simp only[L2.D2, L2.j7, L2.j0, L2.zK, L2.zL, L2.ye, L2.xw, L2.yo, L2.T8, L2.mC, L2.D1, L2.u9, L2.P4, L2.Qz, L2.t9, L2.QA, L2.Kc, L2.QD, L2.QC, L2.Wf, L2.EZ, L2.F8, L2.ej, L2.iO, L2.qy, L2.b9, L2.fC, L2.c9, L2.aa, L2.g0, L2.C2, L2.K9, L2.cK, L2.jl, L2.iF, L2.Fn, L2.qA, L2.Kl, L2.bM, L2.QK, L2.Flat, L2.oV, L2.bD, L2.m9, L2.U4, L2.R9, L2.xK, L2.ua, L2.c5, L2.c8, L2.j8, L2.cO, L2.fE, L2.dR, L2.m6, L2.D7, L2.L8, L2.uq, L2.yd, L2.zY, L2.yh, L2.lq, L2.jn, L2.z9, L2.jN, L2.U2, L2.jO, L2.m7, L2.N7, L2.PV.gF, L2.PV.ku, L2.rQ,
 L2.Bv,L2.zF,L2.EG,L2.EL,L2.EW,L2.EX,L2.oW,L2.Aj,L2.AR,L2.Ai,L2.ES,L2.AB,L2.Bw,L2.Ah,L2.yp,L2.Av,L2.xU,L2.zz,L2.uQ,L2.yn,L2.Ec,L2.tj,L2.AE,L2.sJ,L2.Bk,L2.AF,L2.yw,L2.xY,L2.yF,L2.Wj,L2.Kk,L2.QB,L2.fU,L2.QT,L2.QS,L2.QR,L2.QQ,L2.QP,L2.QO,L2.QN,L2.yu,Law.JT,Law.Hj,Law.JS,Law.Hh,Law.JR,Law.Hi,L2.FP,String.reduceBEq,
 j4,Lg,jC,KZ,o6,N8,O0,lN,v9,X9,aF,dJ,W5,rh,wF,P7,Nat.reduceAdd,Nat.reduceSub,Nat.reduceEqDiff,Nat.reduceLeDiff,Nat.reduceLT,Int.reduceToNat,Lv,eq_self,
 A9,M6,reduceIte,nY,decide_true,decide_false,aG,Ct,pA,Bool.not_true,Bool.not_false,lV,not_false_eq_true,Bool.true_or,Bool.false_or,Bool.or_true,BS,Bool.and_true,Bool.true_and,Bool.and_false,vS,reduceCtorEq,and_self])
namespace Law
open PySem L2
section
variable{m k j B kr kp:Nat}{q p:Q2}{a t lo hi D:Int}{ns:List Int}{α:Type}{costs prices:List Tr}{rows:List (List Q2)}
def HJ(k:Nat)(l:List (Option Q2)):Prop:=∀t,some t∈l->l7 k t
theorem HJ.at{k:Nat}{l:List (Option Q2)}(h:HJ k l){i:Nat}{t:Q2}(e:l.getD i none=some t):l7 k t:=by
 by_cases hi:i<l.length
 . rw[P8,J3 hi]at e;exact h t (by rw[<-(show l[i]=some t from e)];exact lQ ..)
 . rw[P8,rk (by lia)]at e
   cases e
abbrev w9:Tr:=⟨q0,q0,q0⟩
theorem pT(h:1<=m):B5 m w9:=⟨Z0 h,Z0 h,Z0 h⟩
def HP(k:Nat)(l:List Tr):Prop:=∀x∈l,B5 k x
theorem HP.at{l:List Tr}(h:HP k l){i:Nat}(hi:i<l.length):B5 k (l.getD i w9):=by rw[P8,J3 hi];exact h _ (lQ ..)
def gr(costs:List Tr)(mix:List Q2):Nat->Tr
 | 0=>w9
 |i+1=>aU (gr costs mix i) (costs.getD i w9) (mix.getD i q0)
theorem um{costs:List Tr}{mix:List Q2}{k l:Nat}:∀i,(∀j,j<i->B5 k (costs.getD j w9)/\l7 l (mix.getD j q0))->B5 (1+(k+l+1)*i) (gr costs mix i)
 | 0,_=>pT (by lia)
 |i+1,h=>by
  have h1:=um i λj hj=>h j (by lia)
  have h2:=h i (by lia)
  refine(EC h1 h2.1 h2.2).mono ?_;rw[BG,Nat.mul_one];lia
theorem WT(x:Tr):Sh 2 (p9 x):=Ir λy hy=>by simp at hy;rcases hy with rfl|rfl|rfl<;>exact zg _
theorem ko(h:l7 k q)(hk:k<=8000):W6 [fr q]=some (.dat (.bool true)):=by
 have w:∀i:Int,fZ [.int i]=some (.dat (.bool true)):=λi=>by delta fZ;walk_at "r"
 delta W6;walk_at "r";rw[w,w];walk_at "r";simp only[h.pos];walk_at "r";rw[norm_eq h.pos (h.bb.mono hk),An h];walk_at "r";rw[tS (zg q)];rfl
theorem AD{x:Tr}(h:B5 k x)(hk:k<=8000):cv [p9 x]=some (.dat (.bool true)):=by delta cv p9;walk_at "r";simp only[D6,gY];walk_at "r";rw[ko h.a hk,ko h.b hk,ko h.c hk];rfl
theorem AX{b c d:Int}(hb:0<b)(hd:0<d):((a:Rat)/(b:Rat)<(c:Rat)/(d:Rat))↔a*d<c*b:=by
 have hb':(0:Rat)<(b:Rat):=by exact_mod_cast hb
 have hd':(0:Rat)<(d:Rat):=by exact_mod_cast hd
 have e1:(a:Rat)/(b:Rat)*((b:Rat)*(d:Rat))=(a:Rat)*(d:Rat):=by grind
 have e2:(c:Rat)/(d:Rat)*((b:Rat)*(d:Rat))=(c:Rat)*(b:Rat):=by grind
 constructor
 . intro h;have:=Ml h (aB hb' hd');rw[e1,e2]at this
   exact_mod_cast this
 . intro h;have h':(a:Rat)*(d:Rat)<(c:Rat)*(b:Rat):=by exact_mod_cast h
   refine Rat.lt_of_mul_lt_mul_right (c:=(b:Rat)*(d:Rat)) ?_ (Rat.le_of_lt (aB hb' hd'));rw[e1,e2];exact h'
theorem jf(hp:0<p.2)(hq:0<q.2):dW p q=decide (val p<val q):=by delta dW val;rw[decide_eq_decide];exact(AX hp hq).symm
theorem cF:val (0,1)=0:=by rw[val_one];rfl
theorem SJ(hp:0<p.2):p.1<0↔val p<0:=by
 have:=AX (a:=p.1) (b:=p.2) (c:=0) (d:=1) hp (by decide)
 have e:((0:Int):Rat)/((1:Int):Rat)=0:=by rw[show(((0:Int):Rat))=0 from rfl];grind
 rw[e]at this;delta val;rw[this];simp
theorem uK(hp:0<p.2):0<=p.1↔0<=val p:=by
 have:=SJ hp;constructor
 . intro h;exact Rat.not_lt.mp λz=>by have:=this.mpr z;lia
 . intro h;exact Int.not_lt.mp λz=>Rat.not_lt.mpr h (this.mp z)
theorem oJ{b:Int}(hb:0<b)(ht:0<=t):0<=(r9 t b).1:=by
 have hg:0<n9 t b:=pE t (by lia)
 have hgi:(0:Int)<gc t b:=by show(0:Int)<((n9 t b:Nat):Int);lia
 delta r9;rw[e9 (by lia)]
 show 0<=t.fdiv (gc t b)
 exact Int.fdiv_nonneg ht (by lia)
theorem mq{k:Int}(hl:ns.length<=63)(hk0:0<=k)(hk1:k<=100000)(l0 : -10<=lo)(lh:lo<=hi)(h1:hi<=10):
  ∃q:Q2,E5 [C7 ns,.int k,.int lo,.int hi]=some (.dat (fr q))/\l7 14 q/\(0<=lo->0<=q.1)/\FD 30 10000 q:=by
 obtain⟨b',eb,b0',b1'⟩:=L3 (ns:=ns) (k:=k+1900) (m:=6) hl (by lia) (by lia) (by decide)
 obtain⟨b,hb,b0,b1,b30⟩:∃b:Int,K5 [ao 1,.int 1,.int 1,.int 2,.int 3,.int 10] b'=some (.int b)/\0<b/\b<=10/\b∣30:=by
  have:b'=0\/b'=1\/b'=2\/b'=3\/b'=4\/b'=5:=by lia
  rcases this with rfl|rfl|rfl|rfl|rfl|rfl<;>exact⟨_,rfl,by decide,by decide,by decide⟩
 obtain⟨f',ef,f0',f1'⟩:=L3 (ns:=ns) (k:=1) (m:=6) hl (by decide) (by decide) (by decide)
 obtain⟨f,hf,f0,f1⟩:∃b:Int,K5 [ao 1,.int 1,.int 1,.int 1,.int 1,.int 1000] f'=some (.int b)/\0<b/\b<=1000:=by
  have:f'=0\/f'=1\/f'=2\/f'=3\/f'=4\/f'=5:=by lia
  rcases this with rfl|rfl|rfl|rfl|rfl|rfl<;>exact⟨_,rfl,by decide,by decide⟩
 obtain⟨d,ed,d0,d1⟩:=L3 (ns:=ns) (k:=k) (m:=hi-lo+1) hl (by lia) (by lia) (by lia)
 have c1 : -10<=lo+d:=by lia
 have c2:lo+d<=10:=by lia
 have m1:f*(lo+d)<=10000:=by
  have:f*(lo+d)<=f*10:=bP c2 (by lia)
  lia
 have m2 : -10000<=f*(lo+d):=by
  have:f*(-10)<=f*(lo+d):=bP c1 (by lia)
  lia
 delta E5;walk_at "r";rw[eb];walk_at "r";rw[hb];walk_at "r";rw[ef];walk_at "r";rw[hf];walk_at "r";rw[ed];walk_at "r";rw[p8 (Bt.ic (by lia) (by lia)) (Bt.ic (by lia) (by lia))]
 walk_at "r";rw[norm_eq b0 (Bt.ic (by lia) (by lia))]
 refine⟨_,rfl,bK b0 ⟨by lia⟩ ⟨by lia⟩,λh=>oJ b0 (bN (by lia) (by lia)),vk b0 b30 (by lia)⟩
theorem Px:Bt 200 (10 ^ 60):=⟨by decide +kernel⟩
theorem Qn:tF (.int 10) (.int 60)=some (.dat (.int (10 ^ 60))):=zU ⟨by decide,by decide,by decide⟩
theorem Po{k:Int}(hl:ns.length<=63)(hk0:0<=k)(hk1:k<=50000):∃x:Tr,iJ [C7 ns,.int k]=some (.dat (p9 x))/\B5 214 x/\TD (30*10 ^ 60) (10 ^ 64) x:=by
 obtain⟨d1,e1,p1,r1⟩:=L3 (ns:=ns) (k:=k+1) (m:=3) hl (by lia) (by lia) (by decide)
 obtain⟨d3,e3,p3,r3⟩:=L3 (ns:=ns) (k:=k+3) (m:=2) hl (by lia) (by lia) (by decide)
 obtain⟨d6,e6,p6,r6⟩:=L3 (ns:=ns) (k:=k+6) (m:=12) hl (by lia) (by lia) (by decide)
 obtain⟨d7,e7,p7,r7⟩:=L3 (ns:=ns) (k:=k+7) (m:=2) hl (by lia) (by lia) (by decide)
 obtain⟨s2,f2,g2,_,w2⟩:=mq (ns:=ns) (k:=k+2) (lo:=-2) (hi:=3) hl (by lia) (by lia) (by decide) (by decide) (by decide)
 obtain⟨s4,f4,g4,_,w4⟩:=mq (ns:=ns) (k:=k+4) (lo:=-2) (hi:=3) hl (by lia) (by lia) (by decide) (by decide) (by decide)
 obtain⟨s5,f5,g5,_,w5⟩:=mq (ns:=ns) (k:=k+5) (lo:=-6) (hi:=9) hl (by lia) (by lia) (by decide) (by decide) (by decide)
 have Z:l7 14 q0:=Z0 (by decide)
 have first:∃a:Q2,l7 14 a/\FD 30 10000 a/\(if d1=0 then some (Out.next [some (.dat (C7 ns)),iD k,some (.dat (fr s2)),some (.dat (fr q0)),none])else some (Out.next [some (.dat (C7 ns)),iD k,some (.dat (fr q0)),some (.dat (fr q0)),none]))=some (Out.next [some (.dat (C7 ns)),iD k,some (.dat (fr a)),some (.dat (fr q0)),none]):=by
  by_cases c:d1=0
  . exact⟨s2,g2,w2,c7 c⟩
  . exact⟨q0,Z,gB (by decide),e9 c⟩
 obtain⟨a,ha,wa,ea⟩:=first
 have second:∃b:Q2,l7 14 b/\FD 30 10000 b/\(if d3=0 then some (Out.next [some (.dat (C7 ns)),iD k,some (.dat (fr a)),some (.dat (fr s4)),none])else some (Out.next [some (.dat (C7 ns)),iD k,some (.dat (fr a)),some (.dat (fr q0)),none]))=some (Out.next [some (.dat (C7 ns)),iD k,some (.dat (fr a)),some (.dat (fr b)),none]):=by
  by_cases c:d3=0
  . exact⟨s4,g4,w4,c7 c⟩
  . exact⟨q0,Z,gB (by decide),e9 c⟩
 obtain⟨b,hb,wb,eb⟩:=second;have up:∀{q:Q2},FD 30 10000 q->FD (30*10 ^ 60) (10 ^ 64) q:=λh=>h.mono ⟨10 ^ 60,rfl⟩ (by decide)
 have fz:fr q0=eQ [.int 0,.int 1]:=rfl;rw[fz]at ea eb;delta iJ;walk_at "r";rw[e1];walk_at "r";rw[f2];walk_at "r";rw[ea];walk_at "r";rw[e3];walk_at "r";rw[f4];walk_at "r";rw[eb];walk_at "r";rw[f5];walk_at "r";rw[e6];walk_at "r";by_cases c:d6=0
 . rw[c7 c,e7];walk_at "r";rw[p8 Bt.lit (Bt.ic (by lia) (by lia)),Qn]
   walk_at "r";rw[Qn];walk_at "r";rw[p8 (g5.bt.mono (by decide)) (Px.mono (by decide))]
   walk_at "r";rw[norm_eq g5.pos (g5.bb.mono (by decide))]
   walk_at "r";have b7:Bt 214 (2*d7-1):=Bt.ic (by lia) (by lia)
   have g7:n9 (2*d7-1) (10 ^ 60)=1:=by
    have:d7=0\/d7=1:=by lia
    rcases this with rfl|rfl
    . show n9 (-1) (10 ^ 60)=1
      rw[BF,Int.one_gcd]
    . show n9 1 (10 ^ 60)=1
      rw[Int.one_gcd]
   refine⟨⟨(2*d7-1,10 ^ 60),b,_⟩,rfl,⟨⟨by show(0:Int)<10 ^ 60;decide,g7,b7,Px.mono (by decide)⟩,hb.mono (by decide),bK g5.pos ((g5.bt.mul Px).mono (by decide)) (g5.bb.mono (by decide))⟩,⟨⟨by show(0:Int)<10 ^ 60;decide,g7,⟨30,by show(30*10 ^ 60:Int)=10 ^ 60*30;decide⟩,?_⟩,up wb,vk g5.pos (gP w5.dvd ⟨10 ^ 60,rfl⟩) ?_⟩⟩
   . show((2*d7-1).natAbs:Int)<=10 ^ 64*10 ^ 60
     have:((2*d7-1).natAbs:Int)<=1:=by lia
     exact qO this (by decide)
   . have m5:=w5.sF;rw[aE,Ca];have e:((10 ^ 60:Int).natAbs:Int)=10 ^ 60:=by decide
     have:=iX m5 (show(0:Int)<=10 ^ 60 by decide)
     calc (s5.1.natAbs:Int)*((10 ^ 60:Int).natAbs:Int)=(s5.1.natAbs:Int)*10 ^ 60:=by rw[e]
      _<=10000*s5.2*10 ^ 60:=this
      _=10 ^ 64*s5.2:=by rw[Int.mul_right_comm];congr 1
 . rw[e9 c];walk_at "r";exact⟨⟨a,b,s5⟩,rfl,⟨ha.mono (by decide),hb.mono (by decide),g5.mono (by decide)⟩,⟨up wa,up wb,up w5⟩⟩
abbrev V5(j:Nat):c6:=.int (j:Int)
abbrev nats(l:List Nat):c6:=.list (l.map V5)
theorem Bb{l:List α}:cutD l none (some (m:Int))=l.take m:=by
 delta cutD;have e:HT.E3 l.length l.length (some (m:Int))=min m l.length:=by
  show(if (m:Int)<0 then((m:Int)+(l.length:Int)).toNat else min (m:Int).toNat l.length)=_
  rw[e9 (by lia),J8]
 rw[e];show(l.drop 0).take (min m l.length-0)=_
 rw[List.drop_zero,Nat.sub_zero,<-List.take_eq_take_min]
theorem uR(d:Nat->Int):∀l:List Nat,keysOf (l.map λi=>.tuple [.int (d i),.int (i:Int)])=some (l.map λi=>[d i,(i:Int)])
 | []=>rfl
 |i::r=>by rw[o6,keysOf,uR d r];rfl
theorem FX(d:Nat->Int){n:Nat}(h0:1<=n)(h1:n<64):∃o:List Nat,rH [.list ((A4 n).map λi=>.tuple [.int (d i),.int (i:Int)])]=some (.own (o.map λi=>.tuple [.int (d i),.int (i:Int)]))/\o.Perm (A4 n):=by
 by_cases c:n<2
 . have:n=1:=by lia
   subst this;exact⟨[0],rfl,List.Perm.refl _⟩
 . have sd:∀l:List c6,rH [.list l]=if l.length<2 then some (.own l)else(keysOf l).bind λks=>if l.length<64/\(∀k∈ks,k≠[])then some (.own ((qj ks).map λi=>l.getD i .none))else none:=λl=>rfl
   rw[sd,e9 (by rw[N9,nX];exact c),uR]
   simp only[j4];rw[c7 ⟨by simpa using h1,λk hk=>by obtain⟨i,_,rfl⟩:=mem_map.mp hk;simp⟩]
   have P:=qi (ks:=(A4 n).map λi=>[d i,(i:Int)]) (by simp;lia)
   rw[N9,nX]at P;refine⟨qj ((A4 n).map λi=>[d i,(i:Int)]),?_,P⟩
   congr 2
   apply wu;intro i hi;have hi':i<n:=mem_range.mp (P.mem_iff.mp hi);rw[P8,Q6,lY hi'];rfl
structure WB(n m:Nat)(fs:List Nat):Prop where
 len:fs.length=m
 nodup:fs.Nodup
 lt:∀j∈fs,j<n
theorem Kh{n:Nat}(hl:ns.length<=63)(n0:1<=n)(n1:n<=20)(hm:m<=n):∃fs:List Nat,bU [C7 ns,.int n,.int m]=some (.own (fs.map V5))/\WB n m fs:=by
 have D:=λi:Nat=>λh:i<=1000=>L3 (ns:=ns) (k:=40+(i:Int)) (m:=1000) hl (by lia) (by lia) (by decide)
 let d:Nat->Int:=λi=>if h:i<=1000 then(D i h).choose else 0
 have hd:∀i,i<n->B1 [C7 ns,.int (40+(i:Int)),.int 1000]=some (.dat (.int (d i))):=λi hi=>by
  have h:i<=1000:=by lia
  show _=some (PV.dat (.int (if h:i<=1000 then(D i h).choose else 0)))
  rw[dif_pos h];exact(D i h).choose_spec.1
 obtain⟨o,eo,po⟩:=FX d n0 (by lia)
 delta bU;walk_at "r";rw[C8 (by lia)]
 walk_at "r";rw[J8,Pp (f:=λi:Nat=>eQ [.int (d i),.int (i:Int)]) (λi hi=>⟨PV.dat (.tuple [.int (d i),.int (i:Int)]),by delta mn;walk_at "r";rw[J2,hd i hi];walk_at "r",rfl⟩)]
 walk_at "r";rw[c7 (by rw[nj];lia)]
 walk_at "r";rw[eo];walk_at "r";rw[Bb,<-List.map_take,comp_map (f:=V5) (λi hi=>⟨.dat (V5 i),by delta mj;walk_at "r",rfl⟩)]
 walk_at "r";have lo:o.length=n:=by rw[po.length_eq,nX]
 rw[c7 (by rw[N9,nW];lia)]
 walk_at "r";refine⟨o.take m,rfl,by rw[nW];lia,?_,?_⟩
 . exact(po.nodup_iff.mpr Lf).sublist (Lr ..)
 . intro j hj;exact mem_range.mp (po.mem_iff.mp (List.mem_of_mem_take hj))
theorem FI(fs:List Nat)(j:Nat):(fs.map V5).any (λy=>qC y (V5 j))=decide (j∈fs):=by
 induction fs with
 |nil=>rfl
 |cons i r ih =>
  rw[o6,qT,ih];have:qC (V5 i) (V5 j)=decide (i=j):=by
   show((i:Int)==(j:Int))=_
   rw[jF];simp;lia
  rw[this];by_cases c1:i=j
  . subst c1;simp
  . by_cases c2:j∈r<;>simp[c1,c2,BR,gJ c1]
theorem yD(fs:List Nat):(fs.map V5).all Flat=true:=by simp[Flat]
theorem SS(fs:List Nat)(j:Nat):inD (V5 j) (nats fs)=some (.dat (.bool (decide (j∈fs)))):=by
 show(if Flat (V5 j)=true/\(fs.map V5).all Flat=true then some (PV.dat (.bool ((fs.map V5).any λy=>qC y (V5 j))))else none)=_
 rw[c7 ⟨rfl,yD fs⟩,FI]
theorem GL(fs:List Nat)(j:Nat):ql (V5 j) (nats fs)=some (.dat (.bool (!decide (j∈fs)))):=by
 show(if Flat (V5 j)=true/\(fs.map V5).all Flat=true then some (PV.dat (.bool (!(fs.map V5).any λy=>qC y (V5 j))))else none)=_
 rw[c7 ⟨rfl,yD fs⟩,FI]
theorem RB{i:Nat}{Fk Fv:Ds->Option PV}{ds:Ds}{l:List c6}{pv:PV}(h1:Fv ds=some pv)(h2:Fk ds=some (.dat (V5 k)))(h3:ds[i]? = some (some (.own l)))(hk:k<l.length):
  S6 i Fk Fv ds=some (.next (ds.set i (some (.own (l.set k pv.d))))):=by
 have e:fT l.length (k:Int)=some k:=by delta fT;rw[c7 (by lia),c7 (by lia),J8]
 delta S6;rw[h1,j4,h2,j4,h3];show(fT l.length (k:Int)).bind _=_
 rw[e];rfl
abbrev q1:Q2:=(1,1)
theorem Xq:FD 30 10000 q1:=⟨by decide,by decide,⟨30,by decide⟩,by decide⟩
theorem SW(hm:1<=m):l7 m q1:=ix (Bt.mono (m:=1) ⟨by decide⟩ hm) hm
def mX(D M:Int)(l:List Q2):Prop:=∀q∈l,FD D M q
theorem mX.at{M:Int}{l:List Q2}(h:mX D M l){i:Nat}(hi:i<l.length):FD D M (l.getD i q0):=by rw[P8,J3 hi];exact h _ (lQ ..)
theorem mX.snoc{M:Int}{l:List Q2}(h:mX D M l)(hq:FD D M q):mX D M (l++[q]):=λx hx=>by
 rcases List.mem_append.mp hx with hx|hx
 . exact h x hx
 . simp at hx;subst hx;exact hq
theorem mX.set{D M:Int}{l:List Q2}{q:Q2}{i:Nat}(h:mX D M l)(hq:FD D M q):mX D M (l.set i q):=λx hx=>by
 rcases Md hx with hx|rfl
 . exact h x hx
 . exact hq
structure QZ(n:Nat)(fs:List Nat)(f:Nat)(r:List Q2):Prop where
 len:r.length=n
 all:de 14 r
 fd:mX 30 10000 r
 one:r.getD f q0=q1
 uI:∀j∈fs,j≠f->r.getD j q0=q0
structure Wx(n:Nat)(fs:List Nat)(rows:List (List Q2)):Prop where
 len:rows.length=fs.length
 row:∀k,k<fs.length->QZ n fs (fs.getD k 0) (rows.getD k [])
theorem getD_snoc{l:List α}{x a:α}{i:Nat}:(l++[x]).getD i a=if i<l.length then l.getD i a else if i=l.length then x else a:=by
 rw[P8,P8,CD];by_cases c:i<l.length
 . rw[c7 c,c7 c]
 . rw[e9 c,e9 c];by_cases c2:i=l.length
   . rw[c7 c2];subst c2;simp
   . rw[e9 c2,rk (by simp;lia)]
     rfl
theorem AH{l:List α}{x a:α}{i:Nat}(h:i<l.length):(l.set i x).getD j a=if i=j then x else l.getD j a:=by
 rw[P8,P8,qX];by_cases c:i=j
 . rw[c7 c,c7 c,c7 h];rfl
 . rw[e9 c,e9 c]
theorem de.snoc{l:List Q2}(h:de k l)(hq:l7 k q):de k (l++[q]):=λx hx=>by
 rcases List.mem_append.mp hx with hx|hx
 . exact h x hx
 . simp at hx;subst hx;exact hq
theorem de.set{k:Nat}{l:List Q2}{q:Q2}{i:Nat}(h:de k l)(hq:l7 k q):de k (l.set i q):=λx hx=>by
 rcases Md hx with hx|rfl
 . exact h x hx
 . exact hq
theorem Ou{f:α->c6}{l:List α}{i:Nat}{x:α}:(l.map f).set i (f x)=(l.set i x).map f:=by rw[List.map_set]
theorem MV{i n:Nat}{fs:List Nat}{rs:List c6}(hl:ns.length<=63)(hi:i<=100)(hj:j<n)(hn:n<=20)(x7:Option PV)(r:List Q2)(hr:r.length=j):
  ∃q y7,hJ [some (.dat (C7 ns)),iD n,some (.dat (nats fs)),some (.own rs),iD (0+(i:Int)),some (.own (r.map fr)),iD (0+(j:Int)),x7]=some (.next [some (.dat (C7 ns)),iD n,some (.dat (nats fs)),some (.own rs),iD (0+(i:Int)),some (.own ((r++[q]).map fr)),iD (0+(j:Int)),y7])/\l7 14 q/\FD 30 10000 q/\(j∈fs->q=q0):=by
 obtain⟨d,ed,d0,d1⟩:=L3 (ns:=ns) (k:=100+20*(i:Int)+(j:Int)) (m:=3) hl (by lia) (by lia) (by decide)
 obtain⟨s,es,fs',_,ws⟩:=mq (ns:=ns) (k:=300+20*(i:Int)+(j:Int)) (lo:=-4) (hi:=6) hl (by lia) (by lia) (by decide) (by decide) (by decide)
 have Z:l7 14 q0:=Z0 (by decide)
 have ap:∀(q:Q2) (x6:Option PV),Bu (some (.dat (fr q))) 5 [some (.dat (C7 ns)),iD n,some (.dat (nats fs)),some (.own rs),iD (i:Int),some (.own (r.map fr)),x6,some (.dat (fr q))]=some (.next [some (.dat (C7 ns)),iD n,some (.dat (nats fs)),some (.own rs),iD (i:Int),some (.own ((r++[q]).map fr)),x6,some (.dat (fr q))]):=λq x6=>by
  rw[cQ (l:=r.map fr) _ rfl (by rw[N9];lia),gQ]
  rfl
 delta hJ;rw[J2,J2];walk_at "r";rw[GL];walk_at "r";rw[p8 Bt.lit (Bt.ic (by lia) (by lia))]
 walk_at "r";rw[ed];walk_at "r";by_cases c:j∈fs
 . simp only[c];walk_at "r";rw[show eQ [.int 0,.int 1]=fr q0 from rfl,ap]
   exact⟨q0,_,rfl,Z,gB (by decide),λ_=>rfl⟩
 . by_cases c2:0<d
   . simp only[c,c2];walk_at "r";rw[es];walk_at "r";rw[ap];exact⟨s,_,rfl,fs',ws,λh=>by first|exact absurd h c|exact h.elim⟩
   . simp only[c,c2];walk_at "r";rw[show eQ [.int 0,.int 1]=fr q0 from rfl,ap]
     exact⟨q0,_,rfl,Z,gB (by decide),λ_=>rfl⟩
theorem RF{n:Nat}{fs:List Nat}(hl:ns.length<=63)(hn:n<=20)(F:WB n m fs):∃rows:List (List Q2),cZ [C7 ns,.int n,nats fs]=some (.own (rows.map L9))/\Wx n fs rows:=by
 have hfl:fs.length<=n:=by
  have:=(Lf (n:=n)).length_le_of_subset (l₂:=A4 n);have h2:fs.length<=(A4 n).length:=F.nodup.length_le_of_subset λj hj=>mem_range.mpr (F.lt j hj)
  simpa using h2
 delta cZ;walk_at "r";rw[N9,C8 (by lia)]
 walk_at "r";obtain⟨ds',h1,rows,R1,R2,y4,y5,y6,y7,rfl⟩:=Z9 (gt:=z9 4) (G:=kH) (lo:=0) (n:=fs.length) (ds:=[some (.dat (C7 ns)),iD n,some (.dat (nats fs)),some (.own []),none,none,none,none])
  (λi ds=>∃rows:List (List Q2),rows.length=i/\(∀k,k<i->QZ n fs (fs.getD k 0) (rows.getD k []))/\∃y4 y5 y6 y7,ds=[some (.dat (C7 ns)),iD n,some (.dat (nats fs)),some (.own (rows.map L9)),y4,y5,y6,y7])
  ⟨[],rfl,λk hk=>by lia,none,none,none,none,rfl⟩ (by
   rintro i ds hi ⟨rows,R1,R2,y4,y5,y6,y7,rfl⟩;have hfi:fs.getD i 0<n:=by rw[P8,J3 hi];exact F.lt _ (lQ ..)
   obtain⟨ds',h1,r,r1,r2,rd,r3,z6,z7,rfl⟩:=Z9 (gt:=z9 6) (G:=hJ) (lo:=0) (n:=n) (ds:=[some (.dat (C7 ns)),iD n,some (.dat (nats fs)),some (.own (rows.map L9)),iD (0+(i:Int)),some (.own []),y6,y7])
    (λj ds=>∃r:List Q2,r.length=j/\de 14 r/\mX 30 10000 r/\(∀k∈fs,r.getD k q0=q0)/\∃z6 z7,ds=[some (.dat (C7 ns)),iD n,some (.dat (nats fs)),some (.own (rows.map L9)),iD (0+(i:Int)),some (.own (r.map fr)),z6,z7])
    ⟨[],rfl,λq hq=>by simp at hq,λq hq=>by simp at hq,λk _=>rfl,y6,y7,rfl⟩ (by
     rintro j ds hj ⟨r,r1,r2,rd,r3,z6,z7,rfl⟩;obtain⟨q,y7,e,fq,dq,zq⟩:=MV (i:=i) (fs:=fs) (rs:=rows.map L9) hl (by lia) hj hn z7 r r1
     refine⟨_,_,rfl,.inl e,r++[q],by simp[r1],r2.snoc fq,rd.snoc dq,?_,_,_,rfl⟩
     intro k hk;rw[getD_snoc];by_cases c:k<r.length
     . rw[c7 c];exact r3 k hk
     . rw[e9 c];by_cases c2:k=r.length
       . rw[c7 c2];exact zq (by rw[<-r1,<-c2];exact hk)
       . rw[e9 c2])
   have hr:fs.getD i 0<(r.map fr).length:=by rw[N9,r1];exact hfi
   have S:=RB (i:=5) (k:=fs.getD i 0) (Fk:=c9 j5 (b9 2) (b9 4)) (Fv:=C2 (c5 (fC (.int 1)) (c5 (fC (.int 1)) c8))) (ds:=[some (.dat (C7 ns)),iD n,some (.dat (nats fs)),some (.own (rows.map L9)),iD (0+(i:Int)),some (.own (r.map fr)),z6,z7]) (l:=r.map fr) (pv:=.dat (fr q1)) (by walk_at "r") (by walk_at "r";rw[U0 (f:=V5) 0 hi];rfl) rfl hr
   refine⟨_,[some (.dat (C7 ns)),iD n,some (.dat (nats fs)),some (.own ((rows++[r.set (fs.getD i 0) q1]).map L9)),iD (0+(i:Int)),some (.dat (L9 (r.set (fs.getD i 0) q1))),z6,z7],rfl,.inl ?_,rows++[r.set (fs.getD i 0) q1],by simp[R1],?_,_,_,_,_,rfl⟩
   . delta kH;walk_at "r";rw[C8 (by lia)]
     walk_at "r";rw[J8,h1];simp only[j0];rw[j7,S];simp only[j0];walk_at "r";rw[Ou,cQ (l:=rows.map L9) _ rfl (by rw[N9];lia),gQ]
     rfl
   . intro k hk;rw[getD_snoc];by_cases c:k<rows.length
     . rw[c7 c];exact R2 k (by lia)
     . have e:k=i:=by lia
       subst e;rw[e9 c,c7 R1.symm];have hf:fs.getD k 0<r.length:=by rw[r1];exact hfi
       refine⟨by rw[Cf,r1],r2.set (SW (by decide)),rd.set Xq,by rw[AH hf,c7 rfl],λj hj hne=>?_⟩
       rw[AH hf,e9 (λz=>hne z.symm)]
       exact r3 j hj)
 rw[J8,h1];walk_at "r";exact⟨rows,rfl,R1,R2⟩
theorem DB{row mix:List Q2}{l:Nat}(hl:row.length=mix.length)(hn:row.length<=1000)(hr:de k row)(hm:de l mix)(hB:∀i,i<=row.length->l7 B (pZ row mix i))(hk:B+(k+l)<=7998):
  aR [L9 row,L9 mix]=some (.dat (fr (Qk row mix))):=by
 delta aR;walk_at "r";rw[N9,C8 (by lia)]
 walk_at "r";obtain⟨ds',h1,y3,rfl⟩:=Z9 (gt:=z9 3) (G:=fj) (lo:=0) (n:=row.length) (ds:=[some (.dat (L9 row)),some (.dat (L9 mix)),some (.dat (fr q0)),none])
  (λi ds=>∃y3,ds=[some (.dat (L9 row)),some (.dat (L9 mix)),some (.dat (fr (pZ row mix i))),y3]) ⟨none,rfl⟩ (by
   rintro i ds hi ⟨y3,rfl⟩;have fa:=hr.at hi;have fb:=hm.at (i:=i) (by lia)
   have fc:=hB i (by lia)
   refine⟨_,_,rfl,.inl ?_,iD (0+(i:Int)),rfl⟩;delta fj;walk_at "r";rw[U0 q0 hi,U0 q0 (show i<mix.length by lia)]
   walk_at "r";by_cases z:(row.getD i q0).1=0
   . simp only[z];walk_at "r";rw[show pZ row mix (i+1)=pZ row mix i by
      show M4 _ _=_
      rw[gm fa.pos fb.pos (.inl z),jj fc]]
   . by_cases z':(mix.getD i q0).1=0
     . simp only[z,z'];walk_at "r";rw[show pZ row mix (i+1)=pZ row mix i by
        show M4 _ _=_
        rw[gm fa.pos fb.pos (.inr z'),jj fc]]
     . simp only[z,z'];walk_at "r";rw[rR fa fb (by lia)]
       walk_at "r";rw[wU fc (N6 fa fb) (by lia)]
       rfl)
 rw[J8,h1];walk_at "r"
def Hu(row mix:List Q2):Nat->Rat
 | 0=>0
 |i+1=>Hu row mix i+val (row.getD i q0)*val (mix.getD i q0)
theorem DU{row mix:List Q2}{k l:Nat}:∀i,(∀j,j<i->l7 k (row.getD j q0)/\l7 l (mix.getD j q0))->val (pZ row mix i)=Hu row mix i
 | 0,_=>cF
 |i+1,h=>by
  have h1:=tm i λj hj=>h j (by lia)
  have h2:=h i (by lia)
  show val (M4 _ _)=_+_
  rw[sX h1.pos (N6 h2.1 h2.2).pos,pQ h2.1.pos h2.2.pos,DU i λj hj=>h j (by lia)]
theorem neg_eq(q:Q2):da [fr q]=some (.dat (fr (tL q))):=by delta da;walk_at "r";rfl
def gv(costs:List Tr)(rows:List (List Q2))(prices:List Tr)(j:Nat):Nat->Tr
 | 0=>costs.getD j w9
 |i+1=>aU (gv costs rows prices j i) (prices.getD i w9) (tL ((rows.getD i []).getD j q0))
abbrev dX(costs:List Tr)(rows:List (List Q2))(prices:List Tr):List Tr:=(A4 costs.length).map λj=>gv costs rows prices j rows.length
theorem JB{n:Nat}{x y:Tr}(hx:B5 m x)(hy:B5 n y)(hq:l7 k q)(h:q.1=0):aU x y (tL q)=x:=by
 have z:(tL q).1=0:=by show 0-q.1=0;lia
 have p:=(oG hq).pos;delta aU;rw[gm hy.a.pos p (.inr z),gm hy.b.pos p (.inr z),gm hy.c.pos p (.inr z),jj hx.a,jj hx.b,jj hx.c]
abbrev m1:Q2:=(-1,1)
structure uc(n m kr kp B:Nat)(costs:List Tr)(rows:List (List Q2))(prices:List Tr):Prop where
 nl:n<=1000
 ml:m<=1000
 cl:costs.length=n
 pl:prices.length=m
 rl:rows.length=m
 rw:∀r∈rows,r.length=n/\de kr r
 pf:HP kp prices
 bf:∀j,j<n->∀i,i<=m->B5 B (gv costs rows prices j i)
 bd:B+(kp+1+kr)<=7998
theorem uc.row{n:Nat}(R:uc n m kr kp B costs rows prices){i:Nat}(hi:i<rows.length):(rows.getD i []).length=n/\de kr (rows.getD i []):=by rw[P8,J3 hi];exact R.rw _ (lQ ..)
theorem j9{f:Nat->α}{n i:Nat}(a:α)(h:i<n):((A4 n).map f).getD i a=f i:=by rw[P8,Q6,lY h];rfl
theorem JE{n:Nat}(R:uc n m kr kp B costs rows prices):jK [V2 costs,p5 rows,V2 prices]=some (.own ((dX costs rows prices).map p9)):=by
 have nl:=R.nl;have ml:=R.ml;have cl:=R.cl;have rl:=R.rl;have pl:=R.pl;have bd:=R.bd;delta jK;walk_at "r";rw[N9,C8 (by lia)]
 walk_at "r";obtain⟨ds',h1,y4,y5,y6,rfl⟩:=Z9 (gt:=z9 4) (G:=iZ) (lo:=0) (n:=costs.length) (ds:=[some (.dat (V2 costs)),some (.dat (p5 rows)),some (.dat (V2 prices)),some (.own []),none,none,none])
  (λj ds=>∃y4 y5 y6,ds=[some (.dat (V2 costs)),some (.dat (p5 rows)),some (.dat (V2 prices)),some (.own (((A4 j).map λj=>gv costs rows prices j rows.length).map p9)),y4,y5,y6])
  ⟨none,none,none,rfl⟩ (by
   rintro j ds hj ⟨y4,y5,y6,rfl⟩;obtain⟨ds',h1,y6,rfl⟩:=Z9 (gt:=z9 6) (G:=ja) (lo:=0) (n:=rows.length) (ds:=[some (.dat (V2 costs)),some (.dat (p5 rows)),some (.dat (V2 prices)),some (.own (((A4 j).map λj=>gv costs rows prices j rows.length).map p9)),iD (0+(j:Int)),some (.dat (p9 (costs.getD j w9))),y6])
    (λi ds=>∃y6,ds=[some (.dat (V2 costs)),some (.dat (p5 rows)),some (.dat (V2 prices)),some (.own (((A4 j).map λj=>gv costs rows prices j rows.length).map p9)),iD (0+(j:Int)),some (.dat (p9 (gv costs rows prices j i))),y6])
    ⟨y6,rfl⟩ (by
     rintro i ds hi ⟨y6,rfl⟩;obtain⟨r1,r2⟩:=R.row hi;have fq:=r2.at (i:=j) (by lia)
     have fp:=R.pf.at (i:=i) (by lia)
     have fb:=R.bf j (by lia) i (by lia)
     refine⟨_,_,rfl,.inl ?_,iD (0+(i:Int)),rfl⟩;delta ja;walk_at "r";rw[U0 (f:=L9) [] hi];walk_at "r";rw[U0 q0 (show j<(rows.getD i []).length by lia)]
     walk_at "r";by_cases z:((rows.getD i []).getD j q0).1=0
     . rw[e9 (λh=>h z)]
       rw[show gv costs rows prices j (i+1)=gv costs rows prices j i from JB fb fp fq z]
     . rw[c7 z,U0 (f:=p9) w9 (show i<prices.length by lia)]
       walk_at "r";rw[neg_eq];walk_at "r";rw[uM fb fp (oG fq) (by lia)]
       rfl)
   refine⟨_,[some (.dat (V2 costs)),some (.dat (p5 rows)),some (.dat (V2 prices)),some (.own (((A4 (j+1)).map λj=>gv costs rows prices j rows.length).map p9)),iD (0+(j:Int)),some (.dat (p9 (gv costs rows prices j rows.length))),y6],rfl,.inl ?_,_,_,_,rfl⟩
   delta iZ;walk_at "r";rw[U0 (f:=p9) w9 hj];walk_at "r";rw[N9,C8 (by lia)]
   walk_at "r";rw[J8,h1];walk_at "r";rw[cQ (l:=((A4 j).map λj=>gv costs rows prices j rows.length).map p9) _ rfl (by simp;lia),Cb,gQ,gQ]
   rfl)
 rw[J8,h1];walk_at "r"
end
section
variable{m kr kp B j C kt kg k:Nat}{costs prices rests rts:List Tr}{rows:List (List Q2)}{tp:List (Option Q2)}{init acc y:Tr}
def jY(rests:List Tr)(tp:List (Option Q2))(init:Tr):Nat->Tr
 | 0=>init
 |j+1=>if M0 (rests.getD j w9) w9=true then aU (jY rests tp init j) (rests.getD j w9) ((tp.getD j none).getD q0)else jY rests tp init j
def Wi(rests:List Tr)(tp:List (Option Q2))(j:Nat):Prop:=¬(M0 (rests.getD j w9) w9=true/\tp.getD j none=none)
def Ye:Option Tr->c6
 |none=>.none
 |some t=>p9 t
open Classical in
def QI(costs:List Tr)(rows:List (List Q2))(rights:List Q2)(tp:List (Option Q2))(prices:List Tr):Option Tr :=
 if ∀j,j<costs.length->Wi (dX costs rows prices) tp j then some (jY (dX costs rows prices) tp (gr prices rights rights.length) costs.length)else none
structure WC(n m kr kp kg kt B C:Nat)(costs:List Tr)(rows:List (List Q2))(rights:List Q2)(tp:List (Option Q2))(prices:List Tr):Prop where
 r:uc n m kr kp B costs rows prices
 gl:rights.length=m
 tl:tp.length=n
 gf:de kg rights
 tf:HJ kt tp
 cf:∀j,j<=n->B5 C (jY (dX costs rows prices) tp (gr prices rights rights.length) j)
 b1:1+(kp+kg+1)*m+(kp+kg)<=7998
 b2:C+(B+kt)<=7998
theorem Eg(costs:List Tr)(rows:List (List Q2))(prices:List Tr):(dX costs rows prices).length=costs.length:=by simp[dX]
theorem uc.rt{n:Nat}(R:uc n m kr kp B costs rows prices)(hj:j<n):B5 B ((dX costs rows prices).getD j w9):=by
 rw[j9 w9 (by rw[R.cl];exact hj)]
 exact R.bf j hj _ (by rw[R.rl];exact o3 _)
theorem xy:jY rests tp init (j+1)=if M0 (rests.getD j w9) w9=true then aU (jY rests tp init j) (rests.getD j w9) ((tp.getD j none).getD q0)else jY rests tp init j:=rfl
theorem DC{rest:Tr}{t:Option Q2}(x0 x1 x2 x4 x7:Option PV)(fb:B5 B rest)(fc:B5 C acc)(ft:∀q,t=some q->l7 kt q)(h:C+(B+kt)<=7998)(hr:rts.getD j w9=rest)(ht:tp.getD j none=t)(jr:j<rts.length)(jt:j<tp.length):
  eX [x0,x1,x2,some (.dat (mS tp)),x4,some (.dat (p9 w9)),some (.dat (p9 acc)),x7,some (.dat (V2 rts)),iD (0+(j:Int))]=if M0 rest w9=true then(match t with|none=>some (.ret (.dat .none))|some q=>some (.next [x0,x1,x2,some (.dat (mS tp)),x4,some (.dat (p9 w9)),some (.dat (p9 (aU acc rest q))),x7,some (.dat (V2 rts)),iD (0+(j:Int))]))else some (.next [x0,x1,x2,some (.dat (mS tp)),x4,some (.dat (p9 w9)),some (.dat (p9 acc)),x7,some (.dat (V2 rts)),iD (0+(j:Int))]):=by
 delta eX;walk_at "r";rw[U0 (f:=p9) w9 jr,hr,U0 (f:=o2) none jt,ht];walk_at "r";rw[Bi fb (pT (m:=1) (by decide)) (by lia)]
 walk_at "r";cases M0 rest w9 with
 |false=>rfl
 |true =>
  walk_at "r";cases t with
  |none=>rfl
  |some q =>
   simp only[o2];walk_at "r";rw[U0 (f:=p9) w9 jr,hr,U0 (f:=o2) none jt,ht];simp only[o2];walk_at "r";rw[uM fc fb (ft q rfl) (by lia)]
   rfl
theorem JH{n:Nat}{rights:List Q2}(K:WC n m kr kp kg kt B C costs rows rights tp prices):
  gh [V2 costs,p5 rows,L9 rights,mS tp,V2 prices]=some (.dat (Ye (QI costs rows rights tp prices))):=by
 have nl:=K.r.nl;have ml:=K.r.ml;have cl:=K.r.cl;have pl:=K.r.pl;have rl:=K.r.rl;have gl:=K.gl;have tl:=K.tl;have b1:=K.b1;have b2:=K.b2;have ez:eQ [.tuple [.int 0,.int 1],.tuple [.int 0,.int 1],.tuple [.int 0,.int 1]]=p9 w9:=rfl;delta gh;walk_at "r";rw[N9,C8 (by lia)]
 walk_at "r";rw[ez];obtain⟨ds',h1,y7,rfl⟩:=Z9 (gt:=z9 7) (G:=jb) (lo:=0) (n:=rows.length) (ds:=[some (.dat (V2 costs)),some (.dat (p5 rows)),some (.dat (L9 rights)),some (.dat (mS tp)),some (.dat (V2 prices)),some (.dat (p9 w9)),some (.dat (p9 w9)),none,none,none])
  (λi ds=>∃y7,ds=[some (.dat (V2 costs)),some (.dat (p5 rows)),some (.dat (L9 rights)),some (.dat (mS tp)),some (.dat (V2 prices)),some (.dat (p9 w9)),some (.dat (p9 (gr prices rights i))),y7,none,none]) ⟨none,rfl⟩ (by
   rintro i ds hi ⟨y7,rfl⟩;have fa:=K.r.pf.at (i:=i) (by lia)
   have fb:=K.gf.at (i:=i) (by lia)
   have fc:=um (costs:=prices) (mix:=rights) (k:=kp) (l:=kg) i λj hj=>⟨K.r.pf.at (by lia),K.gf.at (by lia)⟩
   have:=wz (kp+kg+1) (show i<=m by lia)
   refine⟨_,_,rfl,.inl ?_,iD (0+(i:Int)),rfl⟩;delta jb;walk_at "r";rw[U0 (f:=p9) w9 (show i<prices.length by lia),U0 q0 (show i<rights.length by lia)]
   walk_at "r";rw[uM fc fa fb (by lia)]
   rfl)
 rw[J8,h1];walk_at "r";rw[JE K.r];walk_at "r";rw[N9,Eg,C8 (by lia)]
 walk_at "r";rw[J8];have L:=Hs (gt:=z9 9) (G:=eX) (items:=V3 0 costs.length) (ds:=[some (.dat (V2 costs)),some (.dat (p5 rows)),some (.dat (L9 rights)),some (.dat (mS tp)),some (.dat (V2 prices)),some (.dat (p9 w9)),some (.dat (p9 (gr prices rights rights.length))),y7,some (.dat (V2 (dX costs rows prices))),none])
  (Wi (dX costs rows prices) tp) (.dat .none) (λj ds=>∃y9,ds=[some (.dat (V2 costs)),some (.dat (p5 rows)),some (.dat (L9 rights)),some (.dat (mS tp)),some (.dat (V2 prices)),some (.dat (p9 w9)),some (.dat (p9 (jY (dX costs rows prices) tp (gr prices rights rights.length) j))),y7,some (.dat (V2 (dX costs rows prices))),y9]) ⟨none,rfl⟩ (by
   rintro j d ds hj ⟨y9,rfl⟩;obtain⟨j1,rfl⟩:=RG hj;have j3:j<n:=by lia
   have BD:=DC (some (.dat (V2 costs))) (some (.dat (p5 rows))) (some (.dat (L9 rights))) (some (.dat (V2 prices))) y7 (K.r.rt j3) (K.cf j (by lia)) (t:=tp.getD j none) (λq hq=>K.tf.at hq) b2 rfl rfl (by rw[Eg];lia) (show j<tp.length by lia)
   refine⟨_,rfl,?_⟩;rw[xy];by_cases hc:M0 ((dX costs rows prices).getD j w9) w9=true
   . rw[c7 hc]at BD;rw[c7 hc];cases ht:tp.getD j none with
     |none =>
      rw[ht]at BD;exact .inr ⟨λz=>z ⟨hc,ht⟩,BD⟩
     |some t =>
      rw[ht]at BD;exact .inl ⟨(λz=>by rw[ht]at z;exact absurd z.2 (by simp)),_,BD,_,rfl⟩
   . rw[e9 hc]at BD;rw[e9 hc];exact .inl ⟨λz=>hc z.1,_,BD,_,rfl⟩)
 rw[nj]at L;rw[show rows.length=rights.length by lia]
 delta QI;rcases L with ⟨a,ds',e,y9,rfl⟩|⟨a,e⟩
 . rw[e,c7 a];walk_at "r";rfl
 . rw[e,e9 a];walk_at "r";rfl
def u7(f:Nat->Rat):Nat->Rat
 | 0=>0
 |n+1=>u7 f n+f n
theorem D5{f g:Nat->Rat}:∀n,(∀i,i<n->f i=g i)->u7 f n=u7 g n
 | 0,_=>rfl
 |n+1,h=>by
  show u7 f n+f n=u7 g n+g n
  rw[D5 n λi hi=>h i (by lia),h n (by lia)]
theorem zE(f g:Nat->Rat):∀n,u7 (λi=>f i-g i) n=u7 f n-u7 g n
 | 0=>by show(0:Rat)=0-0;grind
 |n+1=>by
  show u7 (λi=>f i-g i) n+(f n-g n)=(u7 f n+f n)-(u7 g n+g n)
  rw[zE f g n];grind
theorem cG(f:Nat->Rat)(c:Rat):∀n,u7 f n*c=u7 (λi=>f i*c) n
 | 0=>by show(0:Rat)*c=0;grind
 |n+1=>by
  show(u7 f n+f n)*c=u7 (λi=>f i*c) n+f n*c
  rw[<-cG f c n];grind
theorem xX:∀n,u7 (λ_=>0) n=0
 | 0=>rfl
 |n+1=>by show u7 (λ_=>0) n+0=0;rw[xX n];grind
structure Part(π:Tr->Q2):Prop where
 more:∀x y q,π (aU x y q)=M4 (π x) (N0 (π y) q)
 ok:∀k x,B5 k x->l7 k (π x)
 uI:π w9=q0
theorem uF:Part Tr.a:=⟨λ_ _ _=>rfl,λ_ _ h=>h.a,rfl⟩
theorem uE:Part Tr.b:=⟨λ_ _ _=>rfl,λ_ _ h=>h.b,rfl⟩
theorem uD:Part Tr.c:=⟨λ_ _ _=>rfl,λ_ _ h=>h.c,rfl⟩
theorem Part.oq{π:Tr->Q2}(P:Part π){x:Tr}{q:Q2}{l:Nat}(hx:B5 k x)(hy:B5 l y)(hq:l7 m q):val (π (aU x y q))=val (π x)+val (π y)*val q:=by rw[P.more,sX (P.ok _ _ hx).pos (N6 (P.ok _ _ hy) hq).pos,pQ (P.ok _ _ hy).pos hq.pos]
def NN(a b c:Rat):Prop:=0<a\/(a=0/\(0<b\/(b=0/\0<=c)))
theorem NN.add{a b c x y z:Rat}(h:NN a b c)(k:NN x y z):NN (a+x) (b+y) (c+z):=by delta NN at *;grind
theorem NN.zero:NN 0 0 0:=.inr ⟨rfl,.inr ⟨rfl,Rat.le_refl⟩⟩
theorem NN.mul{a b c k:Rat}(h:NN a b c)(hk:0<=k):NN (a*k) (b*k) (c*k):=by
 by_cases z:k=0
 . subst z;have e:∀x:Rat,x*0=0:=λx=>by grind
   rw[e,e,e];exact NN.zero
 . have p:0<k:=by grind
   rcases h with h|⟨rfl,h|⟨rfl,h⟩⟩
   . exact .inl (aB h p)
   . exact .inr ⟨by grind,.inl (aB h p)⟩
   . exact .inr ⟨by grind,.inr ⟨by grind,Rat.mul_nonneg h hk⟩⟩
theorem NN.sum{fa fb fc:Nat->Rat}:∀n,(∀j,j<n->NN (fa j) (fb j) (fc j))->NN (u7 fa n) (u7 fb n) (u7 fc n)
 | 0,_=>NN.zero
 |n+1,h=>(NN.sum n λj hj=>h j (by lia)).add (h n (by lia))
theorem yJ{l:Nat}{x:Tr}(hx:B5 k x)(hy:B5 l y):M0 x y=false↔NN (val x.a-val y.a) (val x.b-val y.b) (val x.c-val y.c):=by
 have key:∀{p q:Q2},l7 k p->l7 l q->(p=q↔val p=val q):=λhp hq=>⟨λe=>by rw[e],λe=>val_inj hp hq e⟩
 delta M0 NN;have ka:=key hx.a hy.a;have kb:=key hx.b hy.b;have kc:=key hx.c hy.c;rw[jf hx.a.pos hy.a.pos,jf hx.b.pos hy.b.pos,jf hx.c.pos hy.c.pos];by_cases c1:x.a=y.a
 . have v1:=ka.mp c1;rw[e9 (λz=>z c1)]
   by_cases c2:x.b=y.b
   . have v2:=kb.mp c2;rw[e9 (λz=>z c2)]
     by_cases c3:x.c=y.c
     . have v3:=kc.mp c3;rw[e9 (λz=>z c3)]
       simp only[true_iff];grind
     . have v3:val x.c≠val y.c:=λz=>c3 (kc.mpr z)
       rw[c7 c3,pA];grind
   . have v2:val x.b≠val y.b:=λz=>c2 (kb.mpr z)
     rw[c7 c2,pA];grind
 . have v1:val x.a≠val y.a:=λz=>c1 (ka.mpr z)
   rw[c7 c1,pA];grind
theorem nF(row mix:List Q2):∀n,Hu row mix n=u7 (λj=>val (row.getD j q0)*val (mix.getD j q0)) n
 | 0=>rfl
 |n+1=>by
  show Hu row mix n+_=u7 _ n+_
  rw[nF row mix n]
theorem Part.HV{π:Tr->Q2}(P:Part π){n m kr kp B:Nat}{costs prices:List Tr}{rows:List (List Q2)}(R:uc n m kr kp B costs rows prices){j:Nat}(hj:j<n):∀i,i<=m->val (π (gv costs rows prices j i))=val (π (costs.getD j w9))-u7 (λi=>val (π (prices.getD i w9))*val ((rows.getD i []).getD j q0)) i
 | 0,_=>by
  show val (π (costs.getD j w9))=_-(0:Rat)
  grind
 |i+1,hi=>by
  obtain⟨r1,r2⟩:=R.row (i:=i) (by rw[R.rl];lia)
  have fq:=r2.at (i:=j) (by lia)
  have fp:=R.pf.at (i:=i) (by rw[R.pl];lia)
  show val (π (aU _ _ _))=_-(u7 _ i+_)
  rw[P.oq (R.bf j hj i (by lia)) fp (oG fq),neg_val,P.HV R hj i (by lia)]
  grind
theorem Part.zw{π:Tr->Q2}(P:Part π){costs:List Tr}{mix:List Q2}{k l:Nat}:∀i,(∀j,j<i->B5 k (costs.getD j w9)/\l7 l (mix.getD j q0))->val (π (gr costs mix i))=u7 (λj=>val (π (costs.getD j w9))*val (mix.getD j q0)) i
 | 0,_=>by
  show val (π w9)=0
  rw[P.uI,cF]
 |i+1,h=>by
  have h2:=h i (by lia)
  have h1:=um (costs:=costs) (mix:=mix) (k:=k) (l:=l) i λj hj=>h j (by lia)
  show val (π (aU _ _ _))=u7 _ i+_
  rw[P.oq h1 h2.1 h2.2,P.zw i λj hj=>h j (by lia)]
theorem Part.HW{π:Tr->Q2}(P:Part π){rests:List Tr}{tp:List (Option Q2)}{init:Tr}{B C kt:Nat}:∀i,(∀j,j<=i->B5 C (jY rests tp init j))->(∀j,j<i->B5 B (rests.getD j w9)/\l7 kt ((tp.getD j none).getD q0)) ->
  val (π (jY rests tp init i))=val (π init)+u7 (λj=>if M0 (rests.getD j w9) w9=true then val (π (rests.getD j w9))*val ((tp.getD j none).getD q0)else 0) i
 | 0,_,_=>by
  show val (π init)=val (π init)+0
  grind
 |i+1,hc,h=>by
  have h2:=h i (by lia)
  have ih:=P.HW i (λj hj=>hc j (by lia)) λj hj=>h j (by lia)
  show val (π (jY rests tp init (i+1)))=val (π init)+(u7 _ i+if M0 (rests.getD i w9) w9=true then _ else 0)
  rw[xy];by_cases c:M0 (rests.getD i w9) w9=true
  . rw[c7 c,c7 c,P.oq (hc i (by lia)) h2.1 h2.2,ih]
    grind
  . rw[e9 c,e9 c,ih];grind
theorem Qi{costs:List Tr}{mix:List Q2}{D E F M N:Int}(hd:E*F∣D)(hM:0<=M)(hN:0<=N):∀i,(∀j,j<i->TD E M (costs.getD j w9)/\FD F N (mix.getD j q0))->TD D (M*N*i) (gr costs mix i)
 | 0,_=>Ub (by simp)
 |i+1,h=>by
  have h1:=Qi (D:=D) hd hM hN i λj hj=>h j (by lia)
  have h2:=h i (by lia)
  refine(h1.more h2.1 h2.2 hd).mono (X8 _) ?_;rw[vT,eO];lia
theorem QH{rests:List Tr}{tp:List (Option Q2)}{init:Tr}{D E F M N L:Int}(hd:E*F∣D)(hM:0<=M)(hN:0<=N)(h0:TD D L init):∀i,(∀j,j<i->TD E M (rests.getD j w9)/\∀t,tp.getD j none=some t->FD F N t)->TD D (L+M*N*i) (jY rests tp init i)
 | 0,_=>h0.mono (X8 _) (by simp)
 |i+1,h=>by
  have h1:=QH (rests:=rests) (tp:=tp) hd hM hN h0 i λj hj=>h j (by lia)
  have h2:=h i (by lia)
  have hp:=bN hM hN;rw[xy];have e:L+M*N*((i+1:Nat):Int)=L+M*N*i+M*N:=by rw[vT,eO];lia
  rw[e];split
  . have hf:FD F N ((tp.getD i none).getD q0):=by
      cases ht:tp.getD i none with
      |none=>exact gB hN
      |some t=>exact h2.2 t ht
    exact h1.more h2.1 hf hd
  . exact h1.mono (X8 _) (by lia)
theorem Ib{mix:List Q2}{l:Nat}(hl:costs.length=mix.length)(hn:mix.length<=1000)(hc:HP k costs)(hm:de l mix)(hB:∀i,i<=mix.length->B5 B (gr costs mix i))(h:B+(k+l)<=7998):
  bG [V2 costs,L9 mix]=some (.dat (p9 (gr costs mix mix.length))):=by
 delta bG;walk_at "r";rw[N9,C8 (by lia)]
 walk_at "r";obtain⟨ds',h1,y3,rfl⟩:=Z9 (gt:=z9 3) (G:=iY) (lo:=0) (n:=mix.length) (ds:=[some (.dat (V2 costs)),some (.dat (L9 mix)),some (.dat (p9 w9)),none])
  (λi ds=>∃y3,ds=[some (.dat (V2 costs)),some (.dat (L9 mix)),some (.dat (p9 (gr costs mix i))),y3]) ⟨none,rfl⟩ (by
   rintro i ds hi ⟨y3,rfl⟩;have fa:=hc.at (i:=i) (by lia)
   have fb:=hm.at hi;have fc:=hB i (by lia)
   refine⟨_,_,rfl,.inl ?_,iD (0+(i:Int)),rfl⟩;delta iY;walk_at "r";rw[U0 (f:=p9) w9 (show i<costs.length by lia),U0 q0 hi]
   walk_at "r";rw[uM fc fa fb (by lia)]
   rfl)
 rw[J8,show p9 w9=eQ [.tuple [.int 0,.int 1],.tuple [.int 0,.int 1],.tuple [.int 0,.int 1]]from rfl]at *
 rw[h1];walk_at "r"
end
section
variable{q:Q2}{k j p a t:Nat}
open Sx (sm)
theorem zv{b:Int}(h:0<q.2)(hd:q.2∣b):((wh q b:Int):Rat)=val q*(b:Rat):=by
 have e:=uh h hd;have e':((wh q b:Int):Rat)*(q.2:Rat)=(q.1:Rat)*(b:Rat):=by exact_mod_cast e
 have r:=bj (show q.2≠0 by lia)
 delta val;grind
theorem fW(f:Nat->Int):∀n,((sm n f:Int):Rat)=u7 (λi=>((f i:Int):Rat)) n
 | 0=>rfl
 |n+1=>by
  show((sm n f+f n:Int):Rat)=u7 _ n+_
  rw[Rat.intCast_add,fW f n]
section
variable{P:Sx.Pb}{T:Sx.Tb}
def pick(P:Sx.Pb)(T:Sx.Tb)(g:Nat->Int)(j:Nat):Int:=sm P.m λk=>if T.B k=j then g k else 0
theorem zW(L:Sx.H9 P T)(g f:Nat->Int):sm P.n (λj=>f j*pick P T g j)=sm P.m λk=>g k*f (T.B k):=by
 have e:sm P.n (λj=>f j*pick P T g j)=sm P.n λj=>sm P.m λk=>if T.B k=j then g k*f j else 0:=Sx.l8 λj _=>by delta pick;rw[<-Sx.C6];exact Sx.l8 λk _=>by split<;>grind
 rw[e,Sx.nc];exact Sx.l8 λk hk=>by rw[Sx.O6 (L.bn k hk) λi _ hi=>e9 λz=>hi z.symm,c7 rfl]
theorem xc(L:Sx.H9 P T)(g:Nat->Int)(hk:k<P.m):pick P T g (T.B k)=g k:=by delta pick;rw[Sx.O6 hk λi hi hik=>e9 λz=>hik (L.inj i k hi hk z),c7 rfl]
theorem rK(g:Nat->Int)(h:∀k,k<P.m->T.B k≠j):pick P T g j=0:=Sx.fO λk hk=>e9 (h k hk)
def yv(P:Sx.Pb)(T:Sx.Tb)(j:Nat):Int:=(if T.full j=true then T.size*Sx.uv P j else 0)+pick P T (T.am P) j
theorem PN(L:Sx.H9 P T)(f:Nat->Int):sm P.n (λj=>f j*yv P T j)=T.size*Sx.fsum P T f+sm P.m λk=>T.am P k*f (T.B k):=by
 have e:sm P.n (λj=>f j*yv P T j)=sm P.n λj=>(T.size*(if T.full j=true then Sx.uv P j*f j else 0))+f j*pick P T (T.am P) j:=Sx.l8 λj _=>by delta yv;split<;>grind
 rw[e,Sx.gq,Sx.C6,zW L];rfl
theorem Tu(K:Sx.Ok P T)(hp:p<P.m):sm P.n (λj=>P.A j p*yv P T j)=T.size*P.b p:=by rw[PN K.u6,K.u6.MT hp,K.rt p hp];grind
theorem Tv(K:Sx.Ok P T)(t:Nat):sm P.n (λj=>P.c t j*yv P T j)=T.obj P t:=PN K.u6 _
theorem OM(P:Sx.Pb)(T:Sx.Tb)(x y:Int)(f g:Nat->Int):Sx.fsum P T (λj=>x*f j-y*g j)=x*Sx.fsum P T f-y*Sx.fsum P T g:=by delta Sx.fsum;rw[<-Sx.C6,<-Sx.C6,<-Sx.gp];exact Sx.l8 λj _=>by split<;>grind
theorem GJ(K:Sx.Ok P T)(t:Nat):T.obj P t=Sx.dot P.m (T.pr t) P.b+Sx.fsum P T (T.rest P t):=by
 have e1:(sm P.m λk=>T.am P k*P.c t (T.B k))=Sx.dot P.m (T.pr t) T.rt:=by rw[Sx.uC K.u6];exact Sx.l8 λk _=>D3 _ _
 have e2:Sx.dot P.m (T.pr t) T.rt=Sx.dot P.m (T.pr t) P.b-Sx.fsum P T λj=>Sx.dot P.m (T.pr t) (P.A j):=by
  have a:Sx.dot P.m (T.pr t) T.rt=Sx.dot P.m (T.pr t) λp=>P.b p-Sx.fsum P T λj=>P.A j p:=Sx.l8 λp hp=>by rw[K.rt p hp]
  rw[a,Sx.Fw]
  congr 1
  delta Sx.dot Sx.fsum;have b:(sm P.m λr=>T.pr t r*sm P.n λj=>if T.full j=true then Sx.uv P j*P.A j r else 0)=sm P.m λr=>sm P.n λj=>if T.full j=true then Sx.uv P j*(T.pr t r*P.A j r)else 0:=Sx.l8 λr _=>by rw[<-Sx.C6];exact Sx.l8 λj _=>by split<;>grind
  rw[b,Sx.nc];exact Sx.l8 λj _=>by
   split
   . rw[Sx.C6]
   . exact Sx.fO λ_ _=>rfl
 have e3:Sx.fsum P T (T.rest P t)=Sx.fsum P T (λj=>T.size*P.c t j-1*Sx.dot P.m (T.pr t) (P.A j)):=Sx.l8 λj _=>by
  split
  . delta Sx.Tb.rest;grind
  . rfl
 delta Sx.Tb.obj;rw[e1,e2,e3,OM];grind
def vv(P:Sx.Pb)(T:Sx.Tb)(a j:Nat):Int:=(if j=a then T.size else 0)-pick P T (T.i0 P a) j
theorem v_sum(L:Sx.H9 P T)(ha:a<P.n)(f:Nat->Int):sm P.n (λj=>f j*vv P T a j)=f a*T.size-sm P.m λk=>T.i0 P a k*f (T.B k):=by
 have e:sm P.n (λj=>f j*vv P T a j)=sm P.n λj=>(if j=a then f a*T.size else 0)-f j*pick P T (T.i0 P a) j:=Sx.l8 λj _=>by
  delta vv;by_cases z:j=a
  . rw[c7 z,c7 z,z];grind
  . rw[e9 z,e9 z];grind
 rw[e,Sx.gp,zW L,Sx.O6 ha λi _ hi=>e9 hi,c7 rfl]
theorem TM(L:Sx.H9 P T)(ha:a<P.n)(hp:p<P.m):sm P.n (λj=>P.A j p*vv P T a j)=0:=by
 rw[v_sum L ha,show(sm P.m λk=>T.i0 P a k*P.A (T.B k) p)=T.size*P.A a p from L.by (P.A a) hp]
 grind
theorem TN(L:Sx.H9 P T)(ha:a<P.n)(t:Nat):sm P.n (λj=>P.c t j*vv P T a j)=T.rest P t a:=by rw[v_sum L ha,Sx.my L];grind
end
section
variable{I:m8}{D E F:Int}{c:Nat}{T:Sx.Tb}
abbrev m8.pb(I:m8):Sx.Pb:=I.A0.pb I.b
theorem wX(H:v5 I D E F)(hp:p<I.m)(hj:j<I.n):((I.pb.A j p:Int):Rat)=val (I.row p j)*(I.sc j:Rat):=by
 show((D9 (I.A0.col j) p:Int):Rat)=_
 rw[Be I j hp];exact zv (H.row p j hp hj).1.pos ((H.sc hj).2.2.2 p hp)
theorem tY(H:v5 I D E F)(ht:t<3)(hj:j<I.n):((I.pb.c t j:Int):Rat)=val (O5 (I.cost j) t)*(I.sc j:Rat)*(I.mu t:Rat):=by
 show((I.wt t j:Int):Rat)=_
 delta m8.wt;rw[zv (H.wq ht hj).1.pos ((H.mu ht).2.2.2 j hj)];delta m8.wq;rw[pQ (H.cost t j ht hj).1.pos (by show(0:Int)<1;decide),val_one]
theorem Iz(H:v5 I D E F)(hp:p<I.m):((I.pb.b p:Int):Rat)=val (I.rg p)*(I.un:Rat):=zv (H.rg p hp).1.pos (H.un.2.2.2.1 p hp)
theorem rE(H:v5 I D E F)(hj:j<I.n)(h:I.tp j=some q):((Sx.uv I.pb j:Int):Rat)*(I.sc j:Rat)=val q*(I.un:Rat)/\∃v,I.lim j=some v/\Sx.uv I.pb j=v:=by
 cases hl:I.lim j with
 |none=>rw[bL.mpr hl]at h;cases h
 |some v =>
  obtain⟨q',h1,h2,h3⟩:=Ap H hj hl;rw[h]at h1;cases h1;have e:Sx.uv I.pb j=v:=by delta Sx.uv;show(I.lim j).getD 0=v;rw[hl];rfl
  refine⟨?_,v,rfl,e⟩;rw[e];have h3':(v:Rat)*((q.2:Rat)*(I.sc j:Rat))=(q.1:Rat)*(I.un:Rat):=by exact_mod_cast h3
  have r:=bj (show q.2≠0 by lia)
  delta val;grind
theorem F5{x:Int}(h:0<x):(0:Rat)<(x:Rat):=by exact_mod_cast h
abbrev fA(I:m8)(T:Sx.Tb)(j:Nat):Q2:=X4 I.A0 T I.tp I.m j
theorem ED{j:Nat}:∀i,(∀k,k<i->T.B k≠j)->X4 I.A0 T I.tp i j=X4 I.A0 T I.tp 0 j
 | 0,_=>rfl
 |i+1,h=>by
  show(if j=T.B i then _ else X4 I.A0 T I.tp i j)=_
  rw[e9 λz=>h i (by lia) z.symm]
  exact ED i λk hk=>h k (by lia)
theorem EE(L:Sx.H9 I.pb T){k:Nat}(hk:k<I.m):∀i,k<i->i<=I.m->X4 I.A0 T I.tp i (T.B k)=r9 (T.am (l5 I.A0) k*I.sc (T.B k)) (T.size*I.un)
 | 0,h,_=>absurd h (Nat.not_lt_zero _)
 |i+1,h,hi=>by
  rw[X4];by_cases z:i=k
  . rw[z,c7 rfl];rfl
  . rw[e9 λy=>z (L.inj i k (by show i<I.m;lia) hk y.symm)]
    exact EE L hk i (by lia) (by lia)
theorem oH(K:Sx.Ok I.pb T)(hj:j<I.n):(∃k,k<I.m/\T.B k=j/\T.full j=false/\fA I T j=r9 (T.am I.pb k*I.sc j) (T.size*I.un))\/((∀k,k<I.m->T.B k≠j)/\((T.full j=true/\∃q,I.tp j=some q/\fA I T j=q)\/(T.full j=false/\fA I T j=q0))):=by
 by_cases h:∃k,k<I.m/\T.B k=j
 . obtain⟨k,hk,rfl⟩:=h;refine .inl ⟨k,hk,rfl,?_,EE K.u6 hk I.m hk (o3 _)⟩;cases z:T.full (T.B k)with
   |false=>rfl
   |true=>exact absurd rfl ((K.fu _ hj z).2 k hk)
 . have h':∀k,k<I.m->T.B k≠j:=λk hk z=>h ⟨k,hk,z⟩
   refine .inr ⟨h',?_⟩;have e:fA I T j=X4 I.A0 T I.tp 0 j:=ED I.m h';cases z:T.full j with
   |false=>exact .inr ⟨rfl,by rw[e,X4,e9 (by rw[z];decide)]⟩
   |true =>
    have hl:I.lim j≠none:=(K.fu j hj z).1;cases hq:I.tp j with
    |none=>exact absurd (bL.mp hq) hl
    |some q=>exact .inl ⟨rfl,q,rfl,by rw[e,X4,c7 z,hq];rfl⟩
theorem xj(H:v5 I D E F)(K:Sx.Ok I.pb T)(hj:j<I.n):val (fA I T j)*((T.size:Rat)*(I.un:Rat))=(I.sc j:Rat)*((yv I.pb T j:Int):Rat):=by
 have s0:=F5 K.u6.pos;have u0:=F5 H.un.1;rcases oH K hj with ⟨k,hk,rfl,hf,e⟩|⟨hn,⟨hf,q,hq,e⟩|⟨hf,e⟩⟩
 . rw[e,mY (G0 K.u6.pos H.un.1)];have:yv I.pb T (T.B k)=T.am I.pb k:=by delta yv;rw[e9 (by rw[hf];decide),xc K.u6 _ hk,J2]
   rw[this,cC,cC];have su:=aB s0 u0;have su':(T.size:Rat)*(I.un:Rat)≠0:=by grind
   generalize (T.size:Rat)*(I.un:Rat)=z at su';grind
 . rw[e];have:yv I.pb T j=T.size*Sx.uv I.pb j:=by delta yv;rw[c7 hf,rK _ hn,lJ]
   have:=(rE H hj hq).1;rw[‹yv I.pb T j=_›,cC];grind
 . rw[e];have:yv I.pb T j=0:=by delta yv;rw[e9 (by rw[hf];decide),rK _ hn,J2]
   rw[this,cF];show(0:Rat)*_=_*0
   grind
theorem Oq(H:v5 I D E F)(K:Sx.Ok I.pb T)(hp:p<I.m):u7 (λj=>val (I.row p j)*val (fA I T j)) I.n=val (I.rg p):=by
 have s0:=F5 K.u6.pos;have u0:=F5 H.un.1;have e:u7 (λj=>val (I.row p j)*val (fA I T j)) I.n*((T.size:Rat)*(I.un:Rat))=val (I.rg p)*((T.size:Rat)*(I.un:Rat)):=by
  rw[cG,D5 (g:=λj=>((I.pb.A j p*yv I.pb T j:Int):Rat)) I.n λj hj=>by have:=xj H K hj;rw[cC,wX H hp hj];grind]
  rw[<-fW (λj=>I.pb.A j p*yv I.pb T j),show sm I.n (λj=>I.pb.A j p*yv I.pb T j)=_ from Tu K hp,cC,Iz H hp]
  grind
 have:((T.size:Rat)*(I.un:Rat))≠0:=by have:=aB s0 u0;grind
 grind
theorem Ot(H:v5 I D E F)(K:Sx.Ok I.pb T)(ht:t<3):u7 (λj=>val (O5 (I.cost j) t)*val (fA I T j)) I.n*((T.size:Rat)*(I.un:Rat)*(I.mu t:Rat))=((T.obj I.pb t:Int):Rat):=by
 rw[cG,D5 (g:=λj=>((I.pb.c t j*yv I.pb T j:Int):Rat)) I.n λj hj=>by have:=xj H K hj;rw[cC,tY H ht hj];grind]
 rw[<-fW (λj=>I.pb.c t j*yv I.pb T j),show sm I.n (λj=>I.pb.c t j*yv I.pb T j)=_ from Tv K t]
end
end
section
variable{p t j:Nat}{k y z m:Rat}{r:Nat->Int}
open Sx (sm)
section
variable{I:m8}{D E F:Int}{c:Nat}{T:Sx.Tb}{a:Nat}
abbrev kQ(I:m8)(T:Sx.Tb)(a j:Nat):Q2:=ba I.A0 T a I.m j
theorem DP{j:Nat}:∀i,(∀k,k<i->T.B k≠j)->ba I.A0 T a i j=if j=a then(I.sc a,1)else q0
 | 0,_=>rfl
 |i+1,h=>by
  show(if j=T.B i then _ else ba I.A0 T a i j)=_
  rw[e9 λz=>h i (by lia) z.symm]
  exact DP i λk hk=>h k (by lia)
theorem DQ(L:Sx.H9 I.pb T){k:Nat}(hk:k<I.m):∀i,k<i->i<=I.m->ba I.A0 T a i (T.B k)=r9 (-T.i0 (l5 I.A0) a k*I.sc (T.B k)) T.size
 | 0,h,_=>absurd h (Nat.not_lt_zero _)
 |i+1,h,hi=>by
  rw[ba];by_cases z:i=k
  . rw[z,c7 rfl];rfl
  . rw[e9 λy=>z (L.inj i k (by show i<I.m;lia) hk y.symm)]
    exact DQ L hk i (by lia) (by lia)
theorem sW(L:Sx.H9 I.pb T)(j:Nat):(∃k,k<I.m/\T.B k=j/\kQ I T a j=r9 (-T.i0 I.pb a k*I.sc j) T.size)\/((∀k,k<I.m->T.B k≠j)/\kQ I T a j=if j=a then(I.sc a,1)else q0):=by
 by_cases h:∃k,k<I.m/\T.B k=j
 . obtain⟨k,hk,rfl⟩:=h;exact .inl ⟨k,hk,rfl,DQ L hk I.m hk (o3 _)⟩
 . have h':∀k,k<I.m->T.B k≠j:=λk hk z=>h ⟨k,hk,z⟩
   exact .inr ⟨h',DP I.m h'⟩
theorem DO(L:Sx.H9 I.pb T)(nb:∀k,k<I.m->T.B k≠a)(j:Nat):val (kQ I T a j)*(T.size:Rat)=(I.sc j:Rat)*((vv I.pb T a j:Int):Rat):=by
 have s0:=F5 L.pos;rcases sW (a:=a) L j with ⟨k,hk,rfl,e⟩|⟨hn,e⟩
 . rw[e,mY L.pos];have:vv I.pb T a (T.B k) = -T.i0 I.pb a k:=by delta vv;rw[e9 (nb k hk),xc L _ hk,Int.zero_sub]
   rw[this,cC];grind
 . rw[e];by_cases z:j=a
   . have:vv I.pb T a j=T.size:=by delta vv;rw[c7 z,rK _ hn,qP]
     rw[this,c7 z,val_one,z]
   . have:vv I.pb T a j=0:=by delta vv;rw[e9 z,rK _ hn,qP]
     rw[this,e9 z,cF];show(0:Rat)*_=_*0
     grind
theorem Ms(H:v5 I D E F)(L:Sx.H9 I.pb T)(ha:a<I.n)(nb:∀k,k<I.m->T.B k≠a)(hp:p<I.m):u7 (λj=>val (I.row p j)*val (kQ I T a j)) I.n=0:=by
 have s0:=F5 L.pos;have e:u7 (λj=>val (I.row p j)*val (kQ I T a j)) I.n*(T.size:Rat)=0:=by
  rw[cG,D5 (g:=λj=>((I.pb.A j p*vv I.pb T a j:Int):Rat)) I.n λj hj=>by have:=DO L nb j;rw[cC,wX H hp hj];grind]
  rw[<-fW (λj=>I.pb.A j p*vv I.pb T a j),show sm I.n (λj=>I.pb.A j p*vv I.pb T a j)=_ from TM L ha hp]
  rfl
 grind
theorem Mt(H:v5 I D E F)(L:Sx.H9 I.pb T)(ha:a<I.n)(nb:∀k,k<I.m->T.B k≠a)(ht:t<3):u7 (λj=>val (O5 (I.cost j) t)*val (kQ I T a j)) I.n*((T.size:Rat)*(I.mu t:Rat))=((T.rest I.pb t a:Int):Rat):=by
 rw[cG,D5 (g:=λj=>((I.pb.c t j*vv I.pb T a j:Int):Rat)) I.n λj hj=>by have:=DO L nb j;rw[cC,tY H ht hj];grind]
 rw[<-fW (λj=>I.pb.c t j*vv I.pb T a j),show sm I.n (λj=>I.pb.c t j*vv I.pb T a j)=_ from TN L ha t]
theorem pK(K:Sx.Ok I.pb T)(En:Sx.M9 I.pb T a)(h:stI I.A0 T a I.m=[]):I.lim a=none/\T.full a=false/\∀k,k<I.m->T.i0 I.pb a k<=0/\(T.i0 I.pb a k<0->I.lim (T.B k)=none):=by
 have no:∀s,s∉stI I.A0 T a I.m:=λs hs=>by rw[h]at hs;cases hs
 have hl:I.lim a=none:=by
  cases z:I.lim a with
  |none=>rfl
  |some v=>exact absurd (T6.mpr (.inl (fQ.mpr ⟨v,z,rfl⟩))) (no ⟨v,1,a,none,false⟩)
 have hf:T.full a=false:=by
  cases z:T.full a with
  |false=>rfl
  |true=>exact absurd hl (K.fu a En.an z).1
 have sg:T.sg a=1:=by delta Sx.Tb.sg;rw[hf];rfl
 refine⟨hl,hf,λk hk=>⟨?_,λhp=>?_⟩⟩
 . rcases eZ 0 (T.i0 I.pb a k)with z|z
   . exact absurd (T6.mpr (.inr ⟨k,hk,W3.mpr (.inl ⟨by rw[sg,dG];exact z,rfl⟩)⟩)) (no _)
   . exact z
 . cases z:I.lim (T.B k)with
   |none=>rfl
   |some v=>exact absurd (T6.mpr (.inr ⟨k,hk,W3.mpr (.inr ⟨by rw[sg,dG];exact hp,v,z,rfl⟩)⟩)) (no _)
theorem zJ{x:Rat}{r:Int}(hk:0<k)(h:x*k=(r:Rat)):(0<x↔0<r)/\(x=0↔r=0)/\(0<=x↔0<=r):=by
 have p1:0<x->0<r:=λz=>by
  have:=aB z hk;rw[h]at this
  exact_mod_cast this
 have p2:x=0->r=0:=λz=>by
  rw[z]at h;have:(r:Rat)=0:=by grind
  exact_mod_cast this
 have p3:x<0->r<0:=λz=>by
  have:=aB (show 0 < -x by grind) hk
  have e : -x*k=((-r:Int):Rat):=by rw[Rat.intCast_neg,<-h];grind
  rw[e]at this;have:0 < -r:=by exact_mod_cast this
  lia
 have tri:x<0\/x=0\/0<x:=by grind
 refine⟨⟨p1,λz=>?_⟩,⟨p2,λz=>?_⟩,⟨λz=>?_,λz=>?_⟩⟩
 . rcases tri with t|t|t
   . have:=p3 t;lia
   . have:=p2 t;lia
   . exact t
 . rcases tri with t|t|t
   . have:=p3 t;lia
   . exact t
   . have:=p1 t;lia
 . rcases tri with t|t|t
   . grind
   . have:=p2 t;lia
   . have:=p1 t;lia
 . rcases tri with t|t|t
   . have:=p3 t;lia
   . grind
   . grind
theorem Qs{x l:Rat}(hk:0<k)(hl:0<l)(hm:0<m)(h0:x*k=(r 0:Rat))(h1:y*l=(r 1:Rat))(h2:z*m=(r 2:Rat)):NN x y z↔¬Sx.Neg r:=by obtain⟨a1,a2,_⟩:=zJ hk h0;obtain⟨b1,b2,_⟩:=zJ hl h1;obtain⟨_,_,c3⟩:=zJ hm h2;delta NN Sx.Neg;rw[a1,a2,b1,b2,c3];lia
theorem Bj{x:Tr}{n:Nat}{l:Rat}(hx:B5 n x)(hk:0<k)(hl:0<l)(hm:0<m)(h0:val x.a*k=(r 0:Rat))(h1:val x.b*l=(r 1:Rat))(h2:val x.c*m=(r 2:Rat)):M0 x w9=true↔Sx.Neg r:=by
 have e:∀r:Rat,r-val q0=r:=λr=>by rw[cF];grind
 have h:=yJ hx (pT (m:=1) (by decide))
 rw[e,e,e,Qs hk hl hm h0 h1 h2]at h;cases z:M0 x w9 with
 |false =>
  have:=h.mp z;constructor
  . intro y;cases y
  . exact λy=>absurd y this
 |true =>
  constructor
  . intro _;refine sj λy=>?_
    have:=h.mpr y;rw[z]at this;cases this
  . exact λ_=>rfl
theorem yg(H:v5 I D E F)(L:Sx.H9 I.pb T)(ht:t<3):val (O5 (F3 I.A0 T p) t)*((T.size:Rat)*(I.mu t:Rat))=((T.pr t p:Int):Rat):=by
 have e:O5 (F3 I.A0 T p) t=r9 (T.pr t p) (T.size*I.mu t):=by rcases JD ht with rfl|rfl|rfl<;>rfl
 have s0:=F5 L.pos;have m0:=F5 (H.mu ht).1;have sm:=aB s0 m0;rw[e,mY (G0 L.pos (H.mu ht).1),cC];have sm':(T.size:Rat)*(I.mu t:Rat)≠0:=by grind
 generalize (T.size:Rat)*(I.mu t:Rat)=z at sm';grind
def U3(I:m8)(T:Sx.Tb)(t j:Nat):Rat:=val (O5 (I.cost j) t)-u7 (λp=>val (O5 (F3 I.A0 T p) t)*val (I.row p j)) I.m
theorem fw(H:v5 I D E F)(L:Sx.H9 I.pb T)(ht:t<3)(hj:j<I.n):U3 I T t j*((I.sc j:Rat)*(I.mu t:Rat)*(T.size:Rat))=((T.rest I.pb t j:Int):Rat):=by
 have e:u7 (λp=>val (O5 (F3 I.A0 T p) t)*val (I.row p j)) I.m*((I.sc j:Rat)*(I.mu t:Rat)*(T.size:Rat))=((Sx.dot I.m (T.pr t) (I.pb.A j):Int):Rat):=by
  rw[cG,D5 (g:=λp=>((T.pr t p*I.pb.A j p:Int):Rat)) I.m λp hp=>by have:=yg (p:=p) H L ht;rw[cC,wX H hp hj];grind]
  rw[<-fW (λp=>T.pr t p*I.pb.A j p)]
  rfl
 have f:((T.rest I.pb t j:Int):Rat)=((I.pb.c t j:Int):Rat)*(T.size:Rat)-((Sx.dot I.m (T.pr t) (I.pb.A j):Int):Rat):=by
  show((I.pb.c t j*T.size-Sx.dot I.m (T.pr t) (I.pb.A j):Int):Rat)=_
  rw[Rat.intCast_sub,cC]
 delta U3;rw[f,tY H ht hj,<-e];grind
theorem zT(H:v5 I D E F)(L:Sx.H9 I.pb T)(ht:t<3):u7 (λp=>val (O5 (F3 I.A0 T p) t)*val (I.rg p)) I.m*((T.size:Rat)*(I.un:Rat)*(I.mu t:Rat))=((Sx.dot I.m (T.pr t) I.pb.b:Int):Rat):=by
 rw[cG,D5 (g:=λp=>((T.pr t p*I.pb.b p:Int):Rat)) I.m λp hp=>by have:=yg (p:=p) H L ht;rw[cC,Iz H hp];grind]
 rw[<-fW (λp=>T.pr t p*I.pb.b p)]
 rfl
theorem vw(K:Sx.Ok I.pb T)(ne:∀j,j<I.n->¬Sx.M9 I.pb T j)(hj:j<I.n):(I.lim j=some 0)\/(T.full j=false/\¬Sx.Neg λt=>T.rest I.pb t j)\/(T.full j=true/\(Sx.Neg (λt=>T.rest I.pb t j)\/∀t,t<3->T.rest I.pb t j=0)):=by
 by_cases z:I.lim j=some 0
 . exact .inl z
 . have nn:¬Sx.Neg λt=>T.sg j*T.rest I.pb t j:=λy=>ne j hj ⟨hj,z,y⟩
   cases hf:T.full j with
   |false =>
    have sg:T.sg j=1:=by delta Sx.Tb.sg;rw[hf];rfl
    refine .inr (.inl ⟨rfl,λy=>nn (y.congr λt _=>by rw[sg,dG])⟩)
   |true =>
    have sg:T.sg j = -1:=by delta Sx.Tb.sg;rw[hf];rfl
    refine .inr (.inr ⟨rfl,?_⟩);have nn':¬Sx.Neg λt=>-T.rest I.pb t j:=λy=>nn (y.congr λt _=>by rw[sg,Int.neg_one_mul])
    delta Sx.Neg at *;simp only at nn' ⊢;by_cases w:T.rest I.pb 0 j=0/\T.rest I.pb 1 j=0/\T.rest I.pb 2 j=0
    . exact .inr λt ht=>by
        rcases JD ht with rfl|rfl|rfl
        . exact w.1
        . exact w.2.1
        . exact w.2.2
    . left;lia
theorem yB(H:v5 I D E F)(K:Sx.Ok I.pb T)(ne:∀j,j<I.n->¬Sx.M9 I.pb T j)(hj:j<I.n){ch:Bool}(hc:ch=true↔Sx.Neg λt=>T.rest I.pb t j):(ch=true->I.tp j≠none)/\∀t,t<3->(if ch=true then U3 I T t j*val ((I.tp j).getD q0)else 0)*((T.size:Rat)*(I.un:Rat)*(I.mu t:Rat))=((if T.full j=true then Sx.uv I.pb j*T.rest I.pb t j else 0:Int):Rat):=by
 have u0:=F5 H.un.1;have k:=vw K ne hj;constructor
 . intro hch ht;have hn:=hc.mp hch;have hl:=bL.mp ht;rcases k with k|⟨_,k⟩|⟨kf,_⟩
   . rw[hl]at k;cases k
   . exact k hn
   . exact(K.fu j hj kf).1 hl
 . intro t ht;have rv:=fw H K.u6 ht hj;have tv:val ((I.tp j).getD q0)*(I.un:Rat)=((Sx.uv I.pb j:Int):Rat)*(I.sc j:Rat):=by
    cases htp:I.tp j with
    |none =>
     have:Sx.uv I.pb j=0:=by delta Sx.uv;show(I.lim j).getD 0=0;rw[bL.mp htp];rfl
     rw[this];show val q0*_=0*_
     rw[cF];grind
    |some q =>
     have:=(rE H hj htp).1;show val q*_=_
     grind
   have z0:I.lim j=some 0->Sx.uv I.pb j=0:=λz=>by delta Sx.uv;show(I.lim j).getD 0=0;rw[z];rfl
   by_cases hch:ch=true
   . rw[c7 hch];have hn:=hc.mp hch;have e:((if T.full j=true then Sx.uv I.pb j*T.rest I.pb t j else 0:Int))=Sx.uv I.pb j*T.rest I.pb t j:=by
      by_cases hf:T.full j=true
      . rw[c7 hf]
      . rw[e9 hf];rcases k with k|⟨_,k⟩|⟨k,_⟩
        . rw[z0 k,U6]
        . exact absurd hn k
        . exact absurd k hf
     rw[e,cC,<-rv];grind
   . rw[e9 hch];have e:((if T.full j=true then Sx.uv I.pb j*T.rest I.pb t j else 0:Int))=0:=by
      by_cases hf:T.full j=true
      . rw[c7 hf];rcases k with k|⟨k,_⟩|⟨_,k|k⟩
        . rw[z0 k,U6]
        . rw[k]at hf;cases hf
        . exact absurd (hc.mpr k) hch
        . rw[k t ht,J6]
      . rw[e9 hf]
     rw[e];show(0:Rat)*_=0
     grind
theorem DF(H:v5 I D E F)(K:Sx.Ok I.pb T)(ne:∀j,j<I.n->¬Sx.M9 I.pb T j){ch:Nat->Bool}(hc:∀j,j<I.n->(ch j=true↔Sx.Neg λt=>T.rest I.pb t j))(ht:t<3):
  u7 (λp=>val (O5 (F3 I.A0 T p) t)*val (I.rg p)) I.m+u7 (λj=>if ch j=true then U3 I T t j*val ((I.tp j).getD q0)else 0) I.n=u7 (λj=>val (O5 (I.cost j) t)*val (fA I T j)) I.n:=by
 have s0:=F5 K.u6.pos;have u0:=F5 H.un.1;have m0:=F5 (H.mu ht).1;have p0:=aB (aB s0 u0) m0;have e1:=zT H K.u6 ht;have e2:=Ot H K ht;have e3:u7 (λj=>if ch j=true then U3 I T t j*val ((I.tp j).getD q0)else 0) I.n*((T.size:Rat)*(I.un:Rat)*(I.mu t:Rat))=((Sx.fsum I.pb T (T.rest I.pb t):Int):Rat):=by
  rw[cG,D5 (g:=λj=>((if T.full j=true then Sx.uv I.pb j*T.rest I.pb t j else 0:Int):Rat)) I.n λj hj=>(yB H K ne hj (hc j hj)).2 t ht]
  rw[<-fW (λj=>if T.full j=true then Sx.uv I.pb j*T.rest I.pb t j else 0)]
  rfl
 have e4:((T.obj I.pb t:Int):Rat)=((Sx.dot I.m (T.pr t) I.pb.b:Int):Rat)+((Sx.fsum I.pb T (T.rest I.pb t):Int):Rat):=by rw[GJ K t,Rat.intCast_add];rfl
 generalize (T.size:Rat)*(I.un:Rat)*(I.mu t:Rat)=z at *;generalize u7 (λp=>val (O5 (F3 I.A0 T p) t)*val (I.rg p)) I.m=A at *
 generalize u7 (λj=>if ch j=true then U3 I T t j*val ((I.tp j).getD q0)else 0) I.n=B at *
 generalize u7 (λj=>val (O5 (I.cost j) t)*val (fA I T j)) I.n=C at *
 have:(A+B-C)*z=0:=by grind
 grind
end
end
section
variable{k p:Nat}{f g:Nat->Q2}
section
variable{I:m8}{D E F:Int}{c:Nat}{T:Sx.Tb}{a:Nat}
abbrev qL(n:Nat)(f:Nat->Q2):List Q2:=(A4 n).map f
abbrev m8.iz(I:m8)(T:Sx.Tb):c6:=.list (rl I.n λj=>fr (fA I T j))
abbrev m8.kR(I:m8)(T:Sx.Tb)(a:Nat):c6:=.list (rl I.n λj=>fr (kQ I T a j))
abbrev m8.Gb(I:m8)(p:Nat):List Q2:=qL I.n (I.row p)
abbrev m8.L5(I:m8):List Tr:=(A4 I.n).map I.cost
abbrev m8.jX(I:m8):List Q2:=qL I.m I.rg
abbrev m8.xV(I:m8):List (Option Q2):=(A4 I.n).map I.tp
abbrev m8.X2(I:m8):List (List Q2):=(A4 I.m).map I.Gb
abbrev m8.dY(I:m8)(T:Sx.Tb):List Tr:=(A4 I.m).map (F3 I.A0 T)
theorem qz(n:Nat)(f:Nat->Q2):L9 (qL n f)=.list (rl n λj=>fr (f j)):=by rw[L9,eU];rfl
theorem zA(n:Nat)(f:Nat->Tr):V2 ((A4 n).map f)=.list (rl n λj=>p9 (f j)):=by rw[V2,eU];rfl
theorem KA(I:m8):I.m3=V2 I.L5:=(zA _ _).symm
theorem Gd(I:m8):I.o7=L9 I.jX:=(qz _ _).symm
theorem MA(I:m8):I.t6=mS I.xV:=by rw[mS,eU];rfl
theorem MU(I:m8):I.p5=p5 I.X2:=by
 rw[p5,eU];show nP _=.list _
 congr 1
 exact wu λp _=>(qz _ _).symm
theorem all_true(n:Nat):qH [.list (rl n λ_=>.bool true)]=some (.dat (.bool true)):=by
 have:∀l:List Nat,boolsOf (l.map λ_=>PyData.bool true)=some (l.map λ_=>true):=by
  intro l;induction l with
  |nil=>rfl
  |cons x l ih=>rw[o6,boolsOf,ih];rfl
 show(boolsOf _).bind _=_
 rw[this,j4];simp
theorem oP{n:Nat}(hn:n<=1000)(h:∀j,j<n->l7 k (f j))(hk:k<=8000):H0 [.list (rl n λj=>fr (f j)),.int (n:Int),.str "fractions"]=some (.dat (.bool true)):=by
 delta H0;walk_at "r";rw[B2];simp only[ne_eq,lV,decide_false,aG,M6];walk_at "r";rw[e9 (show ¬(cW "fractions" = cW "triples")from by decide +kernel)]
 walk_at "r";rw[c7 (R7 hn),B7 (g:=λ_=>.bool true) λj hj=>⟨_,.dat (.bool true),rfl,by delta jU;walk_at "r";exact ko (h j hj) hk,rfl⟩]
 walk_at "r";rw[all_true n];rfl
theorem Hg{n:Nat}{f:Nat->Tr}(hn:n<=1000)(h:∀j,j<n->B5 k (f j))(hk:k<=8000):H0 [.list (rl n λj=>p9 (f j)),.int (n:Int),.str "triples"]=some (.dat (.bool true)):=by
 delta H0;walk_at "r";rw[B2];simp only[ne_eq,lV,decide_false,aG,M6];walk_at "r";rw[c7 (R7 hn),B7 (g:=λ_=>.bool true) λj hj=>⟨_,.dat (.bool true),rfl,by delta jV;walk_at "r";exact AD (h j hj) hk,rfl⟩]
 walk_at "r";rw[all_true n];rfl
structure Fits(I:m8)(kr kc kg kt kM kP B C:Nat):Prop where
 n1:I.n<=1000
 m1:I.m<=1000
 row:∀p j,p<I.m->j<I.n->l7 kr (I.row p j)
 cost:∀j,j<I.n->B5 kc (I.cost j)
 rg:∀p,p<I.m->l7 kg (I.rg p)
 tp:∀j q,j<I.n->I.tp j=some q->l7 kt q
 mix:∀T,Sx.Ok I.pb T->∀j,j<I.n->l7 kM (fA I T j)
 way:∀T a,Sx.Ok I.pb T->a<I.n->∀j,j<I.n->l7 kM (kQ I T a j)
 pr:∀T,Sx.Ok I.pb T->∀p,p<I.m->B5 kP (F3 I.A0 T p)
 rt:∀T,Sx.Ok I.pb T->∀j,j<I.n->∀i,i<=I.m->B5 B (gv I.L5 I.X2 (I.dY T) j i)
 fl:∀T,Sx.Ok I.pb T->∀j,j<=I.n->B5 C (jY (dX I.L5 I.X2 (I.dY T)) I.xV (gr (I.dY T) I.jX I.jX.length) j)
 b1:1+(kr+kM+1)*I.n+(kr+kM)<=7998
 b2:1+(kc+kM+1)*I.n+(kc+kM)<=7998
 b3:B+(kP+1+kr)<=7998
 b4:1+(kP+kg+1)*I.m+(kP+kg)<=7998
 b5:C+(B+kt)<=7998
 b6:kM<=7998/\kP<=7998/\kt<=7998
variable{kr kc kg kt kM kP B C:Nat}
theorem qc{n:Nat}(h:∀j,j<n->l7 k (f j)):de k (qL n f):=λq hq=>by obtain⟨j,hj,rfl⟩:=mem_map.mp hq;exact h j (mem_range.mp hj)
theorem Mu{n l:Nat}(hf:∀j,j<n->l7 k (f j))(hg:∀j,j<n->l7 l (g j)):val (Qk (qL n f) (qL n g))=u7 (λj=>val (f j)*val (g j)) n:=by
 have hl:(qL n f).length=n:=by simp
 delta Qk;rw[hl,DU (k:=k) (l:=l) n λj hj=>by rw[j9 q0 hj,j9 q0 hj];exact⟨hf j hj,hg j hj⟩,nF]
 exact D5 n λj hj=>by rw[j9 q0 hj,j9 q0 hj]
theorem Eo(W:Fits I kr kc kg kt kM kP B C)(hp:p<I.m)(hf:∀j,j<I.n->l7 kM (f j)){q:Q2}(hq:l7 k q)(h:u7 (λj=>val (I.row p j)*val (f j)) I.n=val q):
  aR [.list (rl I.n λj=>fr (I.row p j)),.list (rl I.n λj=>fr (f j))]=some (.dat (fr q)):=by
 have n1:=W.n1;have b1:=W.b1;have hl:∀g:Nat->Q2,(qL I.n g).length=I.n:=λg=>by simp
 have hr:∀i,i<=I.n->l7 (1+(kr+kM+1)*I.n) (pZ (I.Gb p) (qL I.n f) i):=λi hi=>(tm (k:=kr) (l:=kM) i λj hj=>by
  rw[j9 q0 (show j<I.n by lia),j9 q0 (show j<I.n by lia)]
  exact⟨W.row p j hp (by lia),hf j (by lia)⟩).mono (by have:=wz (kr+kM+1) hi;lia)
 have e:=DB (row:=I.Gb p) (mix:=qL I.n f) (k:=kr) (l:=kM) (B:=1+(kr+kM+1)*I.n) (by rw[hl,hl]) (by rw[hl];exact n1) (qc λj hj=>W.row p j hp hj) (qc hf) (λi hi=>hr i (by rw[hl]at hi;exact hi)) b1
 rw[qz,qz]at e;rw[e];have hv:Qk (I.Gb p) (qL I.n f)=q:=val_inj (hr _ (by rw[hl];exact o3 _)) hq (by rw[Mu (λj hj=>W.row p j hp hj) hf,h])
 rw[hv]
theorem zB(W:Fits I kr kc kg kt kM kP B C)(hf:∀j,j<I.n->l7 kM (f j)):∃x k,bG [I.m3,.list (rl I.n λj=>fr (f j))]=some (.dat (p9 x))/\B5 k x/\k<=7998/\∀t,t<3->val (O5 x t)=u7 (λj=>val (O5 (I.cost j) t)*val (f j)) I.n:=by
 have n1:=W.n1;have b2:=W.b2;have hl:(qL I.n f).length=I.n:=by simp
 have hc:I.L5.length=I.n:=by simp
 have hj:∀i,i<=I.n->∀j,j<i->B5 kc (I.L5.getD j w9)/\l7 kM ((qL I.n f).getD j q0):=λi hi j hj=>by
  rw[j9 q0 (show j<I.n by lia),j9 w9 (show j<I.n by lia)]
  exact⟨W.cost j (by lia),hf j (by lia)⟩
 have hb:∀i,i<=I.n->B5 (1+(kc+kM+1)*I.n) (gr I.L5 (qL I.n f) i):=λi hi=>(um (k:=kc) (l:=kM) i (hj i hi)).mono (by have:=wz (kc+kM+1) hi;lia)
 have e:=Ib (costs:=I.L5) (mix:=qL I.n f) (k:=kc) (l:=kM) (B:=1+(kc+kM+1)*I.n) (by rw[hl,hc]) (by rw[hl];exact n1) (λx hx=>by obtain⟨j,hj,rfl⟩:=mem_map.mp hx;exact W.cost j (mem_range.mp hj)) (qc hf) (λi hi=>hb i (by rw[hl]at hi;exact hi)) b2
 rw[qz,zA,hl]at e;refine⟨_,_,e,hb _ (o3 _),by lia,λt ht=>?_⟩
 have key:∀{π:Tr->Q2},Part π->val (π (gr I.L5 (qL I.n f) I.n))=u7 (λj=>val (π (I.cost j))*val (f j)) I.n:=λ{π} P=>by rw[P.zw (k:=kc) (l:=kM) I.n (hj I.n (o3 _))];exact D5 I.n λj hj=>by rw[j9 q0 hj,j9 w9 hj]
 rcases JD ht with rfl|rfl|rfl
 . exact key uF
 . exact key uE
 . exact key uD
theorem yt(H:v5 I D E F)(G:cY I c)(W:Fits I kr kc kg kt kM kP B C)(K:Sx.Ok I.pb T):gW [I.p5,I.o7,I.t6,I.iz T]=some (.dat (.bool true)):=by
 have n1:=W.n1;obtain⟨ds',h1,y4,rfl⟩:=Z9 (gt:=z9 4) (G:=ia) (lo:=0) (n:=I.n) (ds:=[some (.dat I.p5),some (.dat I.o7),some (.dat I.t6),some (.dat (I.iz T)),none])
  (λi ds=>∃y4,ds=[some (.dat I.p5),some (.dat I.o7),some (.dat I.t6),some (.dat (I.iz T)),y4]) ⟨none,rfl⟩ (by
   rintro i ds hi ⟨y4,rfl⟩;refine⟨_,_,rfl,.inl ?_,iD (0+(i:Int)),rfl⟩;have fm:=W.mix T K i hi;have s0:=F5 K.u6.pos;have u0:=F5 H.un.1;have c0:=F5 (H.sc hi).1;have su:=aB s0 u0;have mv:=xj H K hi;have ge:0<=(fA I T i).1:=by
    rcases oH K hi with ⟨k,hk,rfl,hf,e⟩|⟨hn,⟨hf,q,hq,e⟩|⟨hf,e⟩⟩
    . rw[e];exact oJ (G0 K.u6.pos H.un.1) (bN (K.lo k hk) (T3 (H.sc hi).1))
    . rw[e];exact G.t0 i q hi hq
    . rw[e];exact jx _
   delta ia;walk_at "r";rw[jh _ hi];walk_at "r";rw[e9 (show ¬(fA I T i).1<0 by lia)]
   try walk_at "r"
   try rw[jh _ hi]
   try walk_at "r"
   cases hq:I.tp i with
   |none =>
    simp only[o2];walk_at "r"
   |some q =>
    have fq:=W.tp i q hi hq;have tv:=(rE H hi hq).1;have under:dW q (fA I T i)=false:=by
     rw[jf fq.pos fm.pos,pA];intro lt;have q0':0<=val q:=(uK fq.pos).mp (G.t0 i q hi hq);obtain⟨v,hv,hu⟩:=(rE H hi hq).2;rcases oH K hi with ⟨k,hk,hB,hf,e⟩|⟨hn,⟨hf,q',hq',e⟩|⟨hf,e⟩⟩
     . have hy:yv I.pb T i=T.am I.pb k:=by delta yv;rw[e9 (by rw[hf];decide),<-hB,xc K.u6 _ hk,J2]
       have hh:=K.hi k v hk (by rw[hB];exact hv)
       have hh':((T.am I.pb k:Int):Rat)<=(v:Rat)*(T.size:Rat):=by exact_mod_cast hh
       have l1:=Ml lt su;rw[mv,hy]at l1;rw[hu]at tv;have l2:=Rat.mul_le_mul_of_nonneg_left hh' (Rat.le_of_lt c0);have e3:(I.sc i:Rat)*((v:Rat)*(T.size:Rat))=val q*((T.size:Rat)*(I.un:Rat)):=by
        rw[show(I.sc i:Rat)*((v:Rat)*(T.size:Rat))=((v:Rat)*(I.sc i:Rat))*(T.size:Rat) by grind,tv]
        grind
       rw[e3]at l2;clear mv e3 tv;generalize val q*((T.size:Rat)*(I.un:Rat))=X at *;generalize (I.sc i:Rat)*((T.am I.pb k:Int):Rat)=Y at *;grind
     . rw[hq]at hq';cases hq';rw[e]at lt;grind
     . rw[e,cF]at lt;grind
    simp only[o2];walk_at "r";rw[vx fq fm (by have:=W.b6;lia),under]
    walk_at "r")
 delta gW;walk_at "r";rw[B2,C8 (by show -(4611686018427387904)<=(I.n:Int)/\(I.n:Int)<4611686018427387904;lia),J8]
 walk_at "r";rw[h1];walk_at "r";rw[c7 (R7 W.m1),B7 (g:=λp=>fr (I.rg p)) λp hp=>⟨_,.dat (fr (I.rg p)),rfl,by delta mi;walk_at "r";exact Eo W hp (λj hj=>W.mix T K j hj) (W.rg p hp) (Oq H K hp),rfl⟩]
 walk_at "r";rw[tS (k:=2) (Iu λp=>zg _)]
 rfl
theorem JQ(H:v5 I D E F)(W:Fits I kr kc kg kt kM kP B C)(K:Sx.Ok I.pb T)(En:Sx.M9 I.pb T a)(he:stI I.A0 T a I.m=[]):gU [I.m3,I.p5,I.t6,I.kR T a]=some (.dat (.bool true)):=by
 have n1:=W.n1;have ha:a<I.n:=En.an;have nb:∀k,k<I.m->T.B k≠a:=En.nb K.u6;obtain⟨hl,hfu,hp⟩:=pK K En he;have s0:=F5 K.u6.pos;obtain⟨ds',h1,y4,rfl⟩:=Z9 (gt:=z9 4) (G:=hW) (lo:=0) (n:=I.n) (ds:=[some (.dat I.m3),some (.dat I.p5),some (.dat I.t6),some (.dat (I.kR T a)),none])
  (λi ds=>∃y4,ds=[some (.dat I.m3),some (.dat I.p5),some (.dat I.t6),some (.dat (I.kR T a)),y4]) ⟨none,rfl⟩ (by
   rintro i ds hi ⟨y4,rfl⟩;refine⟨_,_,rfl,.inl ?_,iD (0+(i:Int)),rfl⟩;have ge:0<=(kQ I T a i).1/\(I.tp i≠none->(kQ I T a i).1=0):=by
    rcases sW (a:=a) K.u6 i with ⟨k,hk,rfl,e⟩|⟨hn,e⟩
    . obtain⟨p1,p2⟩:=hp k hk;rw[e];refine⟨oJ K.u6.pos (bN (by lia) (T3 (H.sc hi).1)),λz=>?_⟩
      have pz:T.i0 I.pb a k=0:=by
       rcases eZ (T.i0 I.pb a k) 0 with y|y
       . exact absurd (bL.mpr (p2 y)) z
       . lia
      rw[pz];delta r9;show(-0*I.sc (T.B k)).fdiv _=0
      rw[Int.neg_zero,U6,Int.zero_fdiv]
    . rw[e];by_cases z:i=a
      . rw[c7 z];exact⟨T3 (H.sc ha).1,λy=>absurd (bL.mpr (by rw[z];exact hl)) y⟩
      . rw[e9 z];exact⟨jx _,λ_=>rfl⟩
   delta hW;walk_at "r";rw[jh _ hi];walk_at "r";rw[e9 (show ¬(kQ I T a i).1<0 by lia)]
   try walk_at "r"
   try rw[jh _ hi]
   try walk_at "r"
   cases hq:I.tp i with
   |none =>
    simp only[o2];walk_at "r"
   |some q =>
    have z:=ge.2 (by rw[hq];exact λy=>by cases y)
    simp only[o2];walk_at "r";rw[e9 (λy=>y z)])
 obtain⟨x,k,t1,t2,t3,t4⟩:=zB W λj hj=>W.way T a K ha j hj
 delta gU;walk_at "r";rw[B2,C8 (by lia),J8]
 walk_at "r";rw[h1];walk_at "r";have z1:D6 m7 m6 gX [some (.dat I.m3),some (.dat I.p5),some (.dat I.t6),some (.dat (I.kR T a)),y4] (rl I.m λp=>.list (rl I.n λj=>fr (I.row p j)))=some (rl I.m λ_=>fr q0):=B7 λp hp=>⟨_,.dat (fr q0),rfl,by delta gX;walk_at "r";exact Eo W hp (λj hj=>W.way T a K ha j hj) (Z0 (m:=1) (by decide)) (by rw[Ms H K.u6 ha nb hp,cF]),rfl⟩
 have z2:D6 m7 m6 mh [some (.dat I.m3),some (.dat I.p5),some (.dat I.t6),some (.dat (I.kR T a)),y4] (rl I.m λp=>.list (rl I.n λj=>fr (I.row p j)))=some (rl I.m λ_=>fr q0):=B7 λp hp=>⟨_,.dat (fr q0),rfl,rfl,rfl⟩
 simp only[c7 (R7 W.m1),z1,z2];walk_at "r";rw[Oj (k:=2) (Iu λp=>zg _)]
 walk_at "r";rw[t1];walk_at "r";have m0:=λt (ht:t<3)=>aB s0 (F5 (H.mu ht).1)
 have v:=λt (ht:t<3)=>(t4 t ht▸Mt H K.u6 ha nb ht:val (O5 x t)*((T.size:Rat)*(I.mu t:Rat))=((T.rest I.pb t a:Int):Rat))
 have ch:M0 x w9=true:=(Bj (r:=λt=>T.rest I.pb t a) t2 (m0 0 (by decide)) (m0 1 (by decide)) (m0 2 (by decide)) (v 0 (by decide)) (v 1 (by decide)) (v 2 (by decide))).mpr (En.neg.congr λt _=>by
  show T.sg a*_=_
  rw[show T.sg a=1 from by delta Sx.Tb.sg;rw[hfu];rfl,dG])
 have cg:=Bi t2 (pT (m:=1) (by decide)) (by lia)
 rw[ch]at cg;rw[show eQ [.tuple [.int 0,.int 1],.tuple [.int 0,.int 1],.tuple [.int 0,.int 1]]=p9 w9 from rfl,cg]
 rfl
theorem Xp(W:Fits I kr kc kg kt kM kP B C)(K:Sx.Ok I.pb T):WC I.n I.m kr kP kg kt B C I.L5 I.X2 I.jX I.xV (I.dY T):=by
 refine⟨⟨W.n1,W.m1,by simp,by simp,by simp,λr hr=>?_,λx hx=>?_,W.rt T K,W.b3⟩,by simp,by simp,qc W.rg,λq hq=>?_,W.fl T K,W.b4,W.b5⟩
 . obtain⟨p,hp,rfl⟩:=mem_map.mp hr;exact⟨by simp,qc λj hj=>W.row p j (mem_range.mp hp) hj⟩
 . obtain⟨p,hp,rfl⟩:=mem_map.mp hx;exact W.pr T K p (mem_range.mp hp)
 . obtain⟨j,hj,e⟩:=mem_map.mp hq;exact W.tp j q (mem_range.mp hj) e
theorem OO(H:v5 I D E F)(W:Fits I kr kc kg kt kM kP B C)(K:Sx.Ok I.pb T)(ne:∀j,j<I.n->¬Sx.M9 I.pb T j):∃x,gh [I.m3,I.p5,I.o7,I.t6,.list (rl I.m λp=>p9 (F3 I.A0 T p))]=some (.dat (p9 x))/\bG [I.m3,I.iz T]=some (.dat (p9 x)):=by
 have KF:=Xp W K;have R:=KF.r;have cl:I.L5.length=I.n:=by simp
 have rl':I.X2.length=I.m:=by simp
 have s0:=F5 K.u6.pos;have rL:∀j,j<I.n->(dX I.L5 I.X2 (I.dY T)).getD j w9=gv I.L5 I.X2 (I.dY T) j I.m:=λj hj=>by rw[j9 w9 (by rw[cl];exact hj),rl']
 have rv:∀{π:Tr->Q2},Part π->∀j,j<I.n->val (π ((dX I.L5 I.X2 (I.dY T)).getD j w9))=val (π (I.cost j))-u7 (λp=>val (π (F3 I.A0 T p))*val (I.row p j)) I.m:=λ{π} P j hj=>by
  rw[rL j hj,P.HV R hj I.m (o3 _),j9 w9 hj]
  congr 1
  exact D5 I.m λp hp=>by rw[j9 w9 hp,j9 ([]:List Q2) hp,j9 q0 hj]
 have ch:∀j,j<I.n->(M0 ((dX I.L5 I.X2 (I.dY T)).getD j w9) w9=true↔Sx.Neg λt=>T.rest I.pb t j):=λj hj=>by
  have c0:=F5 (H.sc hj).1;have pz:=λt (ht:t<3)=>aB (aB c0 (F5 (H.mu ht).1)) s0
  refine Bj (R.rt hj) (pz 0 (by decide)) (pz 1 (by decide)) (pz 2 (by decide)) ?_ ?_ ?_
  . rw[rv uF j hj];exact fw H K.u6 (t:=0) (by decide) hj
  . rw[rv uE j hj];exact fw H K.u6 (t:=1) (by decide) hj
  . rw[rv uD j hj];exact fw H K.u6 (t:=2) (by decide) hj
 obtain⟨x,k,t1,t2,t3,t4⟩:=zB W λj hj=>W.mix T K j hj
 refine⟨x,?_,t1⟩;have e:=JH KF;rw[KA,MU,Gd,MA,<-zA I.m (F3 I.A0 T)];refine Eq.trans e ?_;have fl:QI I.L5 I.X2 I.jX I.xV (I.dY T)=some (jY (dX I.L5 I.X2 (I.dY T)) I.xV (gr (I.dY T) I.jX I.jX.length) I.L5.length):=by
  delta QI;refine c7 λj hj=>?_
  rw[cl]at hj;delta Wi;rintro⟨z1,z2⟩;rw[j9 none hj]at z2;exact(yB H K ne hj (ch j hj)).1 z1 z2
 rw[fl];have gl:I.jX.length=I.m:=by simp
 have FC:=W.fl T K I.n (o3 _);have key:∀{π:Tr->Q2} (t:Nat),t<3->(∀x,π x=O5 x t)->Part π->val (π (jY (dX I.L5 I.X2 (I.dY T)) I.xV (gr (I.dY T) I.jX I.jX.length) I.L5.length))=val (π x):=λ{π} t ht hπ P=>by
  rw[hπ x,t4 t ht,<-DF H K ne ch ht,cl];rw[P.HW (B:=B) (C:=C) (kt:=max 1 kt) I.n (λj hj=>W.fl T K j hj) λj hj=>⟨R.rt hj,?_⟩]
  . congr 1
    . rw[gl,P.zw (k:=kP) (l:=kg) I.m λp hp=>by rw[j9 w9 hp,j9 q0 hp];exact⟨W.pr T K p hp,W.rg p hp⟩]
      exact D5 I.m λp hp=>by rw[j9 w9 hp,j9 q0 hp,hπ]
    . refine D5 I.n λj hj=>?_
      rw[rv P j hj,j9 none hj];have:val (π (I.cost j))-u7 (λp=>val (π (F3 I.A0 T p))*val (I.row p j)) I.m=U3 I T t j:=by
       delta U3;rw[hπ]
       congr 1
       exact D5 I.m λp hp=>by rw[hπ]
      rw[this]
  . rw[j9 none hj];cases hq:I.tp j with
    |none=>exact Z0 (by lia)
    |some q=>exact(W.tp j q hj hq).mono (by lia)
 have ex:∀x y:Tr,x.a=y.a->x.b=y.b->x.c=y.c->x=y:=λx y h1 h2 h3=>by cases x;cases y;simp only at h1 h2 h3;rw[h1,h2,h3]
 rw[cl]at key;have hx:jY (dX I.L5 I.X2 (I.dY T)) I.xV (gr (I.dY T) I.jX I.jX.length) I.L5.length=x:=by rw[cl];exact ex _ _ (val_inj FC.a t2.a (key 0 (by decide) (λ_=>rfl) uF)) (val_inj FC.b t2.b (key 1 (by decide) (λ_=>rfl) uE)) (val_inj FC.c t2.c (key 2 (by decide) (λ_=>rfl) uD))
 rw[hx];rfl
theorem xQ(H:v5 I D E F)(G:cY I c)(W:Fits I kr kc kg kt kM kP B C){d:c6}(h:Res I d):J4 [I.m3,I.p5,I.o7,I.t6,d]=some (.dat (.bool true)):=by
 have n1:=W.n1;have m1:=W.m1;obtain⟨b1,b2,_⟩:=W.b6;cases h with
 | @best T K ne =>
  have l1:H0 [I.iz T,.int (I.n:Int),.str "fractions"]=some (.dat (.bool true)):=oP n1 (W.mix T K) (by lia)
  have l2:H0 [.list (rl I.m λp=>p9 (F3 I.A0 T p)),.int (I.m:Int),.str "triples"]=some (.dat (.bool true)):=Hg m1 (W.pr T K) (by lia)
  have mx:=yt H G W K;obtain⟨x,f1,f2⟩:=OO H W K ne;show J4 [I.m3,I.p5,I.o7,I.t6,.tuple [.str "best",I.iz T,.list (rl I.m λp=>p9 (F3 I.A0 T p))]]=_
  delta J4;walk_at "r";rw[B2,l1];walk_at "r";rw[mx];walk_at "r";rw[e9 (show ¬(cW "best" = cW "endless")from by decide +kernel)]
  walk_at "r";rw[B2,l2];walk_at "r";rw[f1];walk_at "r";rw[f2];walk_at "r";rw[tS (WT x)];rfl
 | @endless T a K En he =>
  have l1:H0 [I.iz T,.int (I.n:Int),.str "fractions"]=some (.dat (.bool true)):=oP n1 (W.mix T K) (by lia)
  have l2:H0 [I.kR T a,.int (I.n:Int),.str "fractions"]=some (.dat (.bool true)):=oP n1 (W.way T a K En.an) (by lia)
  have mx:=yt H G W K;have wy:=JQ H W K En he;show J4 [I.m3,I.p5,I.o7,I.t6,.tuple [.str "endless",I.iz T,I.kR T a]]=_
  delta J4;walk_at "r";rw[B2,l1];walk_at "r";rw[mx];walk_at "r";rw[l2];walk_at "r";rw[wy];walk_at "r"
end
end
section
variable{D:Int}{k β ω t j:Nat}
theorem ui{M b:Int}{q:Q2}(h:FD D M q)(hd:q.2∣b)(hb:0<b):((wh q b).natAbs:Int)<=M*b:=by
 have e:=uh h.pos hd;have m:=h.sF;have p:=h.pos;have e1:((wh q b).natAbs:Int)*q.2=(q.1.natAbs:Int)*b:=by
  have:=V7 Int.natAbs e;rw[aE,aE]at this;have h2:(((wh q b).natAbs*q.2.natAbs:Nat):Int)=((q.1.natAbs*b.natAbs:Nat):Int):=by rw[this]
  rw[Ca,Ca,LI (T3 p),LI (T3 hb)]at h2;exact h2
 have l:=iX m (T3 hb);have:q.2*((wh q b).natAbs:Int)<=q.2*(M*b):=by rw[D3 q.2,e1];refine qO l (Int.le_of_eq ?_);rw[D3 M,G3]
 exact wH this p
theorem nI{x M:Int}(h:(x.natAbs:Int)<=M)(b:Bt k M):Bt k x:=b.of_le (by lia)
section
variable{Q:K6}{T:Sx.Tb}{b:Nat->Int}{c:Nat}
theorem Small.bits(S:Small Q b c)(K:Sx.Ok (Q.pb b) T)(hb:∀p,p<Q.m->Bt β (b p))(hl:∀j v,j<Q.n->Q.lim j=some v->Bt β v)(hw:∀t j,t<3->j<Q.n->Bt ω (Q.wt t j))(h1:1<=β):
  Bt (c*Q.m+1) T.size/\(∀a k,a<Q.n->k<Q.m->Bt (c*Q.m+c+1) (T.i0 (Q.pb b) a k))/\(∀k,k<Q.m->Bt (c*Q.m+(β+c+22)+1) (T.am (Q.pb b) k))/\∀t q,t<3->q<Q.m->Bt (ω+(c*Q.m+12)+10) (T.pr t q):=by
 have L:=K.u6;have inv:∀k q,k<Q.m->q<Q.m->Bt (c*Q.m+12) (T.inv k q):=λk q hk hq=>by
  have h:Sx.sN Q.m (λr=>(Sx.unit q r).natAbs)<2 ^ (1+10):=ur S.m1 λi _=>by delta Sx.unit;split<;>decide
  have:=S.det L hk (x:=Sx.unit q) (d:=11) (jy h);rw[Sx.oX _ hq]at this;exact this
 have rt:∀p,p<Q.m->Bt (β+c+12) (T.rt p):=λp hp=>by
  rw[K.rt p hp];have h1:Bt (β+(c+1)+10) (Sx.fsum (Q.pb b) T λj=>(Q.pb b).A j p):=Bt.sm S.n1 λj hj=>by
   split
   . refine Bt.mul ?_ (S.col hj hp);delta Sx.uv;show Bt β ((Q.lim j).getD 0)
     cases hl':Q.lim j with
     |none=>exact Bt.mono (m:=1) ⟨by decide⟩ h1
     |some v=>exact hl j v hj hl'
   . exact Bt.mono (m:=1) ⟨by decide⟩ (by lia)
  exact((hb p hp).mono (n:=β+c+11) (by lia)).sub (h1.mono (n:=β+c+11) (by lia))
 refine⟨?_,λa k ha hk=>S.det L hk (x:=D9 (Q.col a)) (d:=c) (S.cn a ha),λk hk=>?_,λt q ht hq=>?_⟩
 . obtain⟨s,h1,h2,h3⟩:=L.sg;exact Bt.sign h1 h2 (xF (m:=Q.m) (c:=c) (d:=0) (k:=Q.m) (M:=T.M (Q.pb b)) (λi hi _=>S.cn _ (L.bn i hi)) (λz=>by lia))
 . have h:Sx.sN Q.m (λr=>(T.rt r).natAbs)<2 ^ (β+c+12+10):=ur S.m1 λp hp=>(rt p hp).lt
   exact S.det L hk (x:=T.rt) (d:=β+c+22) (jy h)
 . rw[L.pr t q hq];exact Bt.sm S.m1 λk hk=>(hw t _ ht (L.bn k hk)).mul (inv k q hk hq)
end
abbrev cE:Int:=900*10 ^ 60
structure Nums(I:m8):Prop where
 m4:I.m<=4
 Qt:I.n<=11
 row:∀p j,p<I.m->j<I.n->l7 14 (I.row p j)/\FD 30 10000 (I.row p j)
 cost:∀j,j<I.n->TD cE (10 ^ 69) (I.cost j)
 rg:∀p,p<I.m->l7 14 (I.rg p)/\FD 30 10000 (I.rg p)
 tp:∀j q,j<I.n->I.tp j=some q->l7 29 q/\FD 30 20000 q
 fs:∀k,k<I.m->I.fs k<I.n
section
variable{I:m8}{T:Sx.Tb}
theorem PY{M:Int}{x:Tr}(h:TD D M x)(ht:t<3):FD D M (O5 x t):=by
 rcases JD ht with rfl|rfl|rfl
 . exact h.a
 . exact h.b
 . exact h.c
theorem Nums.XH(N:Nums I)(hj:j<I.n):B5 440 (I.cost j):=(N.cost j hj).ok (by decide) ⟨by decide +kernel⟩ ⟨by decide +kernel⟩
theorem Nums.ok(N:Nums I):v5 I 30 cE 900:=by
 have m4:=N.m4;have Qt:=N.Qt;refine⟨by lia,by lia,by decide,by decide,by decide,Bt.mono (m:=5) ⟨by decide⟩ (by decide),Bt.mono (m:=210) ⟨by decide +kernel⟩ (by decide),Bt.mono (m:=10) ⟨by decide⟩ (by decide),λp j hp hj=>⟨(N.row p j hp hj).1.mono (by decide),(N.row p j hp hj).2.dvd⟩,λt j ht hj=>?_,λp hp=>⟨(N.rg p hp).1.mono (by decide),gP (N.rg p hp).2.dvd ⟨30,by decide⟩⟩,λj q hj hq=>⟨(N.tp j q hj hq).1.mono (by decide),λs hs=>?_⟩,N.fs⟩
 . have f:=PY (N.cost j hj) ht;exact⟨(f.Hr (k:=440) (by decide) ⟨by decide +kernel⟩ ⟨by decide +kernel⟩).mono (by decide),f.dvd⟩
 . exact vV (N.tp j q hj hq).2.dvd hs
theorem Nums.cn(N:Nums I)(hj:j<I.n):Sx.sN I.m (λp=>(wh (I.row p j) (I.sc j)).natAbs)<=2 ^ 21:=by
 obtain⟨s1,s2,_,s4⟩:=N.ok.sc hj;have s30:=ff (by decide) s2
 have m4:=N.m4;have one:∀p,p<I.m->(wh (I.row p j) (I.sc j)).natAbs<=300000:=λp hp=>by have:=ui (N.row p j hp hj).2 (s4 p hp) s1;lia
 have:∀k,k<=I.m->Sx.sN k (λp=>(wh (I.row p j) (I.sc j)).natAbs)<=k*300000:=by
  intro k;induction k with
  |zero=>intro _;exact o3 _
  |succ k ih =>
   intro hk;have:=ih (by lia)
   have:=one k (by lia)
   rw[Sx.sN];lia
 have:=this I.m (o3 _);have:I.m*300000<=4*300000:=pk _ m4;lia
theorem Nums.bits(N:Nums I)(G:cY I 21)(K:Sx.Ok I.pb T):Bt 85 T.size/\(∀a k,a<I.n->k<I.m->Bt 106 (T.i0 I.pb a k))/\(∀k,k<I.m->Bt 153 (T.am I.pb k))/\∀t q,t<3->q<I.m->Bt 550 (T.pr t q):=by
 have H:=N.ok;have m4:=N.m4;obtain⟨u1,u2,u3,u4,u5⟩:=H.un;have un:=ff (by decide) u2
 have S:=m8.side H G;have h:=S.s.bits K (β:=25) (ω:=444) (λp hp=>by
   have:=ui (N.rg p hp).2 (u4 p hp) u1;refine nI (M:=9000000) ?_ ⟨by decide⟩
   show((wh (I.rg p) I.un).natAbs:Int)<=_
   lia) (λj v hj hv=>by
   have hv':I.lim j=some v:=hv;delta m8.lim at hv';obtain⟨r,hr,rfl⟩:=Option.map_eq_some_iff.mp hv';have rd:=u5 j r hj hr;delta m8.hq at hr;obtain⟨q,hq,rfl⟩:=Option.map_eq_some_iff.mp hr;obtain⟨s1,s2,_,_⟩:=H.sc hj;have f1:FD 30 1 (1,I.sc j):=⟨s1,by show n9 1 _=1;simp,s2,by show((1:Int).natAbs:Int)<=1*I.sc j;lia⟩
   have f:=(N.tp j q hj hq).2.times f1;have:=ui f rd u1;refine nI (M:=18000000) ?_ ⟨by decide⟩
   lia) (λt j ht hj=>by
   obtain⟨s1,s2,_,_⟩:=H.sc hj;have s30:=ff (by decide) s2
   obtain⟨m1,m2,_,m4⟩:=H.mu ht;have me:=ff H.e0 m2;have f1:FD 1 30 (I.sc j,1):=⟨by show(0:Int)<1;decide,by show n9 _ 1=1;simp,X8 _,by show((I.sc j).natAbs:Int)<=30*1;lia⟩
   have f:=(PY (N.cost j hj) ht).times f1;have w:=ui f (m4 j hj) m1;refine nI (M:=10 ^ 69*30*cE) (qO w (bP me (by decide))) ⟨by decide +kernel⟩) (by decide)
 obtain⟨h1,h2,h3,h4⟩:=h;have cm:21*I.m<=84:=by lia
 have e:I.A0.m=I.m:=rfl;rw[e]at h1 h2 h3 h4;exact⟨h1.mono (by lia),λa k ha hk=>(h2 a k ha hk).mono (by lia),λk hk=>(h3 k hk).mono (by lia),λt q ht hq=>(h4 t q ht hq).mono (by lia)⟩
theorem Nums.fits(N:Nums I)(G:cY I 21):Fits I 14 440 14 29 158 550 2700 900:=by
 have H:=N.ok;have m4:=N.m4;have Qt:=N.Qt;obtain⟨u1,u2,u3,u4,u5⟩:=H.un;have ub:Bt 10 I.un:=nI (M:=900) (by have:=ff (by decide) u2;lia) ⟨by decide⟩
 have sb:∀j,j<I.n->Bt 5 (I.sc j):=λj hj=>nI (M:=30) (by have:=ff (by decide) (H.sc hj).2.1;have:=(H.sc hj).1;lia) ⟨by decide⟩
 have mb:∀t,t<3->Bt 210 (I.mu t):=λt ht=>nI (M:=cE) (by have:=ff H.e0 (H.mu ht).2.1;have:=(H.mu ht).1;lia) ⟨by decide +kernel⟩
 have prTD:∀T,Sx.Ok I.pb T->∀p,p<I.m->TD (T.size*cE) (2 ^ 550) (F3 I.A0 T p):=λT K p hp=>by
  obtain⟨z1,_,_,z4⟩:=N.bits G K;have one:∀t,t<3->FD (T.size*cE) (2 ^ 550) (r9 (T.pr t p) (T.size*I.mu t)):=λt ht=>by
   have ps:=G0 K.u6.pos (H.mu ht).1;refine vk ps (vV (X8 _) (H.mu ht).2.1) ?_;have l:=(z4 t p ht hp).lt;have:((T.pr t p).natAbs:Int)<=2 ^ 550:=by exact_mod_cast jy l
   have q:(2 ^ 550:Int)*1<=2 ^ 550*(T.size*I.mu t):=bP (by lia) (by decide)
   rw[cq]at q;exact qO this q
  exact⟨one 0 (by decide),one 1 (by decide),one 2 (by decide)⟩
 have prOk:∀T,Sx.Ok I.pb T->∀p,p<I.m->B5 550 (F3 I.A0 T p):=λT K p hp=>by
  obtain⟨z1,_,_,z4⟩:=N.bits G K;have one:∀t,t<3->l7 550 (r9 (T.pr t p) (T.size*I.mu t)):=λt ht=>bK (G0 K.u6.pos (H.mu ht).1) (z4 t p ht hp) ((z1.mul (mb t ht)).mono (by decide))
  exact⟨one 0 (by decide),one 1 (by decide),one 2 (by decide)⟩
 have rget:∀{p j:Nat},p<I.m->j<I.n->(I.X2.getD p []).getD j q0=I.row p j:=λ{p j} hp hj=>by rw[j9 ([]:List Q2) hp,j9 q0 hj]
 refine⟨by lia,by lia,λp j hp hj=>(N.row p j hp hj).1,λj hj=>N.XH hj,λp hp=>(N.rg p hp).1,λj q hj hq=>(N.tp j q hj hq).1,λT K j hj=>?_,λT a K ha j hj=>?_,prOk,λT K j hj i hi=>?_,λT K j hj=>?_,by lia,by lia,by decide,by lia,by decide,by decide⟩
 . obtain⟨z1,_,z3,_⟩:=N.bits G K;rcases oH K hj with ⟨k,hk,rfl,hf,e⟩|⟨hn,⟨hf,q,hq,e⟩|⟨hf,e⟩⟩
   . rw[e];exact bK (G0 K.u6.pos u1) ((z3 k hk).mul (sb _ hj)) ((z1.mul ub).mono (by decide))
   . rw[e];exact(N.tp j q hj hq).1.mono (by decide)
   . rw[e];exact Z0 (by decide)
 . obtain⟨z1,z2,_,_⟩:=N.bits G K;rcases sW (a:=a) K.u6 j with ⟨k,hk,rfl,e⟩|⟨hn,e⟩
   . rw[e];exact bK K.u6.pos (((z2 a k ha hk).neg.mul (sb _ hj)).mono (by decide)) (z1.mono (by decide))
   . rw[e];by_cases z:j=a
     . rw[c7 z];exact ix ((sb a ha).mono (by decide)) (by decide)
     . rw[e9 z];exact Z0 (by decide)
 . have key:∀i,i<=I.m->B5 (440+565*i) (gv I.L5 I.X2 (I.dY T) j i):=by
     intro i;induction i with
     |zero=>intro _;show B5 _ (I.L5.getD j w9);rw[j9 w9 hj];exact N.XH hj
     |succ i ih =>
      intro hi;rw[gv,j9 w9 (show i<I.m by lia),rget (by lia) hj]
      exact(EC (ih (by lia)) (prOk T K i (by lia)) (oG (N.row i j (by lia) hj).1)).mono (by lia)
   exact(key i hi).mono (by lia)
 . have s0:=K.u6.pos;obtain⟨z1,_,_,_⟩:=N.bits G K;have rt:∀j,j<I.n->TD (T.size*cE*30) (10 ^ 69+2 ^ 550*10000*4) ((dX I.L5 I.X2 (I.dY T)).getD j w9):=λj hj=>by
    have key:∀i,i<=I.m->TD (T.size*cE*30) (10 ^ 69+2 ^ 550*10000*i) (gv I.L5 I.X2 (I.dY T) j i):=by
     intro i;induction i with
     |zero =>
      intro _;show TD _ _ (I.L5.getD j w9)
      rw[j9 w9 hj];exact(N.cost j hj).mono (CN (Int.dvd_mul_left _ _)) (by simp)
     |succ i ih =>
      intro hi;rw[gv,j9 w9 (show i<I.m by lia),rget (by lia) hj]
      refine((ih (by lia)).more (prTD T K i (by lia)) (N.row i j (by lia) hj).2.neg (X8 _)).mono (X8 _) ?_
      rw[vT,eO];lia
    rw[j9 w9 (by simpa using hj),show I.X2.length=I.m by simp]
    exact(key I.m (o3 _)).mono (X8 _) (Int.add_le_add_left (bP (by lia) (by decide)) _)
   have gl:I.jX.length=I.m:=by simp
   have s:=Qi (costs:=I.dY T) (mix:=I.jX) (D:=T.size*cE*30) (E:=T.size*cE) (F:=30) (M:=2 ^ 550) (N:=10000) (X8 _) (by decide) (by decide) I.m λp hp=>by rw[j9 w9 hp,j9 q0 hp];exact⟨prTD T K p hp,(N.rg p hp).2⟩
   have s':TD (T.size*cE*900) (2 ^ 550*10000*4) (gr (I.dY T) I.jX I.jX.length):=by rw[gl];exact s.mono (vV (X8 _) ⟨30,by decide⟩) (bP (by lia) (by decide))
   have f:=QH (rests:=dX I.L5 I.X2 (I.dY T)) (tp:=I.xV) (D:=T.size*cE*900) (E:=T.size*cE*30) (F:=30) (M:=10 ^ 69+2 ^ 550*10000*4) (N:=20000) ⟨1,by rw[cq,G3 (T.size*cE) 30 30];rfl⟩ (by decide) (by decide) s' j λi hi=>⟨rt i (by lia),λt ht=>by
    rw[j9 none (show i<I.n by lia)]at ht
    exact(N.tp i t (by lia) ht).2⟩
   have M:2 ^ 550*10000*4+(10 ^ 69+2 ^ 550*10000*4)*20000*(j:Int)<=2 ^ 590:=by
    have h1:(10 ^ 69+2 ^ 550*10000*4)*20000*(j:Int)<=(10 ^ 69+2 ^ 550*10000*4)*20000*11:=bP (by lia) (by decide)
    have h2:(2 ^ 550*10000*4+(10 ^ 69+2 ^ 550*10000*4)*20000*11:Int)<=2 ^ 590:=by decide
    lia
   have db:Bt 305 (T.size*cE*900):=(((z1.mul (⟨by decide +kernel⟩:Bt 210 cE))).mul (⟨by decide⟩:Bt 10 900))
   exact(f.mono (X8 _) M).ok (G0 (G0 s0 (by decide)) (by decide)) (db.mono (by decide)) (((⟨by decide +kernel⟩:Bt 591 (2 ^ 590)).mul db).mono (by decide))
end
end
section
variable{t k lo hi D:Int}{ns:List Int}{α ζ:Type}{m j:Nat}{p q r:Q2}
theorem Ow{b:Int}(hb:0<b):(0<=t->0<=(r9 t b).1)/\(t<=0->(r9 t b).1<=0)/\(t<0->(r9 t b).1<0):=by
 obtain⟨e1,_,e3,_⟩:=cw (t:=t) hb;generalize (r9 t b).1=x at *;generalize (r9 t b).2=y at *;refine⟨λh=>?_,λh=>?_,λh=>?_⟩
 . have:=bN h (T3 e1);rcases eZ x 0 with z|z
   . have:=rn z hb;lia
   . exact z
 . have:=CY h (T3 e1);rcases eZ 0 x with z|z
   . have:=G0 z hb;lia
   . exact z
 . have:=rn h e1;rcases eZ x 0 with z|z
   . exact z
   . have:=bN z (T3 hb);lia
theorem kI(hl:ns.length<=63)(hk0:0<=k)(hk1:k<=100000)(l0 : -10<=lo)(lh:lo<=hi)(h1:hi<=10):
  ∃q:Q2,E5 [C7 ns,.int k,.int lo,.int hi]=some (.dat (fr q))/\l7 14 q/\FD 30 10000 q/\(0<=lo->0<=q.1)/\(hi<=0->q.1<=0)/\(hi<0->q.1<0):=by
 obtain⟨b',eb,b0',b1'⟩:=L3 (ns:=ns) (k:=k+1900) (m:=6) hl (by lia) (by lia) (by decide)
 obtain⟨b,hb,b0,b1,b30⟩:∃b:Int,K5 [ao 1,.int 1,.int 1,.int 2,.int 3,.int 10] b'=some (.int b)/\0<b/\b<=10/\b∣30:=by
  have:b'=0\/b'=1\/b'=2\/b'=3\/b'=4\/b'=5:=by lia
  rcases this with rfl|rfl|rfl|rfl|rfl|rfl<;>exact⟨_,rfl,by decide,by decide,by decide⟩
 obtain⟨f',ef,f0',f1'⟩:=L3 (ns:=ns) (k:=1) (m:=6) hl (by decide) (by decide) (by decide)
 obtain⟨f,hf,f0,f1⟩:∃b:Int,K5 [ao 1,.int 1,.int 1,.int 1,.int 1,.int 1000] f'=some (.int b)/\0<b/\b<=1000:=by
  have:f'=0\/f'=1\/f'=2\/f'=3\/f'=4\/f'=5:=by lia
  rcases this with rfl|rfl|rfl|rfl|rfl|rfl<;>exact⟨_,rfl,by decide,by decide⟩
 obtain⟨d,ed,d0,d1⟩:=L3 (ns:=ns) (k:=k) (m:=hi-lo+1) hl (by lia) (by lia) (by lia)
 have c1 : -10<=lo+d:=by lia
 have c2:lo+d<=10:=by lia
 have m1:f*(lo+d)<=10000:=by
  have:f*(lo+d)<=f*10:=bP c2 (by lia)
  lia
 have m2 : -10000<=f*(lo+d):=by
  have:f*(-10)<=f*(lo+d):=bP c1 (by lia)
  lia
 delta E5;walk_at "r";rw[eb];walk_at "r";rw[hb];walk_at "r";rw[ef];walk_at "r";rw[hf];walk_at "r";rw[ed];walk_at "r";rw[p8 (Bt.ic (by lia) (by lia)) (Bt.ic (by lia) (by lia))]
 walk_at "r";rw[norm_eq b0 (Bt.ic (by lia) (by lia))]
 obtain⟨n1,n2,n3⟩:=Ow (t:=f*(lo+d)) b0;exact⟨_,rfl,bK b0 ⟨by lia⟩ ⟨by lia⟩,vk b0 b30 (by lia),λh=>n1 (bN (by lia) (by lia)),λh=>n2 (vz (by lia) (by lia)),λh=>n3 (Me f0 (by lia))⟩
theorem Wk{g:α->c6}{f:Nat->α}{i:Nat}{q:α}(h:f i=q):rl i (λj=>g (f j))++[g q]=rl (i+1) λj=>g (f j):=by rw[<-Eh,h]
theorem pe(g:α->c6)(P:Nat->α->Prop)(a0:α){gt:c6->Ds->Option Ds}{G:Ds->Option Out}{n:Nat}{mk:List c6->ζ->Ds}(z0:ζ)
  (hs:∀i,i<n->∃q,P i q/\∀(l:List c6) (z:ζ),l.length=i->∃ds1 z',gt (.int (0+(i:Nat))) (mk l z)=some ds1/\G ds1=some (.next (mk (l++[g q]) z'))) :
  ∃f:Nat->α,(∀i,i<n->P i (f i))/\∃z',K7 gt G (V3 0 n) (mk [] z0)=some (.next (mk (rl n λi=>g (f i)) z')):=by
 let f:Nat->α:=λi=>open Classical in if h:i<n then(hs i h).choose else a0
 have hf:∀i,(h:i<n)->f i=(hs i h).choose:=λi h=>dif_pos h
 refine⟨f,λi hi=>by rw[hf i hi];exact(hs i hi).choose_spec.1,?_⟩
 obtain⟨ds',h1,z',rfl⟩:=Z9 (gt:=gt) (G:=G) (lo:=0) (n:=n) (ds:=mk [] z0) (λi ds=>∃z',ds=mk (rl i λi=>g (f i)) z') ⟨z0,rfl⟩ (by
  rintro i ds hi ⟨z,rfl⟩;obtain⟨ds1,z',e1,e2⟩:=(hs i hi).choose_spec.2 (rl i λi=>g (f i)) z (B2 _ _)
  refine⟨ds1,_,e1,.inl e2,z',?_⟩;rw[Wk (hf i hi)])
 exact⟨z',h1⟩
theorem cP{i:Nat}{ds:Ds}{l:List c6}{d:c6}(h:ds[i]? = some (some (.own l)))(hl:l.length<1000):Bu (some (.dat d)) i ds=some (.next (ds.set i (some (.own (l++[d]))))):=cQ _ h (by lia)
def Ra(_:Nat)(q:Q2):Prop:=l7 14 q/\FD 30 10000 q/\0<=q.1
theorem MW(hl:ns.length<=63)(hm:m<=20):∃f:Nat->Q2,bQ [C7 ns,.int m]=some (.own (rl m λi=>fr (f i)))/\∀i,i<m->Ra i (f i):=by
 obtain⟨f,hf,z',e⟩:=pe fr Ra q0 (gt:=z9 3) (G:=hU) (n:=m) (ζ:=Option PV×Option PV) (mk:=λl z=>[some (.dat (C7 ns)),iD m,some (.own l),z.1,z.2]) (none,none) λi hi=>by
  obtain⟨d,ed,d0,d1⟩:=L3 (ns:=ns) (k:=500+(i:Int)) (m:=3) hl (by lia) (by lia) (by decide)
  obtain⟨s,es,sf,sd,s0,_,_⟩:=kI (ns:=ns) (k:=510+(i:Int)) (lo:=0) (hi:=9) hl (by lia) (by lia) (by decide) (by decide) (by decide)
  refine⟨if 0<d then s else q0,by split;exact⟨sf,sd,s0 (by decide)⟩;exact⟨Z0 (by decide),gB (by decide),jx _⟩,λl z hl=>⟨_,(iD (0+(i:Int)),some (.dat (fr (if 0<d then s else q0)))),rfl,?_⟩⟩
  delta hU;rw[J2];walk_at "r";rw[ed];walk_at "r";by_cases c:0<d
  . rw[c7 c,c7 c,es];walk_at "r";rw[cP (l:=l) rfl (by lia)]
    rfl
  . rw[e9 c,e9 c];walk_at "r";exact cP (l:=l) (d:=fr q0) rfl (by lia)
 refine⟨f,?_,hf⟩;delta bQ;walk_at "r";rw[C8 (by lia)]
 walk_at "r";rw[J8,e];walk_at "r"
theorem ET{fs:Nat->Nat}(h:∃k,k<m/\fs k=j)(hl:m<=1000):∃i,la (.list (rl m λk=>.int (fs k:Int))) [V5 j]=some (.dat (V5 i))/\i<m/\fs i=j:=by
 have e:intsOf (rl m λk=>.int (fs k:Int))=some ((A4 m).map λk=>(fs k:Int)):=ints_map (λk=>(fs k:Int)) _
 show ∃i:Nat,((intsOf (rl m λk=>.int (fs k:Int))).bind λns=>if ((j:Int))∈ns/\ns.length<=1000000 then some (PV.dat (.int (ns.idxOf (j:Int):Nat)))else none)=_/\_
 rw[e];simp only[j4];have hj:(j:Int)∈(A4 m).map (λk=>(fs k:Int)):=by obtain⟨k,hk,rfl⟩:=h;exact mem_map.mpr ⟨k,mem_range.mpr hk,rfl⟩
 rw[c7 ⟨hj,by rw[N9,nX];lia⟩]
 have hi:=List.idxOf_lt_length_of_mem hj;have hi':((A4 m).map λk=>(fs k:Int)).idxOf (j:Int)<m:=by simpa using hi
 refine⟨_,rfl,hi',?_⟩;have:=Lx hi;rw[qU,rf]at this
 exact_mod_cast this
theorem Hk(m j:Nat)(fs:Nat->Nat):inD (V5 j) (.list (rl m λk=>.int (fs k:Int)))=some (.dat (.bool (decide (∃k,k<m/\fs k=j)))):=by
 have e:nP (rl m λk=>.int (fs k:Int))=nats ((A4 m).map fs):=by rw[nats,eU];rfl
 rw[e,SS]
 congr 3
 simp
theorem VO(hp:0<p.2)(hq:0<q.2)(h:val p<=val q):p.1*q.2<=q.1*p.2:=by
 have:=jf hq hp;unfold dW at this;rw[decide_eq_decide]at this;have n:¬val q<val p:=by grind
 have k:¬(q.1*p.2<p.1*q.2):=λz=>n (this.mp z)
 lia
def Wv(m:Nat)(fs:Nat->Nat)(rg:Nat->Q2)(j:Nat)(t:Option Q2):Prop:=∀q,t=some q->l7 29 q/\FD 30 20000 q/\0<=q.1/\∀k,k<m->fs k=j->(rg k).1*q.2<=q.1*(rg k).2
theorem zV{s:Q2}{D:Int}(hs:l7 14 s)(hr:l7 14 r)(ds:FD 30 10000 s)(dr:FD 30 10000 r)(s0:0<=s.1)(r0:0<=r.1):l7 29 (M4 s r)/\FD 30 20000 (M4 s r)/\0<=(M4 s r).1/\r.1*(M4 s r).2<=(M4 s r).1*r.2:=by have f:=jk hs hr;have v:=sX hs.pos hr.pos;have s0':=(uK hs.pos).mp s0;have r0':=(uK hr.pos).mp r0;exact⟨f,ds.plus dr,(uK f.pos).mpr (by rw[v];grind),VO hr.pos f.pos (by rw[v];grind)⟩
theorem TY{n:Nat}{fs:Nat->Nat}{rg:Nat->Q2}(hl:ns.length<=63)(hn:n<=20)(hm:m<=20)(inj:∀k l,k<m->l<m->fs k=fs l->k=l)(hr:∀i,i<m->Ra i (rg i)):
  ∃f:Nat->Option Q2,fL [C7 ns,.int n,.list (rl m λk=>.int (fs k:Int)),.list (rl m λi=>fr (rg i))]=some (.own (rl n λj=>o2 (f j)))/\∀j,j<n->Wv m fs rg j (f j):=by
 obtain⟨f,hf,z',e⟩:=pe o2 (Wv m fs rg) none (gt:=z9 5) (G:=dP) (n:=n) (ζ:=Option PV×Option PV) (mk:=λl z=>[some (.dat (C7 ns)),iD n,some (.dat (.list (rl m λk=>.int (fs k:Int)))),some (.dat (.list (rl m λi=>fr (rg i)))),some (.own l),z.1,z.2]) (none,none) λj hj=>by
  obtain⟨d,ed,d0,d1⟩:=L3 (ns:=ns) (k:=520+(j:Int)) (m:=3) hl (by lia) (by lia) (by decide)
  obtain⟨s,es,sf,sd,s0,_,_⟩:=kI (ns:=ns) (k:=540+(j:Int)) (lo:=0) (hi:=9) hl (by lia) (by lia) (by decide) (by decide) (by decide)
  by_cases c:0<d
  . by_cases c2:∃k,k<m/\fs k=j
    . obtain⟨i,ei,hi,hij⟩:=ET c2 (by lia)
      obtain⟨g1,g2,g3⟩:=hr i hi;obtain⟨p1,p2,p3,p4⟩:=zV (D:=0) sf g1 sd g2 (s0 (by decide)) g3
      refine⟨some (M4 s (rg i)),λq hq=>by cases hq;exact⟨p1,p2,p3,λk hk hkj=>by rw[inj k i hk hi (by rw[hkj,hij])];exact p4⟩,λl z hl=>⟨_,(iD (0+(j:Int)),some (.dat (o2 (some (M4 s (rg i)))))),rfl,?_⟩⟩
      delta dP;rw[J2];walk_at "r";rw[ed];walk_at "r";rw[c7 c,es];walk_at "r";rw[Hk];walk_at "r";rw[c7 c2];simp only[oU];walk_at "r";rw[ei];walk_at "r";rw[A3 _ hi];walk_at "r";rw[wU sf g1 (by decide)]
      walk_at "r";exact cP (l:=l) (d:=o2 (some (M4 s (rg i)))) rfl (by lia)
    . refine⟨some s,λq hq=>by cases hq;exact⟨sf.mono (by decide),sd.mono (X8 _) (by decide),s0 (by decide),λk hk hkj=>absurd ⟨k,hk,hkj⟩ c2⟩,λl z hl=>⟨_,(iD (0+(j:Int)),some (.dat (o2 (some s)))),rfl,?_⟩⟩
      delta dP;rw[J2];walk_at "r";rw[ed];walk_at "r";rw[c7 c,es];walk_at "r";rw[Hk];walk_at "r";rw[e9 c2];walk_at "r";exact cP (l:=l) (d:=o2 (some s)) rfl (by lia)
  . refine⟨none,λq hq=>(by cases hq),λl z hl=>⟨_,(iD (0+(j:Int)),some (.dat (o2 none))),rfl,?_⟩⟩
    delta dP;rw[J2];walk_at "r";rw[ed];walk_at "r";rw[e9 c];walk_at "r";exact cP (l:=l) (d:=o2 none) rfl (by lia)
 refine⟨f,?_,hf⟩;delta fL;walk_at "r";rw[C8 (by lia)]
 walk_at "r";rw[J8,e];walk_at "r"
def Rg(fs:Nat->Nat)(tp:Nat->Option Q2)(i:Nat)(q:Q2):Prop:=l7 14 q/\FD 30 10000 q/\q.1<=0/\(tp (fs i)≠none->q=q0)
theorem Pr{n:Nat}{fs:Nat->Nat}{tp:Nat->Option Q2}(hl:ns.length<=63)(hn:n<=20)(hm:m<=20)(hfs:∀k,k<m->fs k<n):
  ∃f:Nat->Q2,bV [C7 ns,.list (rl m λk=>.int (fs k:Int)),.list (rl n λj=>o2 (tp j))]=some (.own (rl m λi=>fr (f i)))/\∀i,i<m->Rg fs tp i (f i):=by
 obtain⟨f,hf,z',e⟩:=pe fr (Rg fs tp) q0 (gt:=z9 4) (G:=bA) (n:=m) (ζ:=Option PV×Option PV) (mk:=λl z=>[some (.dat (C7 ns)),some (.dat (.list (rl m λk=>.int (fs k:Int)))),some (.dat (.list (rl n λj=>o2 (tp j)))),some (.own l),z.1,z.2]) (none,none) λi hi=>by
  obtain⟨d,ed,d0,d1⟩:=L3 (ns:=ns) (k:=960+(i:Int)) (m:=3) hl (by lia) (by lia) (by decide)
  obtain⟨s,es,sf,sd,_,s0,_⟩:=kI (ns:=ns) (k:=970+(i:Int)) (lo:=-6) (hi:=0) hl (by lia) (by lia) (by decide) (by decide) (by decide)
  have zero:Rg fs tp i q0:=⟨Z0 (by decide),gB (by decide),jx _,λ_=>rfl⟩
  cases ht:tp (fs i)with
  |some q =>
   refine⟨q0,zero,λl z hl=>⟨_,(iD (0+(i:Int)),some (.dat (fr q0))),rfl,?_⟩⟩
   delta bA;rw[J2];walk_at "r";rw[A3 _ hi];walk_at "r";rw[A3 _ (hfs i hi),ht];simp only[o2];walk_at "r";exact cP (l:=l) (d:=fr q0) rfl (by lia)
  |none =>
   by_cases c:0<d
   . refine⟨s,⟨sf,sd,s0 (by decide),λz=>absurd ht z⟩,λl z hl=>⟨_,(iD (0+(i:Int)),some (.dat (fr s))),rfl,?_⟩⟩
     delta bA;rw[J2];walk_at "r";rw[A3 _ hi];walk_at "r";rw[A3 _ (hfs i hi),ht];simp only[o2];walk_at "r";rw[ed];walk_at "r";rw[c7 c,es];walk_at "r";exact cP (l:=l) (d:=fr s) rfl (by lia)
   . refine⟨q0,zero,λl z hl=>⟨_,(iD (0+(i:Int)),some (.dat (fr q0))),rfl,?_⟩⟩
     delta bA;rw[J2];walk_at "r";rw[A3 _ hi];walk_at "r";rw[A3 _ (hfs i hi),ht];simp only[o2];walk_at "r";rw[ed];walk_at "r";rw[e9 c];walk_at "r";exact cP (l:=l) (d:=fr q0) rfl (by lia)
 refine⟨f,?_,hf⟩;delta bV;walk_at "r";rw[B2,C8 (by lia)]
 walk_at "r";rw[J8,e];walk_at "r"
end
section
variable{ns:List Int}{α:Type}{p k:Nat}
theorem We(hl:ns.length<=63):∃x:Tr,bT [C7 ns]=some (.dat (p9 x))/\B5 14 x/\TD 30 10000 x/\M0 x w9=true:=by
 obtain⟨d,ed,d0,d1⟩:=L3 (ns:=ns) (k:=980) (m:=3) hl (by decide) (by decide) (by decide)
 obtain⟨s1,e1,f1,g1,_,_,n1⟩:=kI (ns:=ns) (k:=981) (lo:=-9) (hi:=-1) hl (by decide) (by decide) (by decide) (by decide) (by decide)
 obtain⟨s2,e2,f2,g2,_⟩:=kI (ns:=ns) (k:=982) (lo:=-9) (hi:=9) hl (by decide) (by decide) (by decide) (by decide) (by decide)
 obtain⟨s3,e3,f3,g3,_⟩:=kI (ns:=ns) (k:=983) (lo:=-9) (hi:=9) hl (by decide) (by decide) (by decide) (by decide) (by decide)
 have n1:=n1 (by decide)
 have ne:s1≠q0:=λz=>by rw[z]at n1;exact absurd n1 (by decide)
 have un:dW s1 q0=true:=by delta dW;rw[nY];show s1.1*1<0*s1.2;lia
 have z14:l7 14 q0:=Z0 (by decide)
 have zd:FD 30 10000 q0:=gB (by decide)
 have v1:∀l x2,(g0 E5 (c5 (b9 0) (c5 (fC (.int 981)) (c5 (aa Q3 (fC (.int 9))) (c5 (aa Q3 (fC (.int 1))) c8))))) [some (.dat (C7 ns)),some (.own l),x2]=some (.dat (fr s1)):=λl x2=>by walk_at "r";exact e1
 have v2:∀l x2,(g0 E5 (c5 (b9 0) (c5 (fC (.int 982)) (c5 (aa Q3 (fC (.int 9))) (c5 (fC (.int 9)) c8))))) [some (.dat (C7 ns)),some (.own l),x2]=some (.dat (fr s2)):=λl x2=>by walk_at "r";exact e2
 have v3:∀l x2,(g0 E5 (c5 (b9 0) (c5 (fC (.int 983)) (c5 (aa Q3 (fC (.int 9))) (c5 (fC (.int 9)) c8))))) [some (.dat (C7 ns)),some (.own l),x2]=some (.dat (fr s3)):=λl x2=>by walk_at "r";exact e3
 rcases(by lia:d=0\/d=1\/d=2)with rfl|rfl|rfl
 . refine⟨⟨s1,s3,s2⟩,?_,⟨f1,f3,f2⟩,⟨g1,g3,g2⟩,by delta M0;rw[c7 ne];exact un⟩
   delta bT;walk_at "r";rw[ed];walk_at "r";rw[ig (a:=0) (l:=[fr q0,fr q0,fr q0]) rfl (v1 _ _) rfl (by show(0:Nat)<3;decide)]
   walk_at "r";rw[ig (a:=2) (l:=[fr s1,fr q0,fr q0]) rfl (v2 _ _) rfl (by show(2:Nat)<3;decide)]
   walk_at "r";rw[c7 (show(0:Int)<2 by decide)]
   walk_at "r";rw[ig (a:=1) (l:=[fr s1,fr q0,fr s2]) rfl (v3 _ _) rfl (by show(1:Nat)<3;decide)]
   walk_at "r";rfl
 . refine⟨⟨q0,s1,s2⟩,?_,⟨z14,f1,f2⟩,⟨zd,g1,g2⟩,by delta M0;rw[e9 (λz=>z rfl),c7 ne];exact un⟩
   delta bT;walk_at "r";rw[ed];walk_at "r";rw[ig (a:=1) (l:=[fr q0,fr q0,fr q0]) rfl (v1 _ _) rfl (by show(1:Nat)<3;decide)]
   walk_at "r";rw[ig (a:=2) (l:=[fr q0,fr s1,fr q0]) rfl (v2 _ _) rfl (by show(2:Nat)<3;decide)]
   walk_at "r";rfl
 . refine⟨⟨q0,q0,s1⟩,?_,⟨z14,z14,f1⟩,⟨zd,zd,g1⟩,by delta M0;rw[e9 (λz=>z rfl),e9 (λz=>z rfl),c7 ne];exact un⟩
   delta bT;walk_at "r";rw[ed];walk_at "r";rw[ig (a:=2) (l:=[fr q0,fr q0,fr q0]) rfl (v1 _ _) rfl (by show(2:Nat)<3;decide)]
   walk_at "r";rfl
theorem Tg{n:Nat}(hl:ns.length<=63)(hn:n<=100):∃f:Nat->Tr,(∀ds:Ds,D6 m7 m6 kN (some (.dat (C7 ns))::ds) (V3 0 n)=some (rl n λj=>p9 (f j)))/\∀j,j<n->TD (30*10 ^ 60) (10 ^ 64) (f j):=by
 have h:∀j:Nat,j<n->∃x:Tr,iJ [C7 ns,.int (700+10*(j:Int))]=some (.dat (p9 x))/\B5 214 x/\TD (30*10 ^ 60) (10 ^ 64) x:=λj hj=>Po hl (by lia) (by lia)
 let f:Nat->Tr:=λj=>open Classical in if hj:j<n then(h j hj).choose else w9
 have hf:∀j,(hj:j<n)->f j=(h j hj).choose:=λj hj=>dif_pos hj
 refine⟨f,λds=>?_,λj hj=>by rw[hf j hj];exact(h j hj).choose_spec.2.2⟩
 rw[ni];refine B7 λj hj=>⟨_,.dat (p9 (f j)),rfl,?_,rfl⟩
 delta kN;walk_at "r";rw[p8 (Bt.ic (by decide) (by decide)) (Bt.ic (by lia) (by lia))]
 walk_at "r";rw[hf j hj];exact(h j hj).choose_spec.1
def au(p:Nat)(x:α)(f:Nat->α)(j:Nat):α:=if j<p then f j else if j=p then x else f (j-1)
theorem Wa{g:α->c6}{n:Nat}(hp:p<=n)(x:α)(f:Nat->α):(rl n λj=>g (f j)).take p++[g x]++(rl n λj=>g (f j)).drop p=rl (n+1) λj=>g (au p x f j):=by
 have l1:((rl n λj=>g (f j)).take p).length=p:=by simp;lia
 apply wd
 . simp;lia
 . intro k h1 h2;have hk:k<n+1:=by simpa using h2
   rw[qU,rf];delta au;by_cases c1:k<p
   . rw[c7 c1,CS (by simp;lia),CS (by simp;lia),List.getElem_take,qU,rf]
   . rw[e9 c1];by_cases c2:k=p
     . rw[c7 c2,CS (by simp;lia),Mc (by simp;lia)]
       simp
     . rw[e9 c2,Mc (by simp;lia),List.getElem_drop,qU,rf]
       congr 2
       simp;lia
theorem Pn(l:List α)(k:Nat):cutD l (some (k:Int)) none=l.drop k:=by
 delta cutD HT.E3;simp only[show ¬(k:Int)<0 by lia,M6,J8]
 by_cases h:k<=l.length
 . rw[Nat.min_eq_left h];exact CK (by rw[Co];lia)
 . rw[Nat.min_eq_right (by lia),Cn,CL (by lia)]
   simp
def R6(p:Nat)(fs:Nat->Nat)(k:Nat):Nat:=fs k+if p<=fs k then 1 else 0
theorem nB(p:Nat)(x:α)(f:Nat->α)(fs:Nat->Nat)(k:Nat):au p x f (R6 p fs k)=f (fs k):=by
 delta au R6;by_cases c:p<=fs k
 . rw[c7 c,e9 (by lia),e9 (by lia)]
   congr 1
 . rw[e9 c,Nat.add_zero,c7 (by lia)]
theorem Eu{fs:Nat->Nat}{l:Nat}(h:R6 p fs k=R6 p fs l):fs k=fs l:=by delta R6 at h;split at h<;>split at h<;>lia
end
section
variable{α:Type}{tp:Nat->Option Q2}
theorem Ak(g:α->c6)(a:α)(l:List α):l.map g=rl l.length λi=>g (l.getD i a):=by
 apply wd (by simp)
 intro k h1 h2;have hk:k<l.length:=by simpa using h1
 simp[P8,J3 hk]
structure Drawn where
 m:Nat
 n:Nat
 fs:Nat->Nat
 row:Nat->Nat->Q2
 rg:Nat->Q2
 tp:Nat->Option Q2
 cost:Nat->Tr
 col:Nat->Q2
 cJ:Tr
 at':Nat
structure Drawn.Ok(X:Drawn):Prop where
 m4:X.m<=4
 uL:X.n<=10
 fl:∀k,k<X.m->X.fs k<X.n
 inj:∀k l,k<X.m->l<X.m->X.fs k=X.fs l->k=l
 row:∀p j,p<X.m->j<X.n->l7 14 (X.row p j)/\FD 30 10000 (X.row p j)
 fi:∀k p,k<X.m->p<X.m->X.row p (X.fs k)=if p=k then(1,1)else q0
 rg:∀p,p<X.m->Ra p (X.rg p)
 tp:∀j,j<X.n->Wv X.m X.fs X.rg j (X.tp j)
 cost:∀j,j<X.n->TD (30*10 ^ 60) (10 ^ 64) (X.cost j)
 col:∀i,i<X.m->Rg X.fs X.tp i (X.col i)
 g1:B5 14 X.cJ
 g2:TD 30 10000 X.cJ
 g3:M0 X.cJ w9=true
 ap:X.at'<=X.n
def Drawn.here(X:Drawn):Nat->Tr
 | 0=>X.cJ
 |i+1=>aU (X.here i) (X.cost (X.fs i)) (X.col i)
def Drawn.B3(X:Drawn)(tp:Nat->Option Q2):m8:=⟨X.m,X.n+1,au X.at' (X.here X.m) X.cost,λp=>au X.at' (X.col p) (X.row p),X.rg,tp,R6 X.at' X.fs⟩
def Drawn.loose(X:Drawn):Nat->Option Q2:=au X.at' none X.tp
section
variable{X:Drawn}
theorem xt{P:α->Prop}{n p:Nat}{x:α}{f:Nat->α}(hx:P x)(hf:∀j,j<n->P (f j))(hp:p<=n):∀j,j<n+1->P (au p x f j):=λj hj=>by
 delta au;split
 . exact hf j (by lia)
 . split
   . exact hx
   . exact hf (j-1) (by lia)
theorem Drawn.Ok.here(O:X.Ok):∀i,i<=X.m->TD cE (10 ^ 4+10 ^ 68*i) (X.here i)
 | 0,_=>O.g2.mono ⟨30*10 ^ 60,by decide⟩ (by decide)
 |i+1,hi=>by
  refine((O.here i (by lia)).more (O.cost _ (O.fl i (by lia))) (O.col i (by lia)).2.1 (X8 _)).mono (X8 _) ?_
  rw[vT,eO];have:(10 ^ 64*10000:Int)=10 ^ 68:=by decide
  lia
theorem Drawn.Ok.nums(O:X.Ok)(ht:∀j q,j<X.n+1->tp j=some q->l7 29 q/\FD 30 20000 q):Nums (X.B3 tp):=by
 have m4:=O.m4;have uL:=O.uL;refine⟨m4,by show X.n+1<=11;lia,λp j hp hj=>xt (P:=λq=>l7 14 q/\FD 30 10000 q) ⟨(O.col p hp).1,(O.col p hp).2.1⟩ (λj hj=>O.row p j hp hj) O.ap j hj,λj hj=>xt (P:=λx=>TD cE (10 ^ 69) x) ((O.here X.m (o3 _)).mono (X8 _) ?_) (λj hj=>(O.cost j hj).mono ⟨30,by decide⟩ (by decide)) O.ap j hj,λp hp=>⟨(O.rg p hp).1,(O.rg p hp).2.1⟩,ht,λk hk=>?_⟩
 . have:(10 ^ 68:Int)*(X.m:Int)<=10 ^ 68*4:=bP (by lia) (by decide)
   have:(10 ^ 4+10 ^ 68*4:Int)<=10 ^ 69:=by decide
   lia
 . have:=O.fl k hk;show R6 X.at' X.fs k<X.n+1
   delta R6;split<;>lia
theorem Drawn.Ok.fit(O:X.Ok)(ht:∀j q,j<X.n+1->tp j=some q->l7 29 q/\FD 30 20000 q/\0<=q.1)(hb:∀k q,k<X.m->tp (R6 X.at' X.fs k)=some q->(X.rg k).1*q.2<=q.1*(X.rg k).2):cY (X.B3 tp) 21:=by
 have m4:=O.m4;have N:=O.nums (tp:=tp) λj q hj hq=>⟨(ht j q hj hq).1,(ht j q hj hq).2.1⟩
 refine⟨λk p hk hp=>?_,λk l hk hl h=>O.inj k l hk hl (Eu h),λp hp=>(O.rg p hp).2.2,λj q hj hq=>(ht j q hj hq).2.2,hb,λj hj=>N.cn hj,by show 21*X.m<=2000;lia,by decide⟩
 show au X.at' (X.col p) (X.row p) (R6 X.at' X.fs k)=_
 rw[nB];exact O.fi k p hk hp
theorem Drawn.Ok.xl(O:X.Ok):(∀j q,j<X.n+1->X.loose j=some q->l7 29 q/\FD 30 20000 q/\0<=q.1)/\∀k q,k<X.m->X.loose (R6 X.at' X.fs k)=some q->(X.rg k).1*q.2<=q.1*(X.rg k).2:=by
 constructor
 . intro j q hj hq;exact xt (P:=λt=>∀q,t=some q->l7 29 q/\FD 30 20000 q/\0<=q.1) (λq z=>by cases z) (λj hj q hq=>by obtain⟨a,b,c,_⟩:=O.tp j hj q hq;exact⟨a,b,c⟩) O.ap j hj q hq
 . intro k q hk hq;delta Drawn.loose at hq;rw[nB]at hq;exact(O.tp _ (O.fl k hk) q hq).2.2.2 k hk rfl
theorem oR{π:Tr->Q2}(P:Part π)(O:X.Ok):∀i,i<=X.m->val (π (X.here i))=val (π X.cJ)+u7 (λk=>val (π (X.cost (X.fs k)))*val (X.col k)) i
 | 0,_=>by show val (π X.cJ)=val (π X.cJ)+0;grind
 |i+1,hi=>by
  have h1:B5 900 (X.here i):=((O.here i (by lia)).mono (X8 _) (M':=10 ^ 69) (by
   have:(10 ^ 68:Int)*(i:Int)<=10 ^ 68*4:=bP (by have:=O.m4;lia) (by decide)
   have:(10 ^ 4+10 ^ 68*4:Int)<=10 ^ 69:=by decide
   lia)).ok (by decide) ⟨by decide +kernel⟩ ⟨by decide +kernel⟩
  have h2:B5 900 (X.cost (X.fs i)):=(O.cost _ (O.fl i (by lia))).ok (by decide) ⟨by decide +kernel⟩ ⟨by decide +kernel⟩
  show val (π (aU _ _ _))=_+(u7 _ i+_)
  rw[P.oq h1 h2 (O.col i (by lia)).1,oR P O i (by lia)]
  grind
theorem MJ{f:Nat->Rat}{n k:Nat}(hk:k<n)(h:∀i,i<n->i≠k->f i=0):u7 f n=f k:=by
 induction n with
 |zero=>lia
 |succ n ih =>
  show u7 f n+f n=f k
  by_cases c:k=n
  . have:u7 f n=0:=by rw[D5 (g:=λ_=>0) n λi hi=>h i (by lia) (by lia),xX]
    rw[this,c];grind
  . rw[ih (by lia) λi hi hik=>h i (by lia) hik,h n (by lia) (by lia)]
    grind
theorem Yq(O:X.Ok){T:Sx.Tb}(K:Sx.Ok (X.B3 X.loose).pb T)(ne:∀j,j<X.n+1->¬Sx.M9 (X.B3 X.loose).pb T j):False:=by
 obtain⟨t1,t2⟩:=O.xl;have N:=O.nums (tp:=X.loose) λj q hj hq=>⟨(t1 j q hj hq).1,(t1 j q hj hq).2.1⟩
 have H:=N.ok;have s0:=F5 K.u6.pos;have nn:∀j,j<X.n+1->X.loose j=none->NN (U3 (X.B3 X.loose) T 0 j) (U3 (X.B3 X.loose) T 1 j) (U3 (X.B3 X.loose) T 2 j):=λj hj hn=>by
  have hl:(X.B3 X.loose).lim j=none:=bL.mp hn;have c0:=F5 (H.sc (j:=j) hj).1;have pz:=λt (ht:t<3)=>aB (aB c0 (F5 (H.mu ht).1)) s0
  refine(Qs (r:=λt=>T.rest (X.B3 X.loose).pb t j) (pz 0 (by decide)) (pz 1 (by decide)) (pz 2 (by decide)) (fw H K.u6 (t:=0) (by decide) hj) (fw H K.u6 (t:=1) (by decide) hj) (fw H K.u6 (t:=2) (by decide) hj)).mpr ?_
  rcases vw K ne hj with k|⟨_,k⟩|⟨kf,_⟩
  . rw[hl]at k;cases k
  . exact k
  . exact absurd hl (K.fu j hj kf).1
 have part:∀t,t<3->U3 (X.B3 X.loose) T t X.at'+u7 (λk=>U3 (X.B3 X.loose) T t (R6 X.at' X.fs k)*(-val (X.col k))) X.m=val (O5 X.cJ t):=λt ht=>by
  have e1:U3 (X.B3 X.loose) T t X.at'=val (O5 (X.here X.m) t)-u7 (λp=>val (O5 (F3 (X.B3 X.loose).A0 T p) t)*val (X.col p)) X.m:=by
   delta U3;show val (O5 (au X.at' (X.here X.m) X.cost X.at') t)-u7 (λp=>_*val (au X.at' (X.col p) (X.row p) X.at')) X.m=_
   have i:∀{α:Type} (x:α) (f:Nat->α),au X.at' x f X.at'=x:=λx f=>by delta au;rw[e9 (by lia),c7 rfl]
   rw[i]
   congr 1
   exact D5 X.m λp hp=>by rw[i]
  have e2:∀k,k<X.m->U3 (X.B3 X.loose) T t (R6 X.at' X.fs k)=val (O5 (X.cost (X.fs k)) t)-val (O5 (F3 (X.B3 X.loose).A0 T k) t):=λk hk=>by
   delta U3;show val (O5 (au X.at' (X.here X.m) X.cost (R6 X.at' X.fs k)) t)-u7 (λp=>_*val (au X.at' (X.col p) (X.row p) (R6 X.at' X.fs k))) X.m=_
   rw[nB]
   congr 1
   rw[D5 (g:=λp=>val (O5 (F3 (X.B3 X.loose).A0 T p) t)*val (if p=k then(1,1)else q0)) X.m λp hp=>by rw[nB,O.fi k p hk hp]]
   rw[MJ hk λi hi hik=>by rw[e9 hik,cF];grind,c7 rfl,val_one]
   show _*((1:Int):Rat)=_
   have:((1:Int):Rat)=1:=rfl;rw[this];grind
  have hv:val (O5 (X.here X.m) t)=val (O5 X.cJ t)+u7 (λk=>val (O5 (X.cost (X.fs k)) t)*val (X.col k)) X.m:=by
   rcases JD ht with rfl|rfl|rfl
   . exact oR uF O X.m (o3 _)
   . exact oR uE O X.m (o3 _)
   . exact oR uD O X.m (o3 _)
  have e3:u7 (λk=>U3 (X.B3 X.loose) T t (R6 X.at' X.fs k)*(-val (X.col k))) X.m=u7 (λk=>val (O5 (F3 (X.B3 X.loose).A0 T k) t)*val (X.col k)-val (O5 (X.cost (X.fs k)) t)*val (X.col k)) X.m:=D5 X.m λk hk=>by rw[e2 k hk];grind
  rw[e3,zE,e1,hv];generalize u7 (λp=>val (O5 (F3 (X.B3 X.loose).A0 T p) t)*val (X.col p)) X.m=A
  generalize u7 (λk=>val (O5 (X.cost (X.fs k)) t)*val (X.col k)) X.m=B
  grind
 have each:∀k,k<X.m->NN (U3 (X.B3 X.loose) T 0 (R6 X.at' X.fs k)*(-val (X.col k))) (U3 (X.B3 X.loose) T 1 (R6 X.at' X.fs k)*(-val (X.col k))) (U3 (X.B3 X.loose) T 2 (R6 X.at' X.fs k)*(-val (X.col k))):=λk hk=>by
  obtain⟨c1,c2,c3,c4⟩:=O.col k hk;have hle:0<=-val (X.col k):=by
   have:¬0<val (X.col k):=λz=>by
    have:=(AX (a:=0) (b:=1) (c:=(X.col k).1) (d:=(X.col k).2) (by decide) c1.pos).mp (by
     have e:((0:Int):Rat)/((1:Int):Rat)=0:=by rw[show(((0:Int):Rat))=0 from rfl];grind
     rw[e];exact z)
    lia
   grind
  cases htp:X.tp (X.fs k)with
  |some q =>
   rw[c4 (by rw[htp];exact λz=>by cases z),cF]
   have e:∀x:Rat,x * -0=0:=λx=>by grind
   rw[e,e,e];exact NN.zero
  |none =>
   refine(nn (R6 X.at' X.fs k) (N.fs k hk) ?_).mul hle;delta Drawn.loose;rw[nB];exact htp
 have at0:X.loose X.at'=none:=by delta Drawn.loose au;rw[e9 (by lia),c7 rfl]
 have all:=(nn X.at' (by have:=O.ap;lia) at0).add (NN.sum X.m each)
 rw[part 0 (by decide),part 1 (by decide),part 2 (by decide)]at all
 have e:∀r:Rat,r=r-val q0:=λr=>by rw[cF];grind
 have all':NN (val X.cJ.a-val q0) (val X.cJ.b-val q0) (val X.cJ.c-val q0):=by rw[<-e,<-e,<-e];exact all
 have:=(yJ O.g1 (pT (m:=1) (by decide))).mpr all'
 rw[O.g3]at this;cases this
theorem first_is(O:X.Ok){d:c6}(h:Res (X.B3 X.loose) d):∃x y,d=.tuple [.str "endless",x,y]:=by
 cases h with
 |best K ne=>exact absurd (Yq O K ne) id
 |endless K En he=>exact⟨_,_,rfl⟩
theorem Iv(ht:∀j,j<X.n+1->tp j≠none){d:c6}(h:Res (X.B3 tp) d):∃x y,d=.tuple [.str "best",x,y]:=by
 cases h with
 |best K ne=>exact⟨_,_,rfl⟩
 | @endless T a K En he=>exact absurd (bL.mpr (pK K En he).1) (ht a En.an)
end
end
section
variable{p j:Nat}
abbrev dA(ns:List Int)(X:Drawn)(r:Ds):Ds:=some (.dat (C7 ns))::iD (X.m:Int)::iD (X.n:Int)::some (.dat (.list (rl X.m λk=>.int (X.fs k:Int))))::some (.dat (.list (rl X.m λp=>.list (rl X.n λj=>fr (X.row p j)))))::some (.dat (.list (rl X.m λi=>fr (X.rg i))))::some (.dat (.list (rl X.n λj=>o2 (X.tp j))))::some (.dat (.list (rl X.n λj=>p9 (X.cost j))))::some (.dat (.list (rl X.m λi=>fr (X.col i))))::r
abbrev dB(ns:List Int)(X:Drawn)(y:Option PV)(r:Ds):Ds:=dA ns X (some (.dat (p9 (X.here X.m)))::y::iD (X.at':Int)::some (.dat (X.B3 X.loose).m3)::some (.dat (X.B3 X.loose).p5)::some (.dat (X.B3 X.loose).D4)::some (.dat (X.B3 X.loose).t6)::r)
section
variable{X:Drawn}{ns:List Int}
theorem Wc(O:X.Ok):∃y,K7 (z9 10) kO (V3 0 X.m) (dA ns X [some (.dat (p9 X.cJ)),none,none,none,none,none,none,none,none,none,none])=some (.next (dA ns X [some (.dat (p9 (X.here X.m))),y,none,none,none,none,none,none,none,none,none])):=by
 obtain⟨ds',h1,y,rfl⟩:=Z9 (gt:=z9 10) (G:=kO) (lo:=0) (n:=X.m) (ds:=(dA ns X [some (.dat (p9 (X.here 0))),none,none,none,none,none,none,none,none,none,none])) (λi ds=>∃y,ds=(dA ns X [some (.dat (p9 (X.here i))),y,none,none,none,none,none,none,none,none,none])) ⟨none,rfl⟩ (by
  rintro i ds hi ⟨y,rfl⟩;refine⟨_,_,rfl,.inl ?_,iD (0+(i:Int)),rfl⟩;have m4:=O.m4;have h1:B5 900 (X.here i):=((O.here i (by lia)).mono (X8 _) (M':=10 ^ 69) (by
   have:(10 ^ 68:Int)*(i:Int)<=10 ^ 68*4:=bP (by lia) (by decide)
   have:(10 ^ 4+10 ^ 68*4:Int)<=10 ^ 69:=by decide
   lia)).ok (by decide) ⟨by decide +kernel⟩ ⟨by decide +kernel⟩
  have h2:B5 900 (X.cost (X.fs i)):=(O.cost _ (O.fl i hi)).ok (by decide) ⟨by decide +kernel⟩ ⟨by decide +kernel⟩
  delta kO;simp only[dA];walk_at "r";rw[jh _ hi];walk_at "r";rw[A3 _ (O.fl i hi)];walk_at "r";rw[jh _ hi];walk_at "r";rw[uM h1 h2 (O.col i hi).1 (by decide)]
  rfl)
 exact⟨y,h1⟩
theorem AG{α:Type}{g:α->c6}{n:Nat}(hn:n<=1000)(hp:p<=n)(x:α)(f:Nat->α){ds:Ds}{Fx:Ds->Option PV}{F:Ds->Option PV}(h1:F ds=some (.dat (.list (rl n λj=>g (f j)))))(h2:ds[j]? = some (iD (p:Int))){pv:PV}(h3:Fx ds=some pv)(h4:pv.d=g x):
  (c9 v8 (c9 v8 (cK fP F U4 (R9 (b9 j))) (K9 (c5 Fx c8))) (cK fP F (R9 (b9 j)) U4)) ds=some (.own (rl (n+1) λj=>g (au p x f j))):=by
 have hv:b9 j ds=some (.dat (.int (p:Int))):=by delta b9;rw[h2]
 simp only[c9,cK,K9,c5,c8,U4,R9,h1,hv,h3,h4,j4,PV.gF,PV.ku,tj,xK,jC];rw[Bb,Pn,c7 (show[g x].length<=1000000 from Nat.le_of_ble_eq_true rfl)]
 simp only[j4,PV.ku];have l1:((rl n λj=>g (f j)).take p).length<=n:=by rw[nW,B2];lia
 rw[qI (by simp;lia)]
 simp only[j4,PV.ku];rw[qI (by simp;lia),Wa hp]
theorem Um(O:X.Ok)(y:Option PV):(c9 v8 (c9 v8 (cK fP (b9 7) U4 (R9 (b9 11))) (K9 (c5 (b9 9) c8))) (cK fP (b9 7) (R9 (b9 11)) U4)) (dA ns X [some (.dat (p9 (X.here X.m))),y,iD (X.at':Int),none,none,none,none,none,none,none,none])=some (.own (rl (X.n+1) λj=>p9 (au X.at' (X.here X.m) X.cost j))) :=
 AG (g:=p9) (by have:=O.uL;lia) O.ap (X.here X.m) X.cost rfl rfl rfl rfl
theorem TK(O:X.Ok)(y:Option PV):D6 m7 m6 oh (dA ns X [some (.dat (p9 (X.here X.m))),y,iD (X.at':Int),some (.dat (X.B3 X.loose).m3),none,none,none,none,none,none,none]) (V3 0 X.m)=some (rl X.m λp=>.list (rl (X.n+1) λj=>fr (au X.at' (X.col p) (X.row p) j))):=by
 rw[ni];refine B7 λp hp=>⟨_,.own (rl (X.n+1) λj=>fr (au X.at' (X.col p) (X.row p) j)),rfl,?_,rfl⟩
 delta oh;refine AG (g:=fr) (pv:=.dat (fr (X.col p))) (by have:=O.uL;lia) O.ap (X.col p) (X.row p) ?_ rfl ?_ rfl
 . simp only[dA];walk_at "r";rw[A3 _ hp];walk_at "r"
 . simp only[dA];walk_at "r";rw[A3 _ hp];walk_at "r"
theorem Xj(O:X.Ok)(y:Option PV):D6 m7 m6 og (dA ns X [some (.dat (p9 (X.here X.m))),y,iD (X.at':Int),some (.dat (X.B3 X.loose).m3),some (.dat (X.B3 X.loose).p5),none,none,none,none,none,none]) (rl X.m λk=>.int (X.fs k:Int))=some (rl X.m λk=>.int (R6 X.at' X.fs k:Int)):=by
 refine B7 λk hk=>⟨_,.dat (.int (R6 X.at' X.fs k:Int)),rfl,?_,rfl⟩
 delta og;simp only[dA];walk_at "r";delta R6;by_cases c:X.at'<=X.fs k
 . rw[c7 c];simp[c]
 . rw[e9 c];simp[c]
theorem SM(O:X.Ok)(y:Option PV):(c9 v8 (c9 v8 (cK fP (b9 6) U4 (R9 (b9 11))) (K9 (c5 (fC .none) c8))) (cK fP (b9 6) (R9 (b9 11)) U4)) (dA ns X [some (.dat (p9 (X.here X.m))),y,iD (X.at':Int),some (.dat (X.B3 X.loose).m3),some (.dat (X.B3 X.loose).p5),some (.dat (X.B3 X.loose).D4),none,none,none,none,none])=some (.own (rl (X.n+1) λj=>o2 (au X.at' none X.tp j))) :=
 AG (g:=o2) (by have:=O.uL;lia) O.ap none X.tp rfl rfl rfl rfl
def XN(X:Drawn)(j:Nat)(t:Option Q2):Prop:=(∃q,t=some q)/\∀q,t=some q->(l7 29 q/\FD 30 20000 q/\0<=q.1)/\∀k,k<X.m->R6 X.at' X.fs k=j->(X.rg k).1*q.2<=q.1*(X.rg k).2
theorem Ur(O:X.Ok)(y d:Option PV):∃f:Nat->Option Q2,(∀j,j<X.n+1->XN X j (f j))/\∃z:Option PV×Option PV,K7 (z9 18) gk (V3 0 (X.n+1)) (dB ns X y [d,some (.own []),none,none])=some (.next (dB ns X y [d,some (.own (rl (X.n+1) λj=>o2 (f j))),z.1,z.2])):=by
 have uL:=O.uL;have m4:=O.m4;obtain⟨t1,t2⟩:=O.xl;refine pe o2 (XN X) none (gt:=z9 18) (G:=gk) (n:=X.n+1) (ζ:=Option PV×Option PV) (mk:=λl z=>(dB ns X y [d,some (.own l),z.1,z.2])) (none,none) λj hj=>?_
 cases ht:X.loose j with
 |some q =>
  refine⟨some q,⟨⟨q,rfl⟩,λq' hq=>by cases hq;exact⟨t1 j q hj ht,λk hk hkj=>t2 k q hk (by rw[hkj];exact ht)⟩⟩,λl z hl=>⟨_,(iD (0+(j:Int)),some (.dat (o2 (some q)))),rfl,?_⟩⟩
  delta gk;rw[J2];simp only[dB,dA];walk_at "r";rw[show K5 (rl (X.B3 X.loose).n λj=>o2 ((X.B3 X.loose).tp j)) (j:Int)=some (o2 (X.loose j))from A3 _ hj,ht]
  simp only[o2];walk_at "r";exact cP (l:=l) (d:=o2 (some q)) rfl (by lia)
 |none =>
  have f20:l7 14 (20,1):=ix ⟨by decide⟩ (by decide)
  have d20:FD 30 10000 (20,1):=⟨by decide,by decide,⟨30,by decide⟩,by decide⟩
  by_cases c2:∃k,k<X.m/\R6 X.at' X.fs k=j
  . obtain⟨i,ei,hi,hij⟩:=ET c2 (by lia)
    obtain⟨g1,g2,g3⟩:=O.rg i hi;obtain⟨p1,p2,p3,p4⟩:=zV (D:=0) f20 g1 d20 g2 (by decide) g3
    refine⟨some (M4 (20,1) (X.rg i)),⟨⟨_,rfl⟩,λq' hq=>by cases hq;exact⟨⟨p1,p2,p3⟩,λk hk hkj=>by rw[O.inj k i hk hi (Eu (by rw[hkj,hij]))];exact p4⟩⟩,λl z hl=>⟨_,(iD (0+(j:Int)),some (.dat (o2 (some (M4 (20,1) (X.rg i)))))),rfl,?_⟩⟩
    delta gk;rw[J2];simp only[dB,dA];walk_at "r";rw[show K5 (rl (X.B3 X.loose).n λj=>o2 ((X.B3 X.loose).tp j)) (j:Int)=some (o2 (X.loose j))from A3 _ hj,ht]
    simp only[o2];walk_at "r";rw[show inD (.int (j:Int)) (X.B3 X.loose).D4=_ from Hk X.m j (R6 X.at' X.fs)]
    walk_at "r";rw[c7 c2];simp only[oU];walk_at "r";rw[show la (X.B3 X.loose).D4 [.int (j:Int)]=_ from ei]
    walk_at "r";rw[A3 _ hi];walk_at "r";have es:dN [fr (20,1),fr (X.rg i)]=some (.dat (fr (M4 (20,1) (X.rg i)))):=wU (m:=14) (n:=14) f20 g1 (by decide)
    rw[show eQ [.int 20,.int 1]=fr (20,1)from rfl,es]
    walk_at "r";exact cP (l:=l) (d:=o2 (some (M4 (20,1) (X.rg i)))) rfl (by lia)
  . refine⟨some (20,1),⟨⟨_,rfl⟩,λq' hq=>by cases hq;exact⟨⟨f20.mono (by decide),d20.mono (X8 _) (by decide),by decide⟩,λk hk hkj=>absurd ⟨k,hk,hkj⟩ c2⟩⟩,λl z hl=>⟨_,(iD (0+(j:Int)),some (.dat (o2 (some (20,1))))),rfl,?_⟩⟩
    delta gk;rw[J2];simp only[dB,dA];walk_at "r";rw[show K5 (rl (X.B3 X.loose).n λj=>o2 ((X.B3 X.loose).tp j)) (j:Int)=some (o2 (X.loose j))from A3 _ hj,ht]
    simp only[o2];walk_at "r";rw[show inD (.int (j:Int)) (X.B3 X.loose).D4=_ from Hk X.m j (R6 X.at' X.fs)]
    walk_at "r";rw[e9 c2];walk_at "r";exact cP (l:=l) (d:=o2 (some (20,1))) rfl (by lia)
end
end
theorem Ta{ns:List Int}(hl:ns.length<=63):∃(X:Drawn) (e:Int),X.Ok/\B1 [C7 ns,.int 5,.int 5]=some (.dat (.int (X.m:Int)))/\B1 [C7 ns,.int 6,.int 6]=some (.dat (.int e))/\(X.m:Int)+1+e=(X.n:Int)/\bU [C7 ns,.int (X.n:Int),.int (X.m:Int)]=some (.own (rl X.m λk=>.int (X.fs k:Int)))/\cZ [C7 ns,.int (X.n:Int),.list (rl X.m λk=>.int (X.fs k:Int))]=some (.own (rl X.m λp=>.list (rl X.n λj=>fr (X.row p j))))/\bQ [C7 ns,.int (X.m:Int)]=some (.own (rl X.m λi=>fr (X.rg i)))/\fL [C7 ns,.int (X.n:Int),.list (rl X.m λk=>.int (X.fs k:Int)),.list (rl X.m λi=>fr (X.rg i))]=some (.own (rl X.n λj=>o2 (X.tp j)))/\(∀ds:Ds,D6 m7 m6 kN (some (.dat (C7 ns))::ds) (V3 0 X.n)=some (rl X.n λj=>p9 (X.cost j)))/\bV [C7 ns,.list (rl X.m λk=>.int (X.fs k:Int)),.list (rl X.n λj=>o2 (X.tp j))]=some (.own (rl X.m λi=>fr (X.col i)))/\bT [C7 ns]=some (.dat (p9 X.cJ))/\B1 [C7 ns,.int 990,.int ((X.n:Int)+1)]=some (.dat (.int (X.at':Int))):=by
 obtain⟨m',em,m0,m5⟩:=L3 (ns:=ns) (k:=5) (m:=5) hl (by decide) (by decide) (by decide)
 obtain⟨e,ee,e0,e6⟩:=L3 (ns:=ns) (k:=6) (m:=6) hl (by decide) (by decide) (by decide)
 obtain⟨m,rfl⟩:∃m:Nat,m'=(m:Int):=⟨m'.toNat,by lia⟩
 obtain⟨n,hn⟩:∃n:Nat,(m:Int)+1+e=(n:Int):=⟨((m:Int)+1+e).toNat,by lia⟩
 obtain⟨fs,ef,F⟩:=Kh (ns:=ns) (n:=n) (m:=m) hl (by lia) (by lia) (by lia)
 obtain⟨rows,er,R⟩:=RF (ns:=ns) hl (by lia) F
 have fl:=F.len;have fr1:fs.map V5=rl m λk=>.int (fs.getD k 0:Int):=by rw[Ak V5 0 fs,fl]
 have rlen:rows.length=m:=by rw[R.len,fl]
 have row1:rows.map L9=rl m λp=>.list (rl n λj=>fr ((rows.getD p []).getD j q0)):=by
  rw[Ak L9 [] rows,rlen];refine X0 λp hp=>?_
  have:=(R.row p (by rw[fl];exact hp)).len
  rw[L9,Ak fr q0,this]
 have inj:∀k l,k<m->l<m->fs.getD k 0=fs.getD l 0->k=l:=λk l hk hl' h=>by
  rw[P8,P8,J3 (by lia),J3 (by lia)]at h
  have pw:=List.pairwise_iff_getElem.mp F.nodup;rcases Nat.lt_trichotomy k l with c|c|c
  . exact absurd h (pw k l (by lia) (by lia) c)
  . exact c
  . exact absurd h.symm (pw l k (by lia) (by lia) c)
 have mem:∀k,k<m->fs.getD k 0∈fs:=λk hk=>by
  rw[P8,J3 (by lia)]
  exact lQ _
 have lt:∀k,k<m->fs.getD k 0<n:=λk hk=>F.lt _ (mem k hk)
 obtain⟨rg,eg,G⟩:=MW (ns:=ns) (m:=m) hl (by lia)
 obtain⟨tp,et,Tp⟩:=TY (ns:=ns) (n:=n) (m:=m) (fs:=λk=>fs.getD k 0) (rg:=rg) hl (by lia) (by lia) inj G
 obtain⟨cost,ec,Cc⟩:=Tg (ns:=ns) (n:=n) hl (by lia)
 obtain⟨col,el,Cl⟩:=Pr (ns:=ns) (n:=n) (m:=m) (fs:=λk=>fs.getD k 0) (tp:=tp) hl (by lia) (by lia) lt
 obtain⟨gn,eG,g1,g2,g3⟩:=We (ns:=ns) hl;obtain⟨a',ea,a0,a1⟩:=L3 (ns:=ns) (k:=990) (m:=(n:Int)+1) hl (by decide) (by decide) (by lia)
 obtain⟨a,rfl⟩:∃a:Nat,a'=(a:Int):=⟨a'.toNat,by lia⟩
 refine⟨⟨m,n,λk=>fs.getD k 0,λp j=>(rows.getD p []).getD j q0,rg,tp,cost,col,gn,a⟩,e,⟨by show m<=4;lia,by show n<=10;lia,lt,inj,λp j hp hj=>?_,λk p hk hp=>?_,G,Tp,Cc,Cl,g1,g2,g3,by show a<=n;lia⟩,em,ee,hn,by rw[ef,fr1],?_,eg,et,ec,el,eG,ea⟩
 . have r:=R.row p (by rw[fl];exact hp)
   have hj':j<(rows.getD p []).length:=by rw[r.len];exact hj
   exact⟨r.all.at hj',r.fd.at hj'⟩
 . have r:=R.row p (by rw[fl];exact hp)
   show(rows.getD p []).getD (fs.getD k 0) q0=_
   by_cases z:p=k
   . rw[c7 z,<-z];exact r.one
   . rw[e9 z];exact r.uI _ (mem k hk) λy=>z (inj p k hp hk y.symm)
 . show cZ [C7 ns,.int (n:Int),.list (rl m λk=>.int (fs.getD k 0:Int))]=_
   rw[<-fr1];rw[er,row1]
theorem Oy:∀ns:List Int,ns.length<=63->mN [.list (ns.map .int)]=some (.dat (.bool true)):=by
 intro ns hl;obtain⟨X,e,O,em,ee,hn,eF,eR,eG,eT,eC,eL,eN,eA⟩:=Ta hl;have m4:=O.m4;have uL:=O.uL;obtain⟨y,eH⟩:=Wc (ns:=ns) O;obtain⟨t1,t2⟩:=O.xl;have N1:=O.nums (tp:=X.loose) λj q hj hq=>⟨(t1 j q hj hq).1,(t1 j q hj hq).2.1⟩
 have G1:=O.fit t1 t2;obtain⟨d1,s1,R1⟩:=xZ N1.ok G1;have w1:=xQ N1.ok G1 (N1.fits G1) R1;obtain⟨x1,x2,rfl⟩:=first_is O R1;obtain⟨f,hf,z,eS⟩:=Ur (ns:=ns) O y (some (.dat (.tuple [.str "endless",x1,x2])));have u1:∀j q,j<X.n+1->f j=some q->l7 29 q/\FD 30 20000 q/\0<=q.1:=λj q hj hq=>((hf j hj).2 q hq).1
 have u2:∀k q,k<X.m->f (R6 X.at' X.fs k)=some q->(X.rg k).1*q.2<=q.1*(X.rg k).2:=λk q hk hq=>((hf _ (N1.fs k hk)).2 q hq).2 k hk rfl
 have N2:=O.nums (tp:=f) λj q hj hq=>⟨(u1 j q hj hq).1,(u1 j q hj hq).2.1⟩
 have G2:=O.fit u1 u2;obtain⟨d2,s2,R2⟩:=xZ N2.ok G2;have w2:=xQ N2.ok G2 (N2.fits G2) R2;obtain⟨x3,x4,rfl⟩:=Iv (X:=X) (tp:=f) (λj hj hn=>by obtain⟨q,hq⟩:=(hf j hj).1;rw[hn]at hq;cases hq) R2
 have k0:(i7 1 (g0 B1 (c5 (b9 0) (c5 (fC (.int 5)) (c5 (fC (.int 5)) c8))))) [some (.dat (C7 ns)),none,none,none,none,none,none,none,none,none,none,none,none,none,none,none,none,none,none,none]=some (.next [some (.dat (C7 ns)),iD (X.m:Int),none,none,none,none,none,none,none,none,none,none,none,none,none,none,none,none,none,none]):=by walk_at "r";rw[em];rfl
 have k1:(i7 2 (c9 v8 (c9 v8 (b9 1) (fC (.int 1))) (g0 B1 (c5 (b9 0) (c5 (fC (.int 6)) (c5 (fC (.int 6)) c8)))))) [some (.dat (C7 ns)),iD (X.m:Int),none,none,none,none,none,none,none,none,none,none,none,none,none,none,none,none,none,none]=some (.next [some (.dat (C7 ns)),iD (X.m:Int),iD (X.n:Int),none,none,none,none,none,none,none,none,none,none,none,none,none,none,none,none,none]):=by walk_at "r";rw[ee];walk_at "r";rw[hn]
 have k2:(i7 3 (g0 bU (c5 (b9 0) (c5 (b9 2) (c5 (b9 1) c8))))) [some (.dat (C7 ns)),iD (X.m:Int),iD (X.n:Int),none,none,none,none,none,none,none,none,none,none,none,none,none,none,none,none,none]=some (.next [some (.dat (C7 ns)),iD (X.m:Int),iD (X.n:Int),some (.dat (.list (rl X.m λk=>.int (X.fs k:Int)))),none,none,none,none,none,none,none,none,none,none,none,none,none,none,none,none]):=by walk_at "r";rw[eF];rfl
 have k3:(i7 4 (g0 cZ (c5 (b9 0) (c5 (b9 2) (c5 (b9 3) c8))))) [some (.dat (C7 ns)),iD (X.m:Int),iD (X.n:Int),some (.dat (.list (rl X.m λk=>.int (X.fs k:Int)))),none,none,none,none,none,none,none,none,none,none,none,none,none,none,none,none]=some (.next [some (.dat (C7 ns)),iD (X.m:Int),iD (X.n:Int),some (.dat (.list (rl X.m λk=>.int (X.fs k:Int)))),some (.dat (.list (rl X.m λp=>.list (rl X.n λj=>fr (X.row p j))))),none,none,none,none,none,none,none,none,none,none,none,none,none,none,none]):=by walk_at "r";rw[eR];rfl
 have k4:(i7 5 (g0 bQ (c5 (b9 0) (c5 (b9 1) c8)))) [some (.dat (C7 ns)),iD (X.m:Int),iD (X.n:Int),some (.dat (.list (rl X.m λk=>.int (X.fs k:Int)))),some (.dat (.list (rl X.m λp=>.list (rl X.n λj=>fr (X.row p j))))),none,none,none,none,none,none,none,none,none,none,none,none,none,none,none]=some (.next [some (.dat (C7 ns)),iD (X.m:Int),iD (X.n:Int),some (.dat (.list (rl X.m λk=>.int (X.fs k:Int)))),some (.dat (.list (rl X.m λp=>.list (rl X.n λj=>fr (X.row p j))))),some (.dat (.list (rl X.m λi=>fr (X.rg i)))),none,none,none,none,none,none,none,none,none,none,none,none,none,none]):=by walk_at "r";rw[eG];rfl
 have k5:(i7 6 (g0 fL (c5 (b9 0) (c5 (b9 2) (c5 (b9 3) (c5 (b9 5) c8)))))) [some (.dat (C7 ns)),iD (X.m:Int),iD (X.n:Int),some (.dat (.list (rl X.m λk=>.int (X.fs k:Int)))),some (.dat (.list (rl X.m λp=>.list (rl X.n λj=>fr (X.row p j))))),some (.dat (.list (rl X.m λi=>fr (X.rg i)))),none,none,none,none,none,none,none,none,none,none,none,none,none,none]=some (.next [some (.dat (C7 ns)),iD (X.m:Int),iD (X.n:Int),some (.dat (.list (rl X.m λk=>.int (X.fs k:Int)))),some (.dat (.list (rl X.m λp=>.list (rl X.n λj=>fr (X.row p j))))),some (.dat (.list (rl X.m λi=>fr (X.rg i)))),some (.dat (.list (rl X.n λj=>o2 (X.tp j)))),none,none,none,none,none,none,none,none,none,none,none,none,none]):=by walk_at "r";rw[eT];rfl
 have k6:(i7 7 (m9 (D7 I0 (c5 (b9 2) c8)) m7 m6 kN)) [some (.dat (C7 ns)),iD (X.m:Int),iD (X.n:Int),some (.dat (.list (rl X.m λk=>.int (X.fs k:Int)))),some (.dat (.list (rl X.m λp=>.list (rl X.n λj=>fr (X.row p j))))),some (.dat (.list (rl X.m λi=>fr (X.rg i)))),some (.dat (.list (rl X.n λj=>o2 (X.tp j)))),none,none,none,none,none,none,none,none,none,none,none,none,none]=some (.next [some (.dat (C7 ns)),iD (X.m:Int),iD (X.n:Int),some (.dat (.list (rl X.m λk=>.int (X.fs k:Int)))),some (.dat (.list (rl X.m λp=>.list (rl X.n λj=>fr (X.row p j))))),some (.dat (.list (rl X.m λi=>fr (X.rg i)))),some (.dat (.list (rl X.n λj=>o2 (X.tp j)))),some (.dat (.list (rl X.n λj=>p9 (X.cost j)))),none,none,none,none,none,none,none,none,none,none,none,none]):=by
  walk_at "r";rw[C8 (by lia),J8]
  walk_at "r";rw[c7 (by rw[nj];lia),eC]
  rfl
 have k7:(i7 8 (g0 bV (c5 (b9 0) (c5 (b9 3) (c5 (b9 6) c8))))) [some (.dat (C7 ns)),iD (X.m:Int),iD (X.n:Int),some (.dat (.list (rl X.m λk=>.int (X.fs k:Int)))),some (.dat (.list (rl X.m λp=>.list (rl X.n λj=>fr (X.row p j))))),some (.dat (.list (rl X.m λi=>fr (X.rg i)))),some (.dat (.list (rl X.n λj=>o2 (X.tp j)))),some (.dat (.list (rl X.n λj=>p9 (X.cost j)))),none,none,none,none,none,none,none,none,none,none,none,none]=some (.next [some (.dat (C7 ns)),iD (X.m:Int),iD (X.n:Int),some (.dat (.list (rl X.m λk=>.int (X.fs k:Int)))),some (.dat (.list (rl X.m λp=>.list (rl X.n λj=>fr (X.row p j))))),some (.dat (.list (rl X.m λi=>fr (X.rg i)))),some (.dat (.list (rl X.n λj=>o2 (X.tp j)))),some (.dat (.list (rl X.n λj=>p9 (X.cost j)))),some (.dat (.list (rl X.m λi=>fr (X.col i)))),none,none,none,none,none,none,none,none,none,none,none]):=by walk_at "r";rw[eL];rfl
 have k8:(i7 9 (g0 bT (c5 (b9 0) c8))) [some (.dat (C7 ns)),iD (X.m:Int),iD (X.n:Int),some (.dat (.list (rl X.m λk=>.int (X.fs k:Int)))),some (.dat (.list (rl X.m λp=>.list (rl X.n λj=>fr (X.row p j))))),some (.dat (.list (rl X.m λi=>fr (X.rg i)))),some (.dat (.list (rl X.n λj=>o2 (X.tp j)))),some (.dat (.list (rl X.n λj=>p9 (X.cost j)))),some (.dat (.list (rl X.m λi=>fr (X.col i)))),none,none,none,none,none,none,none,none,none,none,none]=some (.next (dA ns X [some (.dat (p9 X.cJ)),none,none,none,none,none,none,none,none,none,none])):=by simp only[dB,dA];walk_at "r";rw[eN];rfl
 have k9:(F8 (D7 I0 (c5 (b9 1) c8)) (z9 10) kO) (dA ns X [some (.dat (p9 X.cJ)),none,none,none,none,none,none,none,none,none,none])=some (.next (dA ns X [some (.dat (p9 (X.here X.m))),y,none,none,none,none,none,none,none,none,none])):=by
  delta F8;rw[show D7 I0 (c5 (b9 1) c8) (dA ns X [some (.dat (p9 X.cJ)),none,none,none,none,none,none,none,none,none,none])=some (V3 0 X.m)from by simp only[dB,dA];walk_at "r";rw[C8 (by lia),J8],j4]
  exact eH
 have k10:(i7 11 (g0 B1 (c5 (b9 0) (c5 (fC (.int 990)) (c5 (c9 v8 (b9 2) (fC (.int 1))) c8))))) (dA ns X [some (.dat (p9 (X.here X.m))),y,none,none,none,none,none,none,none,none,none])=some (.next (dA ns X [some (.dat (p9 (X.here X.m))),y,iD (X.at':Int),none,none,none,none,none,none,none,none])):=by simp only[dB,dA];walk_at "r";rw[eA];rfl
 have k11:(i7 12 (c9 v8 (c9 v8 (cK fP (b9 7) U4 (R9 (b9 11))) (K9 (c5 (b9 9) c8))) (cK fP (b9 7) (R9 (b9 11)) U4))) (dA ns X [some (.dat (p9 (X.here X.m))),y,iD (X.at':Int),none,none,none,none,none,none,none,none])=some (.next (dA ns X [some (.dat (p9 (X.here X.m))),y,iD (X.at':Int),some (.dat (X.B3 X.loose).m3),none,none,none,none,none,none,none])):=by rw[T8,Um O y];rfl
 have k12:(i7 13 (m9 (D7 I0 (c5 (b9 1) c8)) m7 m6 oh)) (dA ns X [some (.dat (p9 (X.here X.m))),y,iD (X.at':Int),some (.dat (X.B3 X.loose).m3),none,none,none,none,none,none,none])=some (.next (dA ns X [some (.dat (p9 (X.here X.m))),y,iD (X.at':Int),some (.dat (X.B3 X.loose).m3),some (.dat (X.B3 X.loose).p5),none,none,none,none,none,none])):=by
  simp only[dB,dA];walk_at "r";rw[C8 (by lia),J8]
  walk_at "r";rw[c7 (by rw[nj];lia),TK O y]
  rfl
 have k13:(i7 14 (m9 (L8 (b9 3)) m7 m6 og)) (dA ns X [some (.dat (p9 (X.here X.m))),y,iD (X.at':Int),some (.dat (X.B3 X.loose).m3),some (.dat (X.B3 X.loose).p5),none,none,none,none,none,none])=some (.next (dA ns X [some (.dat (p9 (X.here X.m))),y,iD (X.at':Int),some (.dat (X.B3 X.loose).m3),some (.dat (X.B3 X.loose).p5),some (.dat (X.B3 X.loose).D4),none,none,none,none,none])):=by
  simp only[dB,dA];walk_at "r";rw[c7 (R7 (by lia)),Xj O y]
  rfl
 have k14:(i7 15 (c9 v8 (c9 v8 (cK fP (b9 6) U4 (R9 (b9 11))) (K9 (c5 (fC .none) c8))) (cK fP (b9 6) (R9 (b9 11)) U4))) (dA ns X [some (.dat (p9 (X.here X.m))),y,iD (X.at':Int),some (.dat (X.B3 X.loose).m3),some (.dat (X.B3 X.loose).p5),some (.dat (X.B3 X.loose).D4),none,none,none,none,none])=some (.next (dB ns X y [none,none,none,none])):=by rw[T8,SM O y];rfl
 have k15:(i7 16 (g0 aP (c5 (b9 12) (c5 (b9 13) (c5 (b9 5) (c5 (b9 15) (c5 (b9 14) c8))))))) (dB ns X y [none,none,none,none])=some (.next (dB ns X y [some (.dat (.tuple [.str "endless",x1,x2])),none,none,none])):=by
  rw[T8];show GY (aP [(X.B3 X.loose).m3,(X.B3 X.loose).p5,(X.B3 X.loose).o7,(X.B3 X.loose).t6,(X.B3 X.loose).D4]) _ _=_
  rw[s1];rfl
 have k16:(D1 (dR (cO (j8 (g0 J4 (c5 (b9 12) (c5 (b9 13) (c5 (b9 5) (c5 (b9 15) (c5 (b9 16) c8)))))))) (j8 (c9 V4 (c9 j5 (b9 16) (fC (.int 0))) (fC (.str "endless"))))) (u9 (fC (.bool false))) t9) (dB ns X y [some (.dat (.tuple [.str "endless",x1,x2])),none,none,none])=some (.next (dB ns X y [some (.dat (.tuple [.str "endless",x1,x2])),none,none,none])):=by
  simp only[dB,dA];walk_at "r";rw[show J4 [(X.B3 X.loose).m3,(X.B3 X.loose).p5,.list (rl X.m λi=>fr (X.rg i)),(X.B3 X.loose).t6,.tuple [.str "endless",x1,x2]]=some (.dat (.bool true))from w1]
  walk_at "r"
 have k17:(R8 17 (K9 c8)) (dB ns X y [some (.dat (.tuple [.str "endless",x1,x2])),none,none,none])=some (.next (dB ns X y [some (.dat (.tuple [.str "endless",x1,x2])),some (.own []),none,none])):=by rfl
 have k18:(F8 (D7 I0 (c5 (c9 v8 (b9 2) (fC (.int 1))) c8)) (z9 18) gk) (dB ns X y [some (.dat (.tuple [.str "endless",x1,x2])),some (.own []),none,none])=some (.next (dB ns X y [some (.dat (.tuple [.str "endless",x1,x2])),some (.own (rl (X.n+1) λj=>o2 (f j))),z.1,z.2])):=by
  delta F8;rw[show D7 I0 (c5 (c9 v8 (b9 2) (fC (.int 1))) c8) (dB ns X y [some (.dat (.tuple [.str "endless",x1,x2])),some (.own []),none,none])=some (V3 0 (X.n+1))from by simp only[dB,dA];walk_at "r";rw[C8 (by lia),show((X.n:Int)+1).toNat=X.n+1 by lia],j4]
  exact eS
 have k19:(iO 17 (i7 16 (g0 aP (c5 (b9 12) (c5 (b9 13) (c5 (b9 5) (c5 (b9 17) (c5 (b9 14) c8)))))))) (dB ns X y [some (.dat (.tuple [.str "endless",x1,x2])),some (.own (rl (X.n+1) λj=>o2 (f j))),z.1,z.2])=some (.next (dB ns X y [some (.dat (.tuple [.str "best",x3,x4])),some (.dat (X.B3 f).t6),z.1,z.2])):=by
  delta iO;rw[show qy 17 (dB ns X y [some (.dat (.tuple [.str "endless",x1,x2])),some (.own (rl (X.n+1) λj=>o2 (f j))),z.1,z.2])=(dB ns X y [some (.dat (.tuple [.str "endless",x1,x2])),some (.dat (X.B3 f).t6),z.1,z.2])from rfl,T8]
  show GY (aP [(X.B3 f).m3,(X.B3 f).p5,(X.B3 f).o7,(X.B3 f).t6,(X.B3 f).D4]) _ _=_
  rw[s2];rfl
 have k20:(u9 (oV (iF (g0 J4 (c5 (b9 12) (c5 (b9 13) (c5 (b9 5) (c5 (b9 17) (c5 (b9 16) c8)))))) (c9 O3 (c9 j5 (b9 16) (fC (.int 0))) (fC (.str "best")))))) (dB ns X y [some (.dat (.tuple [.str "best",x3,x4])),some (.dat (X.B3 f).t6),z.1,z.2])=some (.ret (.dat (.bool true))):=by
  delta u9 oV;rw[show(iF (g0 J4 (c5 (b9 12) (c5 (b9 13) (c5 (b9 5) (c5 (b9 17) (c5 (b9 16) c8)))))) (c9 O3 (c9 j5 (b9 16) (fC (.int 0))) (fC (.str "best")))) (bD (dB ns X y [some (.dat (.tuple [.str "best",x3,x4])),some (.dat (X.B3 f).t6),z.1,z.2]))=some (.dat (.bool true))from ?_]
  . rfl
  . delta iF j8;rw[show(g0 J4 (c5 (b9 12) (c5 (b9 13) (c5 (b9 5) (c5 (b9 17) (c5 (b9 16) c8)))))) (bD (dB ns X y [some (.dat (.tuple [.str "best",x3,x4])),some (.dat (X.B3 f).t6),z.1,z.2]))=some (.dat (.bool true))from w2]
    rfl
 delta mN D2;rw[c7 (show([.list (ns.map .int)]:List c6).length=1 from rfl)]
 rw[show(L4 [.list (ns.map .int)]++v9 (20-1) none:Ds)=[some (.dat (C7 ns)),none,none,none,none,none,none,none,none,none,none,none,none,none,none,none,none,none,none,none]from rfl]
 rw[j7,k0,j0,j7,k1,j0,j7,k2,j0,j7,k3,j0,j7,k4,j0,j7,k5,j0,j7,k6,j0,j7,k7,j0,j7,k8,j0,j7,k9,j0,j7,k10,j0,j7,k11,j0,j7,k12,j0,j7,k13,j0,j7,k14,j0,j7,k15,j0,j7,k16,j0,j7,k17,j0,j7,k18,j0,j7,k19,j0,k20];rfl
end Law
set_option maxHeartbeats 4000000
local macro_rules | `(tactic| walk_at "c") => `(tactic| exact⟨rfl, rfl, rfl, by decide +kernel, rfl, by decide +kernel, by decide +kernel⟩)
namespace Law
open PySem L2
section
variable{K K':i9}{f fa:Addr}{fd:M7}{mg' mg:Str->Option e8}{k k' k0 JL OC:Nat}{JN OG:Option Addr}{JJ OA:Array (Option e8)}{DE DD He Hd Ha:Tok}
def top(i:Nat):Stmt:=PySem.Challenge.pw_sunstore_k34_endless_ones.main.body.getD i (.Pass ⟨0,0,0,0⟩)
inductive Rw(K:i9)(m n:Str)(s:Stmt)(f:Addr):M7->Prop
 |mk {oc kV dc pm cd ct:e8} {od an:Option Addr} {sl:Array (Option e8)} (l:K.lookup f=some ⟨oc,od,.func (gO m n (iG s) (aw s) (D8 s) .none kV dc pm an cd ct),sl⟩) (c:vP K cd n=true) (k:iR K (.ref f)=true):Rw K m n s f (gO m n (iG s) (aw s) (D8 s) .none kV dc pm an cd ct)
theorem Uw{m n:Str}{s:Stmt}(r:Rw K m n s f fd):rz K m n s f fd:=by obtain⟨l,c,k⟩:=r;exact Wg l c k
theorem b00{p:List Value->Prop}(h:p []):∀us,us.length=0->p us:=λus e=>by cases us with|nil=>exact h|cons _ _=>cases e
theorem b01{k:Nat}{p:List Value->Prop}(h:∀x,∀us,us.length=k->p (x::us)):∀us,us.length=k+1->p us:=λus e=>by cases us with|nil=>cases e|cons x t=>exact h x t (Nat.succ.inj e)
local macro_rules | `(tactic| walk_at "b") => `(tactic| (intro _ _ _ _ _ _; repeat first | exact b00 rfl | refine b01 fun _ => ?_))
structure Dd(K:i9)(J:Prop)(n q:Str)(s:Stmt)(N:List Str)(k:Nat)(f:Addr)(fd:M7):Prop where
 F:rz K n q s f fd
 m:J
 b:Binds K fd (N.take k) []
 S:iI N (N.take k) (D8 s)
structure Nf(K:i9)(n:Str)(s:Stmt)(f:Addr)(fd:M7):Prop where
 a:cV K S9 n=some (some (.ref f))
 r:Rw K n n s f fd
structure Nm(K:i9)(C:Addr)(n q:Str)(s:Stmt)(f:Addr)(fd:M7):Prop where
 a:aq K (.ref C) n=some (some (.ref f))
 i:vK K (.ref f)=true
 r:Rw K n q s f fd
section
variable{K:i9}{mg:Str->Option e8}{n q:Str}{s:Stmt}{N:List Str}{k l:Nat}{f C:Addr}{fd:M7}{h:Heap}{J:Prop}{P:A6}{w:t7}{base:Heap}{G:Ds->Option Out}
structure Ok(P:A6)(w:t7)(mg:Str->Option e8)(base:Heap)(D:Dd K J n q s N k f fd)(l:Nat)(sp:Sp):Prop where
 h:Y0 P w K mg base om l f fd (N.take k) sp
theorem q9(r:Rw K n q s f fd)(m:J)(b:∀(kV doc pm:e8) (an:Option Addr) (cdv ct:e8) (us:List e8),us.length=k->bindArgs (gO n q (iG s) (aw s) (D8 s) .none kV doc pm an cdv ct) ⟨us,[]⟩=pure ((N.take k).zip us):=by walk_at "b")(S:iI N (N.take k) (D8 s):=by walk_at "c")(e:(N.take k).length=k:=by rfl):Dd K J n q s N k f fd:=⟨Uw r,m,(Uw r).binds λ_ _ _ _ _ _ us hl=>b _ _ _ _ _ _ us (hl.trans e),S⟩
theorem Nm.mt(a:Nm K C n q s f fd):Meth K C n f:=⟨a.a,a.i,(Uw a.r).kp⟩
theorem Yv(D:Dd K J n q s N k f fd)(b:∀(cdv:e8) (A:A5) (outer:List Env) (s':i5) (H:Hp) (E:XK),N.Nodup->G7 l (A.deeper (LD q (D8 s) s'.heap.objs.size f cdv))->∃t,fH (lz om P w K mg base N q (D8 s) f cdv A outer s' H E).uH (aw s) t G)(e:(N.take k).length<=N.length:=by decide):Ok P w mg base D (l+1) (A8 K (D2 (N.take k).length N.length G)):=⟨D.F.Yt D.S e λ_ _ _ _ _ _ hr=>b _ _ _ _ _ _ D.S.nd hr⟩
theorem Yu(D:Dd K J n q s N k f fd)(b:∀(cdv:e8) (A:A5) (outer:List Env) (s':i5) (H:Hp) (E:XK),N.Nodup->G7 l (A.deeper (LD q (D8 s) s'.heap.objs.size f cdv))->∃t,fH (lz om P w K mg base N q (D8 s) f cdv A outer s' H E).uH (aw s) t G)(e:(N.take k).length<=N.length:=by decide):Ok P w mg base D (l+1) (jg K (nE (N.take k).length N.length G)):=⟨D.F.Ys D.S e λ_ _ _ _ _ _ hr=>b _ _ _ _ _ _ D.S.nd hr⟩
end
inductive Al(p:Str->Prop):List Str->Prop
 |n:Al p []
 |c {s:Str} {r:List Str}:p s->Al p r->Al p (s::r)
theorem Al.at{p:Str->Prop}{s:Str}:∀{l:List Str},Al p l->s∈l->p s
 |_::_,.c h t,m=>by
  cases m with
  |head=>exact h
  |tail _ m=>exact t.at m
theorem Yr{X:Cx}{fr:Bool}{e:Expr}{es:List Expr}{t:TA}{Fl:Ds->Option (List c6)}{pos p:Pos}{N:List Str}{x q:Str}{st:Stmt}{f':List c6->Option PV}{D:Dd K' (mg' x=some (.ref f)) x q st N k0 f fd}(G:Ok X.prog X.w mg' X.base D k (A8 K' f'))(hr:G7 k' X.A)(ha:ek X fr (e::es) t Fl)(eK:X.K=K':=by rfl)(em:X.mg=mg':=by rfl)(hk:k<=k':=by lia)(hg:Gl X x:=by exact rfl)(hdb:(x==("__debug__" : Str))=false:=by decide)(he:j6 (e::es) X.env=(false,eval e X.env)::j6 es X.env:=by rfl)(hpl:(C9 pos (j6 es X.env)).any (·.1)=false:=by rfl):PX X fr (.Call (.Name x p) (e::es) [] pos) (ow (A8 K' f') [] E0 t) (g0 f' Fl):=Nn eK (em▸G.h) (hr.mono hk) hg (em▸D.m) D.F.kp D.b dg ha hdb he hpl
def Ua:Expr->List Str
 | .Name x _=>[x]
 | .Tuple es _ _=>es.filterMap fun | .Name x _=>some x|_=>none
 |_=>[]
section
variable{X:Cx}{bs nb:List Str}{elt tg iter:Expr}{ifs:List Expr}{scope:ag}{pos cpos pos':Pos}{wi:TI}{g:TG}{tt:TT}{te:TE}{Fi:Ds->Option (List c6)}{gt:c6->Option (List c6)}{Fc:Ds->Option Bool}{Fe:Ds->Option PV}{i:Nat}{x:Str}
theorem YA(h:gH X.N X.N X.env.scope scope=true):gH X.N X.N X.env.scope scope=true:=h
theorem XI(nb:List Str)(h:gH X.N nb X.env.scope scope=true):gH X.N nb X.env.scope scope=true:=h
theorem Nl(hc:X.calm=true)(hk:gH X.N nb X.env.scope scope=true)(hb:Ua tg=bs)(hgt:yP X.K bs.length g gt)(hi:jZ X true tg iter wi Fi)(go:ma bs.length g)(hg:∀cl C fp s H pins,PG (W4 X bs nb scope cl C fp s H pins) tg g)(ht:∀cl C fp s H pins,ky (W4 X bs nb scope cl C fp s H pins) ifs tt Fc)(he:∀cl C fp s H pins,PX (W4 X bs nb scope cl C fp s H pins) true elt te Fe)
  (hs:∀x,fg iter X.env x=pure x:=by intro _;rfl):PX X true (.ListComp elt [⟨tg,iter,ifs,0⟩] scope pos) (kj bs wi g tt te) (m9 Fi gt Fc Fe):=wZ hc (Br hk) hi go hg hgt ht he hs
theorem Gp(hN:X.N.Nodup)(hi':X.N[i]? = some x)(hx:Loc X.env.scope x)(hc:X.calm=true)(hk:gH X.N nb X.env.scope scope=true)(hb:Ua tg=bs)(hgt:yP X.K bs.length g gt)(hi:jZ X true tg iter wi Fi)(go:ma bs.length g)(hg:∀cl C fp s H pins,PG (W4 X bs nb scope cl C fp s H pins) tg g)(ht:∀cl C fp s H pins,ky (W4 X bs nb scope cl C fp s H pins) ifs tt Fc)(he:∀cl C fp s H pins,PX (W4 X bs nb scope cl C fp s H pins) true elt te Fe)
  (hsw:aJ (.ListComp elt [⟨tg,iter,ifs,0⟩] scope cpos) (some (.Name x pos')) pos.line X.env=pure true:=by rfl) (hf:X.fn x=true\/X.env.scope.names.lookup x=some .local:=by first|exact .inl rfl|exact .inr rfl|assumption)
  (hs:∀x,fg iter X.env x=pure x:=by intro _;rfl):M5 X (.Assign [.Name x pos'] (.ListComp elt [⟨tg,iter,ifs,0⟩] scope cpos) pos) (kT (kj bs wi g tt te) (ay i)) (i7 i (m9 Fi gt Fc Fe)):=IJ hN hi' hx hc (Br hk) hi go hg hgt ht he hsw hf hs
theorem Gn(hN:X.N.Nodup)(hi':X.N[i]? = some x)(hx:Loc X.env.scope x)(hc:X.calm=true)(hk:gH X.N nb X.env.scope scope=true)(hb:Ua tg=bs)(hgt:yP X.K bs.length g gt)(hi:jZ X true tg iter wi Fi)(go:ma bs.length g)(hg:∀cl C fp s H pins,PG (W4 X bs nb scope cl C fp s H pins) tg g)(ht:∀cl C fp s H pins,ky (W4 X bs nb scope cl C fp s H pins) ifs tt Fc)(he:∀cl C fp s H pins,PX (W4 X bs nb scope cl C fp s H pins) true elt te Fe)
  (hsw:aJ (.ListComp elt [⟨tg,iter,ifs,0⟩] scope cpos) (some (.Name x pos')) pos.line X.env=pure true:=by rfl) (hf:X.fn x=true\/X.env.scope.names.lookup x=some .local:=by first|exact .inl rfl|exact .inr rfl|assumption)
  (hs:∀x,fg iter X.env x=pure x:=by intro _;rfl):M5 X (.Assign [.Name x pos'] (.ListComp elt [⟨tg,iter,ifs,0⟩] scope cpos) pos) (kT (kj bs wi g tt te) (ay i)) (R8 i (m9 Fi gt Fc Fe)):=II hN hi' hx hc (Br hk) hi go hg hgt ht he hsw hf hs
theorem Ny{body:List Stmt}{tb:TS}{G:Ds->Option Out}{gt:c6->Ds->Option Ds}(hp:qN (model X.prog X.w) X.A X.env X.xe)(hc:X.calm=true)(hgt:QY X.K g gt)(hi:jZ X true tg iter wi Fi)(hg:PG X tg g)(hb:fH X body tb G)
  (hs:∀x,fg iter X.env x=pure x:=by intro _;rfl):M5 X (.For tg iter body [] pos) (MH wi g tb) (F8 Fi gt G):=Sa hp hc hi hg hgt hb hs
end
structure Rh where
 f:Nat->Addr
 d:Nat->M7
 zx:e8
 zp:V
 DV:e8
 DT:V
 C:Addr
section
variable(K:i9)(mg:Str->Option e8)(a:Rh)(i:Nat)(n q:Str)(s:Stmt)(N:List Str)(k:Nat)
abbrev Dn:Prop:=Dd K (mg n=some (.ref (a.f i))) n n s N k (a.f i) (a.d i)
abbrev Dm:Prop:=Dd K (Meth K a.C n (a.f i)) n q s N k (a.f i) (a.d i)
end
structure Txt(K:i9)(mg:Str->Option e8)(a:Rh):Prop where
 tW:Dn K mg a 0 "common_divisor" (top 4) ["one","other","rest"] 2
 HF:Dn K mg a 1 "fraction" (top 5) ["top","bottom","divisor"] 2
 Td:Dn K mg a 2 "times" (top 6) ["one","other","divisor","other_divisor","top"] 2
 sC:Dn K mg a 3 "common_multiple" (top 10) ["numbers","told","number"] 1
 Tc:Dn K mg a 4 "whole" (top 11) ["one","by"] 2
 Hx:Dn K mg a 5 "scale_of" (top 12) ["rows","choice"] 2
 DJ:Dn K mg a 6 "column_of" (top 13) ["rows","choice","scale"] 3
 Hw:Dn K mg a 7 "unit_row" (top 14) ["count","place","row"] 2
 Kr:Dn K mg a 8 "product" (top 15) ["row","other"] 2
 tX:Dn K mg a 9 "column_product" (top 16) ["row","column"] 2
 OY:Dn K mg a 10 "turned" (top 17) ["row","pivot_row","factor","pivot","size"] 5
 iH:Dd K (Mk K a.C (a.f 11)) "__init__" "Table.__init__" (inClass (top 18) 0) ["self","costs","rows","rights","tops","first"] 6 (a.f 11) (a.d 11)
 cA:Dm K a 12 "set_weights" "Table.set_weights" (inClass (top 18) 1) ["self","costs","part","weights","multiple"] 2
 cM:Dm K a 13 "set_limits" "Table.set_limits" (inClass (top 18) 2) ["self","rights","tops","heights","bottoms"] 3
 Q5:Dm K a 14 "first_prices" "Table.first_prices" (inClass (top 18) 3) ["self","part"] 2
 cN:Dm K a 15 "rest" "Table.rest" (inClass (top 18) 4) ["self","part","choice"] 3
 gG:Dm K a 16 "amounts" "Table.amounts" (inClass (top 18) 5) ["self"] 1
 jQ:Dm K a 17 "paces" "Table.paces" (inClass (top 18) 6) ["self","choice"] 2
 lu:Dm K a 18 "flip" "Table.flip" (inClass (top 18) 7) ["self","choice","by","place","number"] 2
 lr:Dm K a 19 "turn" "Table.turn" (inClass (top 18) 8) ["self","choice","place","paces","sign","pivot","pivot_row","part","factor","inverse"] 4
 Kz:Dn K mg a 20 "gain_of" (top 19) ["table","choice","sign","part","rest"] 2
 Pc:Dn K mg a 21 "moving" (top 20) ["table","careful","told","best","choice","gain"] 2
 Te:Dn K mg a 22 "stops" (top 21) ["table","choice","paces","found","sign","place","amount","number","limit","pace"] 3
 OZ:Dn K mg a 23 "sooner" (top 22) ["one","other","length","other_length"] 2
 Ba:Dn K mg a 24 "first_stop" (top 23) ["found","told","stop"] 1
 vn:Dn K mg a 25 "move" (top 24) ["table","choice","paces","stop"] 4
 Pd:Dn K mg a 26 "mix_of" (top 25) ["table","tops","mix","choice","amount"] 2
 Hy:Dn K mg a 27 "price_of" (top 26) ["table","place","parts"] 2
 OX:Dn K mg a 28 "way_of" (top 27) ["table","choice","paces","way","number","pace"] 3
 Pa:Dn K mg a 29 "solved" (top 28) ["costs","rows","rights","tops","first","table","choice","paces","stop"] 5
 Pk:Dn K mg a 30 "_law_draw" (top 30) ["_law_script","_law_k","_law_many","_law_cell","_law_mixed"] 3
 Pg:Dn K mg a 31 "_law_norm" (top 31) ["_law_top","_law_bottom","_law_one","_law_other","_law_rest"] 2
 Tf:Dn K mg a 32 "_law_sum" (top 32) ["_law_one","_law_other"] 2
 Ku:Dn K mg a 33 "_law_times" (top 33) ["_law_one","_law_other"] 2
 Ph:Dn K mg a 34 "_law_more" (top 34) ["_law_one","_law_other","_law_by"] 3
 Ky:Dn K mg a 35 "_law_below" (top 35) ["_law_one","_law_other"] 2
 DI:Dn K mg a 36 "_law_cheaper" (top 36) ["_law_one","_law_other","_law_k"] 2
 AZ:Dn K mg a 37 "_law_negative" (top 37) ["_law_one"] 1
 Ks:Dn K mg a 38 "_law_whole" (top 38) ["_law_found"] 1
 vo:Dn K mg a 39 "_law_is_fraction" (top 39) ["_law_found"] 1
 yZ:Dn K mg a 40 "_law_is_triple" (top 40) ["_law_found"] 1
 Kv:Dn K mg a 41 "_law_small" (top 41) ["_law_script","_law_k","_law_low","_law_high","_law_bottom","_law_far"] 4
 Pl:Dn K mg a 42 "_law_cost" (top 42) ["_law_script","_law_k","_law_first","_law_second","_law_third"] 2
 HD:Dn K mg a 43 "_law_firsts" (top 43) ["_law_script","_law_n","_law_m","_law_order"] 3
 Pf:Dn K mg a 44 "_law_rows" (top 44) ["_law_script","_law_n","_law_first","_law_rows_here","_law_i","_law_row","_law_j","_law_one"] 3
 DG:Dn K mg a 45 "_law_product" (top 45) ["_law_row","_law_mix","_law_total_here","_law_k"] 2
 Kw:Dn K mg a 46 "_law_rests" (top 46) ["_law_costs_told","_law_rows_here","_law_prices","_law_told","_law_j","_law_rest","_law_i"] 3
 Kx:Dn K mg a 47 "_law_floor" (top 47) ["_law_costs_told","_law_rows_here","_law_rights_here","_law_tops_here","_law_prices","_law_nothing","_law_total_here","_law_i","_law_left","_law_j"] 5
 Kt:Dn K mg a 48 "_law_total" (top 48) ["_law_costs_told","_law_mix","_law_total_here","_law_j"] 2
 DH:Dn K mg a 49 "_law_is_list" (top 49) ["_law_found","_law_n","_law_way"] 3
 HC:Dn K mg a 50 "_law_is_mix" (top 50) ["_law_rows_here","_law_rights_here","_law_tops_here","_law_mix","_law_j"] 4
 HB:Dn K mg a 51 "_law_is_way" (top 51) ["_law_costs_told","_law_rows_here","_law_tops_here","_law_way","_law_j"] 4
 Hz:Dn K mg a 52 "_law_walked" (top 52) ["_law_costs_told","_law_rows_here","_law_rights_here","_law_tops_here","_law_found","_law_n"] 5
 HA:Dn K mg a 53 "_law_rights" (top 53) ["_law_script","_law_m","_law_rights_here","_law_i","_law_one"] 2
 Pe:Dn K mg a 54 "_law_tops" (top 54) ["_law_script","_law_n","_law_first","_law_rights_here","_law_tops_here","_law_j","_law_top"] 4
 HE:Dn K mg a 55 "_law_column" (top 55) ["_law_script","_law_first","_law_tops_here","_law_column_here","_law_i","_law_one"] 3
 Pj:Dn K mg a 56 "_law_gain" (top 56) ["_law_script","_law_some","_law_at"] 1
 Xs:Dn K mg a 57 "law" (top 57) ["_law_script","_law_m","_law_n","_law_first","_law_rows_here","_law_rights_here","_law_tops_here","_law_costs_told","_law_column_here","_law_cost_here","_law_i","_law_at","_law_some","_law_wide","_law_own","_law_loosed","_law_found","_law_closed","_law_j","_law_top"] 1
 cn:bz K "Table" a.C
 mc:mg "Table" = some (.ref a.C)
 na:∀s∈(["scales","columns","multiples","weights","unit","rights","limits","chosen","full","size","inverse","prices"]:List Str),V6 K a.C s
 n:∀s∈(["abs","all","bool","enumerate","int","isinstance","len","list","range","sorted","sum","tuple","zip"]:List Str),mg s=none
 Mv:mg "NOUGHT" = some a.zx/\RelV a.zp a.zx/\∀H,Dt K H a.zp aO
 Rl:mg "PARTS" = some a.DV/\RelV a.DT a.DV/\∀H,Dt K H a.DT dz
set_option hygiene false
local macro_rules | `(tactic| walk_at "n") => `(tactic| first|exact nd|(dsimp only[W4, Cx.uH, lz]; decide +kernel))
local macro_rules | `(tactic| walk_at "v") => `(tactic| first|exact Or.inl rfl|exact Or.inr rfl)
local macro_rules | `(tactic| walk_at "o") => `(tactic| first|exact sr T|exact Dz T|exact Oa T|exact qk T|exact NZ T|exact Dp T|exact Ad T|exact Dl T|exact Gz T|exact sv T|exact Jh T|exact GI T|exact Jk T|exact Ob T|exact Ji T|exact yU T|exact Jl T|exact Dq T|exact Jg T|exact Jj T|exact Js T|exact Jp T|exact Od T|exact GC T|exact Jq T|exact GH T|exact Ac T|exact yT T|exact GA T|exact tH T|exact xf T|exact GD T|exact Jt T|exact Dx T|exact Jo T|exact Aa T|exact GF T|exact GG T|exact GB T|exact Ab T|exact Dw T|exact Dv T|exact Dr T|exact Du T|exact Jn T|exact Dy T|exact Jr T|exact Jm T)
local macro_rules | `(tactic| walk_at "t") => `(tactic| first|exact ME|exact MD|exact MB|exact Rq (by repeat first|exact MC|apply Ig))
local macro_rules | `(tactic| walk_at "w") => `(tactic| first|exact Kb (by decide)|exact OJ (uY (uY Ka (by decide)) (by decide)))
local macro_rules | `(tactic| walk_at "m") => `(tactic| first|exact(rfl : _ = (["_law_i"] : List Str))|exact(rfl : _ = (["_law_j"] : List Str))|exact(rfl : _ = (["_law_k"] : List Str))|exact(rfl : _ = (["_law_one"] : List Str))|exact(rfl : _ = (["_law_pair"] : List Str))|exact(rfl : _ = (["_law_row"] : List Str))|exact(rfl : _ = (["choice", "scale"] : List Str))|exact(rfl : _ = (["choice"] : List Str))|exact(rfl : _ = (["number", "other"] : List Str))|exact(rfl : _ = (["number", "other_number"] : List Str))|exact(rfl : _ = (["number"] : List Str))|exact(rfl : _ = (["one"] : List Str))|exact(rfl : _ = (["part"] : List Str))|exact(rfl : _ = (["place", "number"] : List Str))|exact(rfl : _ = (["place", "row"] : List Str))|exact(rfl : _ = (["place"] : List Str))|exact(rfl : _ = (["row", "pace"] : List Str))|exact(rfl : _ = (["row"] : List Str))|exact(rfl : _ = (["top", "full"] : List Str))|exact(rfl : _ = (["top", "scale"] : List Str))|exact(rfl : _ = (["triple", "scale"] : List Str)))
local macro_rules | `(tactic| walk_at "u") => `(tactic| first|exact YA rfl|exact XI ["_law_script", "_law_m", "_law_n", "_law_first", "_law_rows_here", "_law_rights_here", "_law_tops_here", "_law_costs_told", "_law_column_here", "_law_cost_here", "_law_i", "_law_at", "_law_some", "_law_wide", "_law_own", "_law_loosed", "_law_found", "_law_closed", "_law_j'", "_law_top"] rfl|exact XI ["_law_script", "_law_m", "_law_n", "_law_first", "_law_rows_here", "_law_rights_here", "_law_tops_here", "_law_costs_told", "_law_column_here", "_law_cost_here", "_law_i'", "_law_at", "_law_some", "_law_wide", "_law_own", "_law_loosed", "_law_found", "_law_closed", "_law_j", "_law_top"] rfl)
local macro_rules | `(tactic| walk_at "l") => `(tactic| first|exact Nl rfl (by walk_at "u") (by walk_at "m") (by walk_at "t") (by walk_at "q") (by walk_at "w") (λ_ _ _ _ _ _ => (by walk_at "q")) (λ_ _ _ _ _ _ => (by walk_at "q")) (λ_ _ _ _ _ _ => (by walk_at "q")))
local macro_rules | `(tactic| walk_at "x") => `(tactic| first|((with_reducible show PX _ _ (.BoolOp _ [_] _) _ _); exact UL (by walk_at "q"))|((with_reducible show PX _ _ _ _ (b9 _)); exact UI _ (pv _))|((with_reducible show PX _ _ _ _ (fC _)); first|exact UQ|exact Xc|exact UK|exact UO|exact zP rfl T.Mv|exact zP rfl T.Rl)|((with_reducible show PX _ _ _ _ (c9 j5 _ _)); exact Xa (r := IB K) JP XZ (by walk_at "q") (by walk_at "q") (λ_ _ => rfl))|((with_reducible show PX _ _ _ _ (c9 B4 _ _)); exact mw Sy WI (by walk_at "q") (by walk_at "q"))|((with_reducible show PX _ _ _ _ (c9 v8 _ _)); exact mw (r := Gk K) SF WO (by walk_at "q") (by walk_at "q"))|((with_reducible show PX _ _ _ _ (c9 aj _ _)); exact mw NX TF (by walk_at "q") (by walk_at "q"))|((with_reducible show PX _ _ _ _ (c9 bJ _ _)); exact mw Sz WJ (by walk_at "q") (by walk_at "q"))|((with_reducible show PX _ _ _ _ (c9 oz _ _)); exact mw Vp WD (by walk_at "q") (by walk_at "q"))|((with_reducible show PX _ _ _ _ (c9 mB _ _)); exact mw (r := Gh K) Sw Tx (by walk_at "q") (by walk_at "q"))|((with_reducible show PX _ _ _ _ (c9 tF _ _)); exact mw Vr WG (by walk_at "q") (by walk_at "q"))|((with_reducible show PX _ _ _ _ (c9 FZ _ _)); exact mw Vq WE (by walk_at "q") (by walk_at "q"))|((with_reducible show PX _ _ _ _ (c9 O3 _ _)); exact uB (r := Gi K) (Je hr.units) TH (cH _) (by walk_at "q") (by walk_at "q"))|((with_reducible show PX _ _ _ _ (c9 mF _ _)); exact uB Qp TC (cH _) (by walk_at "q") (by walk_at "q"))|((with_reducible show PX _ _ _ _ (c9 nt _ _)); exact uB Gx Tz (cH _) (by walk_at "q") (by walk_at "q"))|((with_reducible show PX _ _ _ _ (c9 Qx _ _)); exact uB Xl Yc (cH _) (by walk_at "q") (by walk_at "q"))|((with_reducible show PX _ _ _ _ (aa Q3 _)); exact WY TQ WH (by walk_at "q"))|((with_reducible show PX _ _ _ _ (C2 _)); exact UJ (by walk_at "q"))|((with_reducible show PX _ _ _ _ (K9 _)); exact UP (by walk_at "q"))|((with_reducible show PX _ _ _ _ (jl _ _ _)); exact Xb (by walk_at "q") (by walk_at "q") (by walk_at "q"))|((with_reducible show PX _ _ _ _ (iF _ _)); exact UT (by walk_at "q") (by walk_at "q"))|((with_reducible show PX _ _ _ _ (Fn _ _)); exact WZ (by walk_at "q") (by walk_at "q"))|((with_reducible show PX _ _ _ _ (qA _)); exact UN (by walk_at "q"))|((with_reducible show PX _ _ _ _ (T9 _)); exact UR (by walk_at "q"))|((with_reducible show PX _ _ _ _ (oV _)); exact US (by walk_at "q"))|((with_reducible show PX _ _ _ _ (K8 _)); exact RH _ (pv _))|((with_reducible show PX _ _ _ _ (g0 _ _)); first|((with_reducible show PX _ _ _ _ (g0 J9 _)); exact kX (r := Nc K) KJ WL rfl (T.n _ (by decide)) (by decide +kernel) (by walk_at "q"))|((with_reducible show PX _ _ _ _ (g0 ph _)); exact kX Pw WQ rfl (T.n _ (by decide)) (by decide +kernel) (by walk_at "q"))|((with_reducible show PX _ _ _ _ (g0 qH _)); exact kX (r := Gj K) (KN hr.hd) TJ rfl (T.n _ (by decide)) (by decide +kernel) (by walk_at "q"))|((with_reducible show PX _ _ _ _ (g0 wV _)); exact kX (r := Gf K) (KI hr.hd) Tw rfl (T.n _ (by decide)) (by decide +kernel) (by walk_at "q"))|((with_reducible show PX _ _ _ _ (g0 rH _)); exact kX (r := zO K) Bn HR rfl (T.n _ (by decide)) (by decide +kernel) (by walk_at "q"))|((with_reducible show PX _ _ _ _ (g0 pS _)); exact qd (r := WV K) za Ri rfl (T.n _ (by decide)) (by decide +kernel) (by walk_at "q"))|((with_reducible show PX _ _ _ _ (g0 oN _)); exact qd (r := UD K) Bo TB rfl (T.n _ (by decide)) (by decide +kernel) (by walk_at "q"))|((with_reducible show PX _ _ _ _ (g0 intD _)); exact qd KL WM rfl (T.n _ (by decide)) (by decide +kernel) (by walk_at "q"))|exact Yr (by walk_at "o") hr (by walk_at "q"))|((with_reducible show PX _ _ _ _ (m9 _ _ _ _)); walk_at "l")|((with_reducible show PX _ _ _ _ (bM "int" _)); exact oE rfl OQ rfl (T.n _ (by decide)) (by decide +kernel) (by walk_at "q") (rM (v := .ty "int") rfl (T.n _ (by decide)) (by decide +kernel) rfl))|((with_reducible show PX _ _ _ _ (bM "bool" _)); exact oE rfl Kg rfl (T.n _ (by decide)) (by decide +kernel) (by walk_at "q") (rM (v := .ty "bool") rfl (T.n _ (by decide)) (by decide +kernel) rfl))|((with_reducible show PX _ _ _ _ (bM "tuple" _)); exact oE rfl Ht rfl (T.n _ (by decide)) (by decide +kernel) (by walk_at "q") (rM (v := .ty "tuple") rfl (T.n _ (by decide)) (by decide +kernel) rfl))|((with_reducible show PX _ _ _ _ (bM "list" _)); exact oE rfl Kf rfl (T.n _ (by decide)) (by decide +kernel) (by walk_at "q") (rM (v := .ty "list") rfl (T.n _ (by decide)) (by decide +kernel) rfl))|((with_reducible show PX _ _ _ _ (cK _ _ _ _)); exact Ng (r := UB K) Uq XX (by walk_at "q") (by walk_at "q") (by walk_at "q"))|((with_reducible show PX _ _ _ _ (oU la _ _)); exact Nj (by walk_at "q") (by walk_at "q"))|((with_reducible show PX _ _ _ _ (A1 _ _ _)); exact Nk rfl T.cn (T.na _ (by decide)) (by walk_at "q"))|((with_reducible show PX _ _ _ _ (F6 _ _ _)); exact Nh rfl T.cn (T.na _ (by decide)) (pv _))|((with_reducible show PX _ _ _ _ (gC _ _ _ _)); exact RJ rfl T.cn (T.na _ (by decide)) (pv _) (by walk_at "q"))|((with_reducible show PX _ _ _ _ (K4 _ _ M8 _ c8)); exact ID rfl T.cn (by walk_at "q") T.gG.m (tI T).h (hr.mono (by lia)) T.gG.b dg (pl := _))|((with_reducible show PX _ _ _ _ (K4 _ _ E6 _ _)); exact tq rfl T.cn (by walk_at "q") T.Q5.m (fR T).h (hr.mono (by lia)) T.Q5.b dg (by walk_at "q") (pl := _))|((with_reducible show PX _ _ _ _ (K4 _ _ N5 _ _)); exact tq rfl T.cn (by walk_at "q") T.cN.m (pI T).h (hr.mono (by lia)) T.cN.b dg (by walk_at "q") (pl := _))|((with_reducible show PX _ _ _ _ (K4 _ _ R4 _ _)); exact tq rfl T.cn (by walk_at "q") T.jQ.m (xg T).h (hr.mono (by lia)) T.jQ.b dg (by walk_at "q") (pl := _))|((with_reducible show PX _ _ _ _ (rY _ _ _)); exact RM T.cn T.iH.m (uG T).h (hr.mono (by lia)) rfl T.mc T.iH.b dg (by walk_at "q")))
local macro_rules | `(tactic| walk_at "y") => `(tactic| first|((with_reducible show M5 _ _ _ (i7 _ (m9 _ _ _ _))); exact Gp (by walk_at "n") rfl (by walk_at "v") rfl (by walk_at "u") (by walk_at "m") (by walk_at "t") (by walk_at "q") (by walk_at "w") (λ_ _ _ _ _ _ => (by walk_at "q")) (λ_ _ _ _ _ _ => (by walk_at "q")) (λ_ _ _ _ _ _ => (by walk_at "q")))|((with_reducible show M5 _ _ _ (R8 _ (m9 _ _ _ _))); exact Gn (by walk_at "n") rfl (by walk_at "v") rfl (by walk_at "u") (by walk_at "m") (by walk_at "t") (by walk_at "q") (by walk_at "w") (λ_ _ _ _ _ _ => (by walk_at "q")) (λ_ _ _ _ _ _ => (by walk_at "q")) (λ_ _ _ _ _ _ => (by walk_at "q")))|((with_reducible show M5 _ _ _ (i7 _ _)); exact Nr (by walk_at "n") rfl (by walk_at "v") (by walk_at "q"))|((with_reducible show M5 _ _ _ (u9 (oV _))); exact El (fr := false) (by walk_at "q"))|((with_reducible show M5 _ _ _ (u9 _)); exact El (fr := true) (by walk_at "q"))|((with_reducible show M5 _ _ _ (P4 _)); exact Nt _ (pv _))|((with_reducible show M5 _ _ _ (D1 _ _ _)); exact UZ (by walk_at "q") (by walk_at "q") (by walk_at "q"))|((with_reducible show M5 _ _ _ (F8 _ _ _)); exact Ny KY rfl (by walk_at "t") (by walk_at "q") (by walk_at "q") (by walk_at "q"))|((with_reducible show M5 _ _ _ (R8 _ _)); exact RZ (by walk_at "n") rfl (by walk_at "v") (by walk_at "q"))|((with_reducible show M5 _ _ _ (AK)); exact IL)|((with_reducible show M5 _ _ _ (iO _ _)); exact Nx _ (by walk_at "q"))|((with_reducible show M5 _ _ _ (fB _ _)); exact Sd _ (pv _) (by walk_at "q"))|((with_reducible show M5 _ _ _ (S6 _ _ _)); exact Nq _ (pv _) (by walk_at "q") (by walk_at "q"))|((with_reducible show M5 _ _ _ (ej _ _ _)); exact IH _ KY (by walk_at "q") (by walk_at "q"))|((with_reducible show M5 _ _ _ (J1 _)); exact IM (by walk_at "q"))|((with_reducible show M5 _ _ _ (lg)); exact IK)|((with_reducible show M5 _ _ _ (S7 _ _ _ _ _)); exact Nv T.cn (T.na _ (by decide)) (pv _) (by first|exact λ_ _ h => .inr h|exact λ_ _ h => .inl h) (by walk_at "q"))|((with_reducible show M5 _ _ _ (aW _ _ _ _ _)); exact Nu T.cn (T.na _ (by decide)) (pv _) (by walk_at "q") (by walk_at "q"))|((with_reducible show M5 _ _ _ (mG _ _ _ _)); exact Nw T.cn (T.na _ (by decide)) (pv _) (by walk_at "q")))
local macro_rules | `(tactic| walk_at "z") => `(tactic| first|((with_reducible show bF _ _ _ (fE _ _)); exact mK.pt (by walk_at "q"))|((with_reducible show bF _ _ _ (dR _ _)); exact mK.pt (by walk_at "q"))|((with_reducible show bF _ _ _ (cO _)); exact RU (by walk_at "q"))|((with_reducible show bF _ _ _ (j8 (c9 O3 _ _))); exact df (fr := true) (r := Gi K) (Je hr.units) TH (cH _) (by walk_at "q") (by walk_at "q"))|((with_reducible show bF _ _ _ (j8 (c9 V4 _ _))); exact df (fr := true) (r := Na K) (Vs hr.units) XY (cH _) (by walk_at "q") (by walk_at "q"))|((with_reducible show bF _ _ _ (j8 (c9 mF _ _))); exact df (fr := true) Qp TC (cH _) (by walk_at "q") (by walk_at "q"))|((with_reducible show bF _ _ _ (j8 (c9 nt _ _))); exact df (fr := true) Gx Tz (cH _) (by walk_at "q") (by walk_at "q"))|((with_reducible show bF _ _ _ (j8 (c9 gz _ _))); exact df (fr := true) Vw Ya (cH _) (by walk_at "q") (by walk_at "q"))|((with_reducible show bF _ _ _ (j8 (c9 cI _ _))); exact df (fr := true) Sv Rk (cH _) (by walk_at "q") (by walk_at "q"))|((with_reducible show bF _ _ _ (j8 (c9 tM _ _))); exact df (fr := true) (r := Nb K) (Vu hr.units) WK (cH _) (by walk_at "q") (by walk_at "q"))|((with_reducible show bF _ _ _ (j8 (c9 inD _ _))); exact df (fr := true) (r := Ej K false) Jd Yb (by with_unfolding_all rfl) (by walk_at "q") (by walk_at "q"))|((with_reducible show bF _ _ _ (j8 (c9 ql _ _))); exact df (fr := true) (r := Ej K true) zZ Rj (by with_unfolding_all rfl) (by walk_at "q") (by walk_at "q"))|exact RS (fr := true) (by walk_at "q"))
local macro_rules | `(tactic| walk_at "q") => `(tactic| first|(show PX _ _ _ _ _; walk_at "x")|((with_reducible show ek _ _ _ _ (c5 _ _)); exact NS (by walk_at "q") (by walk_at "q"))|exact Et|(show M5 _ _ _ _; walk_at "y")|(show fH _ [_] _ _; exact Nz (by walk_at "q"))|((with_reducible show fH _ _ _ (i6 _ _)); exact IP (by walk_at "q") (by walk_at "q"))|exact NA|(show bF _ _ _ _; walk_at "z")|(show mK _ (.BoolOp .And [_] _) _ _; exact Np (by walk_at "q"))|(show mK _ (.BoolOp .Or [_] _) _ _; exact RQ (by walk_at "q"))|((with_reducible show mK _ _ _ (fE _ _)); exact RR (by walk_at "q") (by walk_at "q"))|((with_reducible show mK _ _ _ (dR _ _)); exact UU (by walk_at "q") (by walk_at "q"))|((with_reducible show jZ _ _ _ _ _ (D7 I0 _)); exact Gu rfl (T.n _ (by decide)) (by walk_at "q"))|((with_reducible show jZ _ _ _ _ _ (D7 cD _)); exact Sk rfl (T.n _ (by decide)) (by walk_at "q"))|((with_reducible show jZ _ _ _ _ _ (D7 kq _)); exact NI rfl (T.n _ (by decide)) (by walk_at "q"))|((with_reducible show jZ _ _ _ _ _ (L8 _)); exact Sl (by walk_at "q"))|((with_reducible show PG _ _ (ay _)); exact Ep (by walk_at "n") rfl (by walk_at "v"))|((with_reducible show PG _ _ (AJ _ _ _)); exact Vf rfl (by walk_at "q"))|((with_reducible show KW _ _ (rX _ _)); exact NO (by walk_at "q") (by walk_at "q"))|exact Sn|exact IX|(show ky _ _ _ _; exact IW (by walk_at "q"))|exact NH|(show KU _ _ _ _; exact NG (fr := true) (by walk_at "q"))|((with_reducible show qK _ _ _ (eY _ _)); exact NT _ (pv _) (by walk_at "q"))|((with_reducible show qK _ _ _ (G9 _ _)); exact NU (by walk_at "q") (by walk_at "q"))|exact Su|((with_reducible show sU _ _ _ (G5 _ _ _ T4 _)); exact ip T.cn (pv _) T.cA.m (oF T).h (hr.mono (by lia)) T.cA.b dg (by walk_at "q") (pl := _))|((with_reducible show sU _ _ _ (G5 _ _ _ V8 _)); exact ip T.cn (pv _) T.cM.m (pP T).h (hr.mono (by lia)) T.cM.b dg (by walk_at "q") (pl := _))|((with_reducible show sU _ _ _ (G5 _ _ _ E6 _)); exact ip T.cn (pv _) T.Q5.m (fR T).h (hr.mono (by lia)) T.Q5.b dg (by walk_at "q") (pl := _))|((with_reducible show sU _ _ _ (G5 _ _ _ N5 _)); exact ip T.cn (pv _) T.cN.m (pI T).h (hr.mono (by lia)) T.cN.b dg (by walk_at "q") (pl := _))|((with_reducible show sU _ _ _ (G5 _ _ _ G8 _)); exact ip T.cn (pv _) T.lu.m (yW T).h (hr.mono (by lia)) T.lu.b dg (by walk_at "q") (pl := _))|((with_reducible show sU _ _ _ (G5 _ _ _ bu _)); exact ip T.cn (pv _) T.lr.m (yV T).h (hr.mono (by lia)) T.lr.b dg (by walk_at "q") (pl := _))|((with_reducible show sU _ _ _ (gD jJ _)); exact Nd (SG T).h (hr.mono (by lia)) rfl T.vn.m T.vn.F.kp T.vn.b dg (by walk_at "q")))
local macro_rules | `(tactic| walk_at "j") => `(tactic| exact Yv _ λ_ _ _ _ _ _ nd hr => ⟨_, by walk_at "q"⟩)
local macro_rules | `(tactic| walk_at "i") => `(tactic| exact Yu _ λ_ _ _ _ _ _ nd hr => ⟨_, by walk_at "q"⟩)
section
variable{P:A6}{w:t7}{K:i9}{mg:Str->Option e8}{base:Heap}{ad:Rh}(T:Txt K mg ad)
theorem sr:Ok P w mg base T.tW 1 (A8 K O4):=by delta O4 W0 W2;walk_at "j"
theorem Dz:Ok P w mg base T.HF 2 (A8 K U9):=by delta U9;walk_at "j"
theorem Oa:Ok P w mg base T.Td 2 (A8 K kL):=by delta kL;walk_at "j"
theorem qk:Ok P w mg base T.sC 3 (A8 K E9):=by delta E9 T5;walk_at "j"
theorem NZ:Ok P w mg base T.Tc 1 (A8 K fX):=by delta fX;walk_at "j"
theorem Dp:Ok P w mg base T.Hx 4 (A8 K gS):=by delta gS mf;walk_at "j"
theorem Ad:Ok P w mg base T.DJ 2 (A8 K eV):=by delta eV R3 R5;walk_at "j"
theorem Dl:Ok P w mg base T.Hw 1 (A8 K gR):=by delta gR;walk_at "j"
theorem Gz:Ok P w mg base T.Kr 1 (A8 K jI):=by delta jI mW;walk_at "j"
theorem sv:Ok P w mg base T.tX 1 (A8 K U1):=by delta U1 P0;walk_at "j"
theorem Jh:Ok P w mg base T.OY 1 (A8 K fJ):=by delta fJ pF;walk_at "j"
theorem fR:Ok P w mg base T.Q5 1 (A8 K E6):=by delta E6 aS;walk_at "j"
theorem pP:Ok P w mg base T.cM 4 (jg K V8):=by delta V8 Y4 Y3 F9 G4 Y2 Y1;walk_at "i"
theorem oF:Ok P w mg base T.cA 4 (jg K T4):=by delta T4 W9 P1 W8 W7;walk_at "i"
theorem uG:Ok P w mg base T.iH 5 (jg K Z3):=by delta Z3 bX bW fN fM;walk_at "i"
theorem pI:Ok P w mg base T.cN 2 (A8 K N5):=by delta N5;walk_at "j"
theorem tI:Ok P w mg base T.gG 2 (A8 K M8):=by delta M8 dU;walk_at "j"
theorem xg:Ok P w mg base T.jQ 2 (A8 K R4):=by delta R4 gZ;walk_at "j"
theorem yW:Ok P w mg base T.lu 1 (jg K G8):=by delta G8 bC;walk_at "i"
theorem yV:Ok P w mg base T.lr 3 (jg K bu):=by delta bu bB dO bx;walk_at "i"
theorem GI:Ok P w mg base T.Kz 3 (A8 K jL):=by delta jL jc;walk_at "j"
theorem Jk:Ok P w mg base T.Pc 4 (A8 K fK):=by delta fK Y6;walk_at "j"
theorem Ob:Ok P w mg base T.Te 3 (A8 K fY):=by delta fY gj;walk_at "j"
theorem Ji:Ok P w mg base T.OZ 1 (A8 K md):=by delta md;walk_at "j"
theorem yU:Ok P w mg base T.Ba 2 (A8 K ah):=by delta ah Z4;walk_at "j"
theorem SG:Ok P w mg base T.vn 4 (jg K jJ):=by delta jJ;walk_at "i"
theorem Jl:Ok P w mg base T.Pd 3 (A8 K aQ):=by delta aQ pG kG;walk_at "j"
theorem Dq:Ok P w mg base T.Hy 3 (A8 K gT):=by delta gT bw;walk_at "j"
theorem Jg:Ok P w mg base T.OX 3 (A8 K fI):=by delta fI kF;walk_at "j"
theorem Jj:Ok P w mg base T.Pa 7 (A8 K aP):=by delta aP aK Y5 kD;walk_at "j"
theorem Js:Ok P w mg base T.Pk 1 (A8 K B1):=by delta B1;walk_at "j"
theorem Jp:Ok P w mg base T.Pg 1 (A8 K bR):=by delta bR hG hV;walk_at "j"
theorem Od:Ok P w mg base T.Tf 2 (A8 K dN):=by delta dN;walk_at "j"
theorem GC:Ok P w mg base T.Ku 2 (A8 K gd):=by delta gd;walk_at "j"
theorem Jq:Ok P w mg base T.Ph 3 (A8 K bS):=by delta bS pH;walk_at "j"
theorem GH:Ok P w mg base T.Ky 1 (A8 K gi):=by delta gi;walk_at "j"
theorem Ac:Ok P w mg base T.DI 2 (A8 K cx):=by delta cx jW;walk_at "j"
theorem yT:Ok P w mg base T.AZ 1 (A8 K da):=by delta da;walk_at "j"
theorem GA:Ok P w mg base T.Ks 1 (A8 K fZ):=by delta fZ;walk_at "j"
theorem tH:Ok P w mg base T.vo 2 (A8 K W6):=by delta W6;walk_at "j"
theorem xf:Ok P w mg base T.yZ 3 (A8 K cv):=by delta cv gY;walk_at "j"
theorem GD:Ok P w mg base T.Kv 2 (A8 K E5):=by delta E5;walk_at "j"
theorem Jt:Ok P w mg base T.Pl 3 (A8 K iJ):=by delta iJ;walk_at "j"
theorem Dx:Ok P w mg base T.HD 2 (A8 K bU):=by delta bU mn mj;walk_at "j"
theorem Jo:Ok P w mg base T.Pf 3 (A8 K cZ):=by delta cZ kH hJ;walk_at "j"
theorem Aa:Ok P w mg base T.DG 3 (A8 K aR):=by delta aR fj;walk_at "j"
theorem GF:Ok P w mg base T.Kw 4 (A8 K jK):=by delta jK iZ ja;walk_at "j"
theorem GG:Ok P w mg base T.Kx 5 (A8 K gh):=by delta gh jb eX;walk_at "j"
theorem GB:Ok P w mg base T.Kt 4 (A8 K bG):=by delta bG iY;walk_at "j"
theorem Ab:Ok P w mg base T.DH 4 (A8 K H0):=by delta H0 jV jU;walk_at "j"
theorem Dw:Ok P w mg base T.HC 4 (A8 K gW):=by delta gW ia mi;walk_at "j"
theorem Dv:Ok P w mg base T.HB 5 (A8 K gU):=by delta gU hW gX mh;walk_at "j"
theorem Dr:Ok P w mg base T.Hz 6 (A8 K J4):=by delta J4;walk_at "j"
theorem Du:Ok P w mg base T.HA 3 (A8 K bQ):=by delta bQ hU;walk_at "j"
theorem Jn:Ok P w mg base T.Pe 3 (A8 K fL):=by delta fL dP;walk_at "j"
theorem Dy:Ok P w mg base T.HE 3 (A8 K bV):=by delta bV bA;walk_at "j"
theorem Jr:Ok P w mg base T.Pj 3 (A8 K bT):=by delta bT;walk_at "j"
theorem Jm:Ok P w mg base T.Xs 8 (A8 K mN):=by delta mN kN kO oh og gk;walk_at "j"
end
theorem all_mk{l:Ce}{w:t7}{h:Heap}(X:K.In h)(G:h.Ns S9 mg)(hfa:mg "law" = some (.ref fa))
  {f0 f1 f2 f3 f4 f5 f6 f7 f8 f9 f10 f11 f12 f13 f14 f15 f16 f17 f18 f19 f20 f21 f22 f23 f24 f25 f26 f27 f28 f29 f30 f31 f32 f33 f34 f35 f36 f37 f38 f39 f40 f41 f42 f43 f44 f45 f46 f47 f48 f49 f50 f51 f52 f53 f54 f55 f56 f57 C mD oO:Addr} {d0 d1 d2 d3 d4 d5 d6 d7 d8 d9 d10 d11 d12 d13 d14 d15 d16 d17 d18 d19 d20 d21 d22 d23 d24 d25 d26 d27 d28 d29 d30 d31 d32 d33 d34 d35 d36 d37 d38 d39 d40 d41 d42 d43 d44 d45 d46 d47 d48 d49 d50 d51 d52 d53 d54 d55 d56 d57:M7}
  (aC:cV K S9 "Table" = some (some (.ref C)))
  (a0:Nf K "common_divisor" (top 4) f0 d0)
  (a1:Nf K "fraction" (top 5) f1 d1)
  (a2:Nf K "times" (top 6) f2 d2)
  (a3:Nf K "common_multiple" (top 10) f3 d3)
  (a4:Nf K "whole" (top 11) f4 d4)
  (a5:Nf K "scale_of" (top 12) f5 d5)
  (a6:Nf K "column_of" (top 13) f6 d6)
  (a7:Nf K "unit_row" (top 14) f7 d7)
  (a8:Nf K "product" (top 15) f8 d8)
  (a9:Nf K "column_product" (top 16) f9 d9)
  (a10:Nf K "turned" (top 17) f10 d10)
  (a11:Nm K C "__init__" "Table.__init__" (inClass (top 18) 0) f11 d11)
  (a12:Nm K C "set_weights" "Table.set_weights" (inClass (top 18) 1) f12 d12)
  (a13:Nm K C "set_limits" "Table.set_limits" (inClass (top 18) 2) f13 d13)
  (a14:Nm K C "first_prices" "Table.first_prices" (inClass (top 18) 3) f14 d14)
  (a15:Nm K C "rest" "Table.rest" (inClass (top 18) 4) f15 d15)
  (a16:Nm K C "amounts" "Table.amounts" (inClass (top 18) 5) f16 d16)
  (a17:Nm K C "paces" "Table.paces" (inClass (top 18) 6) f17 d17)
  (a18:Nm K C "flip" "Table.flip" (inClass (top 18) 7) f18 d18)
  (a19:Nm K C "turn" "Table.turn" (inClass (top 18) 8) f19 d19)
  (a20:Nf K "gain_of" (top 19) f20 d20)
  (a21:Nf K "moving" (top 20) f21 d21)
  (a22:Nf K "stops" (top 21) f22 d22)
  (a23:Nf K "sooner" (top 22) f23 d23)
  (a24:Nf K "first_stop" (top 23) f24 d24)
  (a25:Nf K "move" (top 24) f25 d25)
  (a26:Nf K "mix_of" (top 25) f26 d26)
  (a27:Nf K "price_of" (top 26) f27 d27)
  (a28:Nf K "way_of" (top 27) f28 d28)
  (a29:Nf K "solved" (top 28) f29 d29)
  (a30:Nf K "_law_draw" (top 30) f30 d30)
  (a31:Nf K "_law_norm" (top 31) f31 d31)
  (a32:Nf K "_law_sum" (top 32) f32 d32)
  (a33:Nf K "_law_times" (top 33) f33 d33)
  (a34:Nf K "_law_more" (top 34) f34 d34)
  (a35:Nf K "_law_below" (top 35) f35 d35)
  (a36:Nf K "_law_cheaper" (top 36) f36 d36)
  (a37:Nf K "_law_negative" (top 37) f37 d37)
  (a38:Nf K "_law_whole" (top 38) f38 d38)
  (a39:Nf K "_law_is_fraction" (top 39) f39 d39)
  (a40:Nf K "_law_is_triple" (top 40) f40 d40)
  (a41:Nf K "_law_small" (top 41) f41 d41)
  (a42:Nf K "_law_cost" (top 42) f42 d42)
  (a43:Nf K "_law_firsts" (top 43) f43 d43)
  (a44:Nf K "_law_rows" (top 44) f44 d44)
  (a45:Nf K "_law_product" (top 45) f45 d45)
  (a46:Nf K "_law_rests" (top 46) f46 d46)
  (a47:Nf K "_law_floor" (top 47) f47 d47)
  (a48:Nf K "_law_total" (top 48) f48 d48)
  (a49:Nf K "_law_is_list" (top 49) f49 d49)
  (a50:Nf K "_law_is_mix" (top 50) f50 d50)
  (a51:Nf K "_law_is_way" (top 51) f51 d51)
  (a52:Nf K "_law_walked" (top 52) f52 d52)
  (a53:Nf K "_law_rights" (top 53) f53 d53)
  (a54:Nf K "_law_tops" (top 54) f54 d54)
  (a55:Nf K "_law_column" (top 55) f55 d55)
  (a56:Nf K "_law_gain" (top 56) f56 d56)
  (a57:Nf K "law" (top 57) f57 d57)
  (hc:(qW K C Str.empty=true/\qZ K C=true)/\Cv K C=true/\aq K (.ref C) "__setattr__" = some (some (.builtin "object.__setattr__"))) (mc:Ci K C=true) (kc:iR K (.ref C)=true) (na:Al (V6 K C) ["scales","columns","multiples","weights","unit","rights","limits","chosen","full","size","inverse","prices"])
  (z:Al (λs=>cV K S9 s=some none) ["abs","all","bool","enumerate","int","isinstance","len","list","range","sorted","sum","tuple","zip"])
  (JO:cV K S9 "NOUGHT" = some (some (.ref mD)))
  (JM:K.lookup mD=some ⟨.type "tuple",JN,.seq #[(.int 0 DE),(.int 1 DD)] JL,JJ⟩)
  (OH:cV K S9 "PARTS" = some (some (.ref oO)))
  (OE:K.lookup oO=some ⟨.type "tuple",OG,.seq #[(.int 0 He),(.int 1 Hd),(.int 2 Ha)] OC,OA⟩) :
  ∃fd:M7,(∀(s:i5) (v:e8),lE s fd ⟨[v],[]⟩ [("_law_script",v)])/\∀base:Heap,K.In base->base.Ns S9 mg->Y0 l.prog w K mg base om 8 fa fd ["_law_script"] (A8 K mN):=by
 have e:=hfa.symm.trans (vN X G a57.a);cases e
 let ad:Rh:=⟨λi=>[f0,f1,f2,f3,f4,f5,f6,f7,f8,f9,f10,f11,f12,f13,f14,f15,f16,f17,f18,f19,f20,f21,f22,f23,f24,f25,f26,f27,f28,f29,f30,f31,f32,f33,f34,f35,f36,f37,f38,f39,f40,f41,f42,f43,f44,f45,f46,f47,f48,f49,f50,f51,f52,f53,f54,f55,f56,fa].getD i fa,λi=>[d0,d1,d2,d3,d4,d5,d6,d7,d8,d9,d10,d11,d12,d13,d14,d15,d16,d17,d18,d19,d20,d21,d22,d23,d24,d25,d26,d27,d28,d29,d30,d31,d32,d33,d34,d35,d36,d37,d38,d39,d40,d41,d42,d43,d44,d45,d46,d47,d48,d49,d50,d51,d52,d53,d54,d55,d56,d57].getD i d57,.ref mD,.ref mD,.ref oO,.ref oO,C⟩
 have g {n:Str} {f:Addr}:=@PySem.W.mg_of K h mg n (.ref f) X G;have T:Txt K mg ad:=⟨q9 a0.r (g a0.a),q9 a1.r (g a1.a),q9 a2.r (g a2.a),q9 a3.r (g a3.a),q9 a4.r (g a4.a),q9 a5.r (g a5.a),q9 a6.r (g a6.a),q9 a7.r (g a7.a),q9 a8.r (g a8.a),q9 a9.r (g a9.a),q9 a10.r (g a10.a),q9 a11.r ⟨mc,a11.a,a11.i,kc⟩,q9 a12.r a12.mt,q9 a13.r a13.mt,q9 a14.r a14.mt,q9 a15.r a15.mt,q9 a16.r a16.mt,q9 a17.r a17.mt,q9 a18.r a18.mt,q9 a19.r a19.mt,q9 a20.r (g a20.a),q9 a21.r (g a21.a),q9 a22.r (g a22.a),q9 a23.r (g a23.a),q9 a24.r (g a24.a),q9 a25.r (g a25.a),q9 a26.r (g a26.a),q9 a27.r (g a27.a),q9 a28.r (g a28.a),q9 a29.r (g a29.a),q9 a30.r (g a30.a),q9 a31.r (g a31.a),q9 a32.r (g a32.a),q9 a33.r (g a33.a),q9 a34.r (g a34.a),q9 a35.r (g a35.a),q9 a36.r (g a36.a),q9 a37.r (g a37.a),q9 a38.r (g a38.a),q9 a39.r (g a39.a),q9 a40.r (g a40.a),q9 a41.r (g a41.a),q9 a42.r (g a42.a),q9 a43.r (g a43.a),q9 a44.r (g a44.a),q9 a45.r (g a45.a),q9 a46.r (g a46.a),q9 a47.r (g a47.a),q9 a48.r (g a48.a),q9 a49.r (g a49.a),q9 a50.r (g a50.a),q9 a51.r (g a51.a),q9 a52.r (g a52.a),q9 a53.r (g a53.a),q9 a54.r (g a54.a),q9 a55.r (g a55.a),q9 a56.r (g a56.a),q9 a57.r (g a57.a),⟨aC,⟨hc.1.1,hc.1.2,hc.2.1,hc.2.2⟩⟩,g aC,λ_ m=>na.at m,λ_ m=>PySem.W.mg_none_of X G (z.at m),yH (vs:=[.int (0),.int (1)]) (vN X G JO) JM (by simp) (.cons ⟨_,rfl⟩ (.cons ⟨_,rfl⟩ .nil)) λH=>(.cons (.int _) (.cons (.int _) .nil)),yH (vs:=[.int (0),.int (1),.int (2)]) (vN X G OH) OE (by simp) (.cons ⟨_,rfl⟩ (.cons ⟨_,rfl⟩ (.cons ⟨_,rfl⟩ .nil))) λH=>(.cons (.int _) (.cons (.int _) (.cons (.int _) .nil)))⟩
 obtain⟨l',c',k'⟩:=a57.r;exact⟨_,λs v=>.of_eq rfl,λbase _ _=>(Jm T).h⟩
theorem walk{l:Ce}{q:A6}{loose:List Str}{XP:(Str->Option e8)->Heap->Prop}{YP:t7->Heap->Prop}{d:DefRec}{K:Params->i9}(hL:∀ns:List Int,ns.length<=63->mN [.list (ns.map .int)]=some (.dat (.bool true)))(hn:l.most=some 63)(hdf:d.params.defaults=[])
  (hY:∀(w:t7) (h:Heap),YP w h->(K w.params).In h)
  (F:∀(w:t7) (mg:Str->Option e8) (fa:Addr) (h:Heap),(K w.params).In h->h.Ns S9 mg->mg d.name=some (.ref fa) ->
   ∃fd:M7,(∀(s:i5) (u:e8),lE s fd ⟨[u],[]⟩ [("_law_script",u)])/\∀base:Heap,(K w.params).In base->base.Ns S9 mg->Y0 l.prog w (K w.params) mg base om 8 fa fd ["_law_script"] (A8 (K w.params) mN)) :
  PySem.W.WalkO q loose XP YP l.row.toRowW d [] (λf vs=>BC f vs) :=
 L2.DR (n:=63) (k:=8) (x:="_law_script") (CX:=λ_=>om) (sp:=λw=>A8 (K w.params) mN) hn (by decide) hdf ⟨rfl,by decide,by decide⟩ hY F (λ_ _ a ns hl _ hS=>⟨[],[.list (ns.map .int)],_,λa h=>absurd h (by simp),.cons (.lst (Rt hS) (AW ns)) .nil,hL ns hl,λv H' _ r=>SY r⟩) λ_ _ _ _ _ z=>z
end
end Law
local macro_rules | `(tactic| walk_at "k") => `(tactic| (refine' Law.Rw.mk ?l ?c ?k; (case l => k_is); (case c => k_is); (case k => k_is)))
local macro_rules | `(tactic| walk_at "p") => `(tactic| exact⟨by k_is, by walk_at "k"⟩)
local macro_rules | `(tactic| walk_at "o") => `(tactic| exact⟨by k_is, by k_is, by walk_at "k"⟩)
local macro_rules | `(tactic| walk_at "a") => `(tactic| repeat first|exact .n|refine .c (by show _ = _; k_is) ?_)
def PySem.W.Fast.tw6108320912981592233 : Unit := ()
def PySem.W.Fast.tw4757280020846571803 : Unit := ()
def PySem.W.Fast.tw2215876246411822522 : Unit := ()
def PySem.W.Fast.tw3695278518524567000 : Unit := ()
def PySem.W.Fast.tw1557688255378514742 : Unit := ()
def PySem.W.Fast.tw3648467646314026874 : Unit := ()
def PySem.W.Fast.tw11333080380778363840 : Unit := ()
def PySem.W.Fast.tw10065952680339647086 : Unit := ()
def PySem.W.Fast.tw12406816668793549859 : Unit := ()
def PySem.W.Fast.tw9126240184735105149 : Unit := ()
def PySem.W.Fast.tw17437566707963068172 : Unit := ()
def PySem.W.Fast.tw3044283172658285687 : Unit := ()
def PySem.W.Fast.tw14094625369410767947:Unit:=()
def PySem.W.Fast.tw9966327942007756654:Unit:=()
def PySem.W.Fast.tw17530291927669996267:Unit:=()
def PySem.W.Fast.tw1089925657763656733:Unit:=()
def PySem.W.Fast.tw209884945101291983:Unit:=()
def PySem.W.Fast.tw5417075735883578595:Unit:=()
def PySem.W.Fast.tw10893921462630228396:Unit:=()
def PySem.W.Fast.tw18231493099962038027:Unit:=()
def PySem.W.Fast.tw3505872369457404378:Unit:=()
def PySem.W.Fast.tw16159536793462052590:Unit:=()
def PySem.W.Fast.tw10350258141262272835:Unit:=()
def PySem.W.Fast.tw726969951762560376:Unit:=()
def PySem.W.Fast.tw8859142944675424761:Unit:=()
def PySem.W.Fast.tw5258437322732040232:Unit:=()
def PySem.W.Fast.tw4691781617654405502:Unit:=()
def PySem.W.Fast.tw6384925561202466650:Unit:=()
def PySem.W.Fast.tw8153333971190693938:Unit:=()
def PySem.W.Fast.tw13355564855970328331:Unit:=()
def PySem.W.Fast.tw3163998134603082297:Unit:=()
def PySem.W.Fast.tw1419289228840944042:Unit:=()
def PySem.W.Fast.tw4644155027400095044:Unit:=()
def PySem.W.Fast.tw4439670415271908775:Unit:=()
def PySem.W.Fast.tw1086330268423352394:Unit:=()
def PySem.W.Fast.tw6211791852397710840:Unit:=()
def PySem.W.Fast.tw2115686221287478960:Unit:=()
def PySem.W.Fast.tw9248921176948323844:Unit:=()
def PySem.W.Fast.tw486378570617259718:Unit:=()
def PySem.W.Fast.tw17040454093477466000:Unit:=()
def PySem.W.Fast.tw17885108977179504169:Unit:=()
def PySem.W.Fast.tw12704755603422710045:Unit:=()
def PySem.W.Fast.tw7264201504797264646:Unit:=()
def PySem.W.Fast.tw766008903981641330:Unit:=()
def PySem.W.Fast.tw14501185008212263617:Unit:=()
def PySem.W.Fast.tw7785982145819542611:Unit:=()
def PySem.W.Fast.tw2854012107210602378:Unit:=()
def PySem.W.Fast.tw15561008375765707687:Unit:=()
def PySem.W.Fast.tw11753843088868569352:Unit:=()
def PySem.W.Fast.tw923228987134147618:Unit:=()
def PySem.W.Fast.tw1484297989474199869:Unit:=()
def PySem.W.Fast.tw10076062059979979182:Unit:=()
def PySem.W.Fast.tw8527537250417457929:Unit:=()
def PySem.W.Fast.tw13125631663681039245:Unit:=()
def PySem.W.Fast.tw1695592454552297987:Unit:=()
def PySem.W.Fast.tw5349203122586247703:Unit:=()
def PySem.W.Fast.tw8664163340264363070:Unit:=()
def PySem.W.Fast.tw12043587570589288607:Unit:=()
def PySem.W.Fast.tw275631823951585279:Unit:=()
def PySem.W.Fast.tw6595176685232168933:Unit:=()
def PySem.W.Fast.tw18279801506094005138:Unit:=()
def PySem.W.Fast.tw1227834615151977456:Unit:=()
def PySem.W.Fast.tw13338449416394286475:Unit:=()
def PySem.W.Fast.tw58319549084330382:Unit:=()
def PySem.W.Fast.tw12897651335491699783:Unit:=()
def PySem.W.Fast.tw866999305027758207:Unit:=()
def PySem.W.Fast.tw17300423771272638729:Unit:=()
def PySem.W.Fast.tw13993417873076488988:Unit:=()
def PySem.W.Fast.tw18290556129029837954:Unit:=()
def PySem.W.Fast.tw2356059512401948696:Unit:=()
def PySem.W.Fast.tw8919900810819059607:Unit:=()
def PySem.W.Fast.tw16190077002429295454:Unit:=()
def PySem.W.Fast.tw12790852173109377983:Unit:=()
def PySem.W.Fast.tw2152202350480051276:Unit:=()
def PySem.W.Fast.tw7532284797231085295:Unit:=()
def PySem.W.Fast.tw2777482676637794269:Unit:=()
def PySem.W.Fast.tw8324812221060432551:Unit:=()
def PySem.W.Fast.tw17869711226907731325:Unit:=()
def PySem.W.Fast.tw14016915568228778859:Unit:=()
def PySem.W.Fast.tw1712210415229672088:Unit:=()
def PySem.W.Fast.tw16404055276337058252:Unit:=()
def PySem.W.Fast.tw9433232929405070936:Unit:=()
def PySem.W.Fast.tw17219469479984663644:Unit:=()
def PySem.W.Fast.tw7442097739792207711:Unit:=()
def PySem.W.Fast.tw10958675821661716174:Unit:=()
def PySem.W.Fast.tw18288389764756474564:Unit:=()
def PySem.W.Fast.tw6406721414016348786:Unit:=()
def PySem.W.Fast.tw8261244314388141846:Unit:=()
def PySem.W.Fast.tw15088063640644747686:Unit:=()
def PySem.W.Fast.tw4872494429901510866:Unit:=()
def PySem.W.Fast.tw10468444652903376203:Unit:=()
def PySem.W.Fast.tw13391104704711135321:Unit:=()
def PySem.W.Fast.tw2102629311449377245:Unit:=()
def PySem.W.Fast.tw812026801623351344:Unit:=()
def PySem.W.Fast.tw16308101250224065904:Unit:=()
def PySem.W.Fast.tw11398335681248857337:Unit:=()
def PySem.W.Fast.tw881057997455548139:Unit:=()
def PySem.W.Fast.tw3822258925218714886:Unit:=()
def PySem.W.Fast.tw10457368017319972307:Unit:=()
def PySem.W.Fast.tw6149243998544234775:Unit:=()
def PySem.W.Fast.tw10790330829255180337:Unit:=()
def PySem.W.Fast.tw18042524869020697042:Unit:=()
def PySem.W.Fast.tw1122406777750946107:Unit:=()
def PySem.W.Fast.tw5298555747356325668:Unit:=()
def PySem.W.Fast.tw2980818534647624348:Unit:=()
def PySem.W.Fast.tw780019357038204255:Unit:=()
def PySem.W.Fast.tw1260517477374058294:Unit:=()
def PySem.W.Fast.tw13745217578542936031:Unit:=()
def PySem.W.Fast.tw8099936153691390671:Unit:=()
def PySem.W.Fast.tw918855767251029571:Unit:=()
def PySem.W.Fast.tw4180854407945556678:Unit:=()
def PySem.W.Fast.tw14164258320143336789:Unit:=()
def PySem.W.Fast.tw13163941989981161731:Unit:=()
def PySem.W.Fast.tw14334867073695724497:Unit:=()
def PySem.W.Fast.tw10990229448043541742:Unit:=()
def PySem.W.Fast.tw5964839806927616482:Unit:=()
def PySem.W.Fast.tw13032414047274189980:Unit:=()
def PySem.W.Fast.tw15575431101924961758:Unit:=()
def PySem.W.Fast.tw13091144097052318967:Unit:=()
def PySem.W.Fast.tw6526231179659975564:Unit:=()
def PySem.W.Fast.tw16232757322008933204:Unit:=()
def PySem.W.Fast.tw11390094862449731735:Unit:=()
def PySem.W.Fast.tw6745168567918840089:Unit:=()
def PySem.W.Fast.tw10426058428120308473:Unit:=()
def PySem.W.Fast.tw10648104636018953117:Unit:=()
def PySem.W.Fast.tw17923448613046249039:Unit:=()
def PySem.W.Fast.tw15674300203624209301:Unit:=()
def PySem.W.Fast.tw1519439092957867166:Unit:=()
def PySem.W.Fast.tw11666494204494560671:Unit:=()
def PySem.W.Fast.tw13013124639616951521:Unit:=()
def PySem.W.Fast.tw15891167246312389947:Unit:=()
def PySem.W.Fast.tw5920025748531820934:Unit:=()
def PySem.W.Fast.tw1546621374527292806:Unit:=()
def PySem.W.Fast.tw9551501551288152983:Unit:=()
def PySem.W.Fast.tw6529380882409639067:Unit:=()
def PySem.W.Fast.tw8776534558145910520:Unit:=()
def PySem.W.Fast.tw15340687723711070539:Unit:=()
def PySem.W.Fast.tw12171158049058349358:Unit:=()
def PySem.W.Fast.tw5711388143025502660:Unit:=()
def PySem.W.Fast.tw16573531519883327849:Unit:=()
def PySem.W.Fast.tw12921028053929522749:Unit:=()
def PySem.W.Fast.tw4568202705208525147:Unit:=()
def PySem.W.Fast.tw16170519280384299491:Unit:=()
def PySem.W.Fast.tw15085509127733932237:Unit:=()
def PySem.W.Fast.tw16260028526509683372:Unit:=()
def PySem.W.Fast.tw1513760899002171277:Unit:=()
def PySem.W.Fast.tw2299564027451230682:Unit:=()
def PySem.W.Fast.tw283782721280518174:Unit:=()
def PySem.W.Fast.tw5234809764376981150:Unit:=()
open PySem PySem.W PyProof.Rows
set_option maxRecDepth 100000 in
set_option maxHeartbeats 0 in
theorem PySem.Challenge.cw_sunstore_k34_endless_ones_holds : PySem.Challenge.rw_sunstore_k34_endless_ones.Holds := by
 w_on;o_law;k_head;(case hw=>w_witness2)
 k_fill
 refine Law.walk (l:=PySem.Challenge.rw_sunstore_k34_endless_ones) Law.Oy rfl rfl (λw h Y=>PySem.W.kIn_of Y) ?F
 case F =>
  intro w mg fa h KX G hmg;exact Law.all_mk KX G hmg (by k_is) (by walk_at "p") (by walk_at "p") (by walk_at "p") (by walk_at "p") (by walk_at "p") (by walk_at "p") (by walk_at "p") (by walk_at "p") (by walk_at "p") (by walk_at "p") (by walk_at "p") (by walk_at "o") (by walk_at "o") (by walk_at "o") (by walk_at "o") (by walk_at "o") (by walk_at "o") (by walk_at "o") (by walk_at "o") (by walk_at "o") (by walk_at "p") (by walk_at "p") (by walk_at "p") (by walk_at "p") (by walk_at "p") (by walk_at "p") (by walk_at "p") (by walk_at "p") (by walk_at "p") (by walk_at "p") (by walk_at "p") (by walk_at "p") (by walk_at "p") (by walk_at "p") (by walk_at "p") (by walk_at "p") (by walk_at "p") (by walk_at "p") (by walk_at "p") (by walk_at "p") (by walk_at "p") (by walk_at "p") (by walk_at "p") (by walk_at "p") (by walk_at "p") (by walk_at "p") (by walk_at "p") (by walk_at "p") (by walk_at "p") (by walk_at "p") (by walk_at "p") (by walk_at "p") (by walk_at "p") (by walk_at "p") (by walk_at "p") (by walk_at "p") (by walk_at "p") (by walk_at "p") ⟨⟨by k_is,by k_is⟩,by k_is,by k_is⟩ (by k_is) (by k_is) (by walk_at "a") (by walk_at "a") (by k_is) (by k_is) (by k_is) (by k_is)
