import PyProof.Rows.All
import Wide.All
import OpenK.AllK
import Wide.FinOn
import Lean
import PyProof.EqAt
import PyProof.EqKinds
import PyProof.TupleCall
import PySem.Challenge.RW_sunstore_k33_whole_solved_and_borne_out
set_option compiler.extract_closed false
set_option Elab.async false
set_option linter.all false
set_option maxRecDepth 100000
noncomputable section
open Option renaming bind_some->i7,map_some->mO,map_eq_some_iff->Eb,getD_some->DC,getD_none->Nd,bind_none->MW,map_none->MM
open PySem renaming PyData->c5,Value->c8,Shared->h8,starEach->j4,wpAny_pure->n9,sizeLine->B2,Program->B1,World->t9,Around->A2,attributeBase->V8,backTo->A9,mainGlobals->T8,foldedSetIterable->eu,FuncData->O0,compareOp->V5,wpAny_field->bx,keywordEach->cq,wpAny_callSpecial?_slot->qx,bootBuiltins->ej,swapsWith->aK,mem_of_lookup->kz,binaryOp->U1,wpAny_call_entry->kq,wpAny_mono->cG,backToKw->aw,Keyword->W8,wpAny_newObj_type->mX,wpAny_seqItems->ki,wpAny_setField_rec->pG,wpAny_passesOwn->mS,wpAny_holding->kh,wpAny_truthy_bool->pF,sizeLine_eq->iu,cellsFrom->fI,standAt->cD,IsPair->aP,getMethod->ip,Scope->Y4,assignEach->jY,behindInMarks->pA,sliceBounds->mJ,wpAny_Call_Name_kw->xu,NameKind->ik,notedBy->ic,wpAny_execs_nil->xo,letOwnedTupleGo->xn,IsPart->fH,call_meets->oY,wpAny_rule->oX,IsZip->cC,wpAny_updateSeq_pair->DX,callerA->jX,PassesOwn->oW,pushCells->oV,wpAny_attempt->wY,wpAny_onRaise->wX,wpAny_pyIter_list->DJ,BindsTo->mE,getItem->mD,pyNext->jW,rawInt->jV,codeAny_mono->wU,concat_meets->wR,noFill_tuple_add->DG,compEnvC->oU,compPost->rS,natAbs_fdiv_le->NM,wpAny_standAt->Dl,swapsWithSole->Dk,swappedStores->Dj,seq_tuple_add->Dh,Within->CZ,wpAny_typeOf->CV,seqIndex_neg->CU,call->CK
open PySem.W renaming Frag->i5,findIn->az,emptyDict->lB,keepIn->fL,nsIn->dF,instObj->kn,fnOf->iw,kia_one->mP,kitOne->mN,hasDictIn->sr,plainGet->sj,KasT->pk,any_some->xq,looks_findIn->DY,plainGet_of->DU,lookIn->xg,InstAt->xf,codeIn->xc,callWith_K->DT,mg_of->wZ,methodObj->DP,plainOver->DN,specialIn->DM,isFn->wW,kas_sort->DE,takerIn->DA,makesIn->Dz,OpenLaw->Dx,findObj->Dw,cellsFrom_some->NY,methodCall_KW->NR,kas_descPart->NK,mroIn->Di,kas_tail3->Nk,kas_count->Nj,handedIn->Nh,takesIn->MR,kas_rev->MO
open List renaming mem_cons_of_mem->A0,mem_cons_self->B7,map_cons->o5,getElem?_eq_getElem->G0,replicate->v5,getD_eq_getElem?_getD->O2,mem_append_right->M9,getElem?_cons_succ->R4,range->v8,length_map->F9,size_toArray->L4,getElem?_map->P5,length_cons->O1,set_cons_zero->V9,getElem?_set_ne->aD,cons_append->Z4,map_nil->P2,nil_append->aO,mem_append_left->ia,append_nil->cX,drop_eq_getElem_cons->nU,length_append->hW,getElem?_eq_none->lC,getElem?_set_self->nT,map_append->hV,getElem?_range->ky,zip_cons_cons->kx,getElem_mem->iA,length_range->ku,mem_append->iz,map_map->dE,getElem?_append_right->sF,all_cons->fK,lookup_cons->ko,getElem?_append_left->sD,lookup->dC,getElem?_set->mW,length_nil->mR,length_set->mQ,mem_of_getElem?->sA,length_take->pB,getElem?_cons_zero->xE,mem_cons->mM,set_cons_succ->sv,length_replicate->xC,filterMap_cons->xB,replicate_succ->xy,map_congr_left->xv,mem_filterMap->xt,getElem?_replicate->Ef,flatten_cons->xr,drop_of_length_le->Ea,any_cons->rZ,length_singleton->DZ,forIn_cons->xm,getElem?_append->DW,foldl_cons->xi,forIn_nil->xb,mem_replicate->DQ,mem_or_eq_of_mem_set->Oi,drop_length->DF,ext_getElem->DD,of_mem_zip->Dy,range_succ->Dv,range_succ_eq_map->NU,drop_eq_nil_of_le->NT,take_of_length_le->NS,range_eq_range'->NL,zip_nil_right->Ny,getElem_idxOf->Nw,getElem_range->Nr,take_sublist->Np,zip_nil_left->Nn,ext_getElem?->Ni,length_drop->Ng,zipIdx_cons->Nb,range'_succ->Na,getElem_map->MV,nodup_range->MU,not_mem_nil->MT,zipIdx_nil->MP,nodup_cons->MN
open PySem.Heap renaming get?_push_of_some->E5,lt_size->B4,get?_push_size->S7,size_push->hU,SameBut->rX,get?_update_other->NW,get?_update_self->NQ,get?_none_of_le->NO
open Nat renaming le_refl->l5,lt_of_lt_of_le->M8,le_trans->P4,lt_irrefl->X6,ne_of_lt->X5,zero_le->bN,mul_le_mul_right->mZ,le_of_lt->ke,ne_of_gt->mL,lt_succ_self->sh,le_add_right->se,mul_le_mul_left->xx,mul_comm->ph,coprime_comm->xp,pow_succ->rW,mul_le_mul->xa,lt_of_le_of_lt->DR,le_of_eq->wV,zero_add->wQ,le_succ->wO,Coprime->wM,pow_pos->wL,add_le_add_right->NJ,pow_lt_pow_right->NH,mul_assoc->Df,sub_self->CT,lt_or_ge->CS,one_lt_two_pow->Nq,lt_succ_of_lt->Nl,pow_add->CP,add_mul->CO,mul_add->CN,le_of_not_lt->Nc,mul_mod_left->MZ,mod_eq_of_lt->MY,div_eq_of_lt->MX
open Int renaming gcd->l9,mul_comm->D4,toNat_natCast->Q8,mul_assoc->H9,mul_le_mul_of_nonneg_left->fR,mul_pos->H0,fdiv_eq_ediv_of_nonneg->eH,mul_zero->K9,zero_add->K8,mul_le_mul_of_nonneg_right->jC,le_of_lt->Q7,zero_mul->V6,natAbs_mul->aN,mul_nonneg->bA,fmod_nonneg_of_pos->lD,gcd_pos_of_ne_zero_right->qy,dvd_refl->bz,mul_nonpos_of_nonneg_of_nonpos->wJ,le_of_dvd->fP,one_mul->cU,mul_left_comm->iB,lt_or_le->cI,mul_one->cH,eq_of_mul_eq_mul_right->sE,fmod_lt_of_pos->mY,mul_neg_of_neg_of_pos->sC,gcd_dvd_right->mU,dvd_trans->iy,gcd_dvd_left->mT,mul_nonpos_of_nonpos_of_nonneg->Ek,eq_of_mul_eq_mul_left->xI,le_of_mul_le_mul_left->xH,mul_add->iq,add_zero->mK,neg_mul->mI,le_refl->mH,ediv_mul_cancel->xw,gcd_ediv_gcd_ediv_gcd->Ei,mul_ediv_cancel_left->Eg,dvd_mul_of_dvd_left->Ed,sub_zero->rV,le_trans->rT,mul_dvd_mul->xj,ediv_pos_of_pos_of_dvd->Ol,natAbs_add_le->DI,mul_neg_of_pos_of_neg->Oj,mul_fdiv_cancel_left->Of,natCast_mul->Du,natCast_add->Dr,add_mul->wN,natAbs_of_nonneg->NG,mul_ediv_cancel->ND,lt_or_eq_of_le->Nv,cast_ofNat_Int->Nu,gcd_zero_right->Nt,neg_gcd->CM
open Bool renaming false_ne_true->Q9,false_eq_true->aB,and_eq_true->ek,eq_iff_iff->km,false_and->xh,not_eq_true'->DK,and_false->Dp,or_eq_false_iff->NI,or_false->Dg,and_true->De,or_eq_true->MQ
open PySem.SeqAt renaming shaped->L3,canLay_of_shaped->xD,EqAt->CL
open PySem.NameKind renaming cell->V7,free->cV
open Option.some renaming inj->aA,injEq->DH
open PySem.Builtin.SmallTypes renaming nextOf->jB,ownedTupleIsFree->xO,ownedTupleHandOut->Oy
open PySem.PyData renaming canLay0->aM,eqv->Z3,int->Z0,canLayAll0->iC,tuple->dD,depth->jZ,list->pe,depthAll->xk,eqvAll->Dc
open Rat renaming intCast_mul->cW,mul_pos->cT,mul_le_mul_of_nonneg_right->Ox,mul_lt_mul_of_pos_right->Ou
open PySem.Str renaming empty->V4,ofString->dG
open PySem.Value renaming ref->aL,none->fJ,bool->mG,builtin->rY,type->oZ,int->CJ,str->CI
open Classical renaming byContradiction->pI,propDecidable->Od
open PySem.F renaming plainAttrs_list->pH,slot_tuple_iterator_next->xK,args_tuple_add_2->Eh,entry_tuple_add->Ee,slot_tuple_add->Ec,slot_zip_next->xl,args_tuple_iterator_next_1->Ow,entry_tuple_iterator_next->Ov,slot_list_append->Oh,type_list_append->Og,slot_list_index->Ob,slot_list_clear->Oa,type_list_clear->NZ,slot_enumerate_next->NP
open PyProof.Rows renaming IntsAre->S8,slot_tuple_getitem->xN,callWith_type1->xM,kindOf->aQ,seqObj->bL,envOfC->dz,AllBare->ig,IsTup->fG,subscriptTail_builtinR->NX,envOfC->NC
open False renaming elim->bM
open True renaming intro->cF
open ForInStep renaming yield->kj
open PySem.Obj renaming mapSeq->dB,data_mapFields->Nx
open PySem.Builtin.Slice renaming slicePlaces->xJ,sliceAdjust->Ej,sliceApplied->Oq
open PySem.Builtin.Tuple renaming tupleExact->xG,tupleItemsOf->Oo,tupleIsExact->Om
open PySem.Builtin.List renaming listTooLong->xF
open Array renaming length_toList->xA
open Sum renaming inr->ij,inl->mF
open Ne renaming symm->ie
open PySem.Calls renaming Name_function_global->Ot,callWith_builtin->NV
open PySem.Builtin.Range renaming rangeSize->Oe
open PySem.PassesOwn renaming never->Dq
open PySem.Heap.SameBut renaming update->NF
open PySem.SeqAt.EqAt renaming int_str->NB,str_int->NA,int_int->Nz
open PySem.Around renaming under->CY
open PySem.Code renaming isFrame->CW
open LawfulBEq renaming eq_of_beq->wK
open PySem.Shared renaming heap->CQ
open PySem.PyData.tuple renaming inj->MS
open PyProof.Rows.IsTup renaming new->CH
abbrev c7:=@if_pos
abbrev c9:=@if_neg
abbrev w9:=@if_true
abbrev E6:=@congrArg
abbrev N9:=@if_false
abbrev fQ:=@decide_eq_false
abbrev qw:=@decide_eq_false_iff_not
abbrev mV:=@not_true_eq_false
abbrev pE:=@of_decide_eq_true
abbrev sk:=@decide_eq_true_eq
open List (mem_range mem_map mem_singleton)
namespace L2
open PySem PySem.Spec PyProof.Rows
abbrev Key:=Sum Int Str
def SR:Key->c8->Bool
 | .inl k,v=>Value.isInt k v
 | .inr x,v=>Value.isStrOf x v
def a0j(w:t9):Key->Int
 | .inl k=>hashInt k
 | .inr x=>hashStr w x
theorem V2:∀{k:Key} {v:c8},SR k v=true->(∃i t,k=mF i/\v=CJ i t)\/(∃x t,k=ij x/\v=CI x t)
 | .inl i,v,h=>by obtain⟨t,e⟩:=Value.isInt_shape (k:=i) (v:=v) h;exact .inl ⟨i,t,rfl,e⟩
 | .inr x,v,h=>by obtain⟨t,e⟩:=Value.isStrOf_shape (x:=x) (v:=v) h;exact .inr ⟨x,t,rfl,e⟩
theorem Yj(a b:Int):decide ((mF a:Key)=mF b)=(a==b):=by
 by_cases e:a=b
 . subst e;simp
 . have h:¬(mF a:Key)=mF b:=λq=>e (Sum.inl.inj q)
   rw[fQ h];exact(beq_eq_false_iff_ne.mpr e).symm
theorem Yg(a b:Str):decide ((ij a:Key)=ij b)=decide (a=b):=by
 by_cases e:a=b
 . subst e;simp
 . have h:¬(ij a:Key)=ij b:=λq=>e (Sum.inr.inj q)
   rw[fQ h,fQ e]
theorem Yi(a:Int)(b:Str):decide ((mF a:Key)=ij b)=false:=fQ (λq=>nomatch q)
theorem Yh(a:Str)(b:Int):decide ((ij a:Key)=mF b)=false:=fQ (λq=>nomatch q)
def Gq(prog:B1)(w:t9):PySem.KeyKind prog w Key where
 is:=SR
 hash:=a0j w
 inj:=λv a b ha hb=>by
  rcases V2 ha with ⟨i,t,rfl,rfl⟩|⟨x,t,rfl,rfl⟩
  . rcases V2 hb with ⟨j,u,rfl,e⟩|⟨y,u,rfl,e⟩
    . injection e with e1 _;rw[e1]
    . exact nomatch e
  . rcases V2 hb with ⟨j,u,rfl,e⟩|⟨y,u,rfl,e⟩
    . exact nomatch e
    . injection e with e1 _;rw[e1]
 byValue:=λk v h=>by rcases V2 h with ⟨i,t,rfl,rfl⟩|⟨x,t,rfl,rfl⟩<;>rfl
 pyHash:=λhv h=>by
  rcases V2 hv with ⟨i,t,rfl,rfl⟩|⟨x,t,rfl,rfl⟩
  . exact wpAny_pyHash_int h
  . exact wpAny_pyHash_str h
 eqBool:=λhu hv h=>by
  rcases V2 hu with ⟨i,t,rfl,rfl⟩|⟨x,t,rfl,rfl⟩
  . rcases V2 hv with ⟨j,u,rfl,rfl⟩|⟨y,u,rfl,rfl⟩
    . rw[Yj]at h;exact wpAny_eqBool_int h
    . rw[Yi]at h;exact NB i t y u _ _ _ _ h
  . rcases V2 hv with ⟨j,u,rfl,rfl⟩|⟨y,u,rfl,rfl⟩
    . rw[Yh]at h;exact NA x t j u _ _ _ _ h
    . rw[Yg]at h;exact wpAny_eqBool_str h
 «strs»:=λk x t v h=>by
  rcases V2 h with ⟨i,u,rfl,e⟩|⟨y,u,rfl,e⟩
  . exact nomatch e
  . injection e with e1 _
    subst e1;cases v<;>rfl
section
variable{H:Hp}{a:Addr}{o u:HO}{h:Heap}
inductive V where
 |non|bl (b:Bool)|int (i:Int)|str (x:Str)|byt (b:Array UInt8)|flt (b:UInt64)|ref (a:Addr)|ty (n:String)
 deriving DecidableEq
def RelV:V->c8->Prop
 | .non,u=>u=fJ
 | .bl b,u=>u=mG b
 | .int i,u=>∃t,u=CJ i t
 | .str x,u=>∃t,u=CI x t
 | .byt b,u=>∃t,u=Value.bytes b t
 | .flt b,u=>∃t,u=Value.float b t
 | .ref a,u=>u=aL a
 | .ty n,u=>u=oZ n
abbrev Vals:List V->List c8->Prop:=Paired RelV
theorem Vals.length{xs:List V}{us:List c8}(r:Vals xs us):xs.length=us.length:=Paired.length r
theorem Vals.get:∀{xs:List V} {us:List c8} {i:Nat} {x:V},Vals xs us->xs[i]? = some x->∃u,us[i]? = some u/\RelV x u
 |_,_,_,_,.nil,e=>by simp at e
 |_,_,0,_,.cons r _,e=>by simp at e;subst e;exact⟨_,rfl,r⟩
 |_,_,i+1,x,.cons _ t,e=>by
  obtain⟨u,h1,h2⟩:=Vals.get (i:=i) (x:=x) t (by simpa using e)
  exact⟨u,by simpa using h1,h2⟩
theorem Vals.set{x:V}{u:c8}(r:RelV x u):∀{xs:List V} {us:List c8} (i:Nat),Vals xs us->Vals (xs.set i x) (us.set i u)
 |_,_,_,.nil=>.nil
 |_,_,0,.cons _ t=>.cons r t
 |_,_,i+1,.cons q t=>.cons q (Vals.set r i t)
theorem Vals.append:∀{xs ys:List V} {us ws:List c8},Vals xs us->Vals ys ws->Vals (xs++ys) (us++ws)
 |_,_,_,_,.nil,s=>s
 |_,_,_,_,.cons r t,s=>.cons r (Vals.append t s)
theorem Vals.take:∀{xs:List V} {us:List c8} (n:Nat),Vals xs us->Vals (xs.take n) (us.take n)
 |_,_,0,_=>.nil
 |_,_,_+1,.nil=>.nil
 |_,_,n+1,.cons r t=>.cons r (Vals.take n t)
theorem Vals.drop:∀{xs:List V} {us:List c8} (n:Nat),Vals xs us->Vals (xs.drop n) (us.drop n)
 |_,_,0,r=>r
 |_,_,_+1,.nil=>.nil
 |_,_,n+1,.cons _ t=>Vals.drop n t
def og:Option V->Option c8->Prop
 |some v,some u=>RelV v u
 |none,none=>True
 |_,_=>False
def KV{κ:Type}:List (κ×V)->List (κ×c8)->Prop:=Paired λ(p:κ×V) (q:κ×c8)=>p.1=q.1/\RelV p.2 q.2
def kV:Key->V
 | .inl i=>.int i
 | .inr x=>.str x
inductive HO where
 |lst (xs:List V)
 |tup (xs:List V)
 |dK (kvs:List (Key×V))|dT (kvs:List (List Key×V))
 |set (S:Int->Bool) (n:Nat)
 |ins (C dx:Addr) (fs:List (Str×V))
 |own (x:Addr)
 |xd (fs:List (Str×V))
 |met (f x:Addr)
 |rng (lo hi:Int)
 |U0 (o:Obj) (u:HO)
 |tbl (ps:Array c8)
 |ext (φ:Heap->Prop)
abbrev Hp:=Addr->Option HO
def upd(H:Hp)(a:Addr)(o:HO):Hp:=λb=>if b=a then some o else H b
theorem E8:upd H a o a=some o:=by delta upd;rw[c7 rfl]
theorem A3{b:Addr}(h:b≠a):upd H a o b=H b:=by delta upd;rw[c9 h]
theorem Y7{b:Addr}(h:H a=some o)(h':H b=none):a≠b:=by intro e;subst e;rw[h]at h';cases h'
section
variable(P:B1)(w:t9)
def V3(H:Hp)(h:Heap)(a:Addr):HO->Prop
 | .lst xs=>xs.length<=B2/\∃(its:List c8) (n:Nat),Vals xs its/\h.get? a=some {cls:=.type "list",data:=.seq its.toArray n}
 | .tup xs=>xs.length<=B2/\∃its:List c8,Vals xs its/\fG h a its.toArray
 | .dK kvs=>kvs.length<=B2/\(a==sysModules)=false/\∃vs,KV kvs vs/\h.DictOf (Gq P w) a vs
 | .dT kvs=>kvs.length<=B2/\(a==sysModules)=false/\∃xs:List (List Key×Addr×c8),
   Paired (λ(p:List Key×V) (q:List Key×Addr×c8)=>p.1=q.1/\H q.2.1=some (.tup (p.1.map kV))/\RelV p.2 q.2.2) kvs xs /\
   ∃o es ep,h.get? a=some o/\o.ExactDict/\o.data=.dict es ep/\es.toList=xs.map (entryOfKey (tupleKind (Gq P w)))/\(xs.map (·.1)).Nodup
 | .set S n=>h.SetOf (intKind P w) a S n
 | .ins C dx fs=>H dx=some (.own a)/\fs.length<=1000/\dx≠a/\h.get? a=some (kn C dx) /\
   ∃mA,h.Ns1 dx mA/\(∀f,og (fs.lookup f) (mA f))/\CZ mA (fs.map (·.1))
 | .own _=>∃o,h.get? a=some o
 | .xd fs=>∃mA,h.Ns1 a mA/\∀f,og (fs.lookup f) (mA f)
 | .rng lo hi=>∃t u v,h.get? a=some {cls:=.type "range",data:=.fields #[.int lo t,.int hi u,.int 1 v]}
 | .U0 o u=>h.get? a=some o/\V3 H h a u
 | .tbl ps=>h.get? a=some {cls:=.none,data:=.fields ps}
 | .met f x=>h.get? a=some (DP (.ref f) (.ref x))
 | .ext φ=>φ h/\(∃o,h.get? a=some o)/\∀h1 h2:Heap,φ h1->(∀o,h1.get? a=some o->h2.get? a=some o)->φ h2
def bV(H:Hp)(h:Heap):Prop:=∀a o,H a=some o->V3 P w H h a o
end
section
variable{P:B1}{w:t9}{H H':Hp}{h h':Heap}{a:Addr}{o:HO}
theorem V3.lt(x:V3 P w H h a o):a<h.objs.size:=by
 cases o with
 |lst xs=>obtain⟨_,_,_,_,e⟩:=x;exact B4 e
 |tup xs=>obtain⟨_,_,_,p⟩:=x;exact p.lt
 |dK kvs=>obtain⟨_,_,_,_,o,_,_,e,_⟩:=x;exact B4 e
 |dT kvs=>obtain⟨_,_,_,_,o,_,_,e,_⟩:=x;exact B4 e
 |set S n=>obtain⟨o,_,_,_,e,_⟩:=x;exact B4 e
 |ins C dx fs=>obtain⟨_,_,_,e,_⟩:=x;exact B4 e
 |own y=>obtain⟨_,e⟩:=x;exact B4 e
 |xd fs=>obtain⟨_,⟨_,_,_,e,_⟩,_⟩:=x;exact B4 e
 |rng lo hi=>obtain⟨_,_,_,e⟩:=x;exact B4 e
 |U0 ob u=>obtain⟨e,_⟩:=x;exact B4 e
 |tbl ps=>exact B4 (show h.get? a=some _ from x)
 |met f y=>exact B4 (show h.get? a=some _ from x)
 |ext φ=>obtain⟨_,⟨_,e⟩,_⟩:=x;exact B4 e
theorem Paired.XX{α β:Type}{F G:α->β->Prop}:∀{l₁:List α} {l₂:List β},Paired F l₁ l₂->(∀a b,F a b->G a b)->Paired G l₁ l₂
 |_,_,.nil,_=>.nil
 |_,_,.cons r t,f=>.cons (f _ _ r) (Paired.XX t f)
theorem V3.qP(x:V3 P w H h a o)(k:∀b u,(b=a\/H b=some (.own a))->h.get? b=some u->h'.get? b=some u)(ho:∀b,H b=some (.own a)->H' b=some (.own a))(ht:∀b xs,H b=some (.tup xs)->H' b=some (.tup xs)):V3 P w H' h' a o:=by
 induction o with
 |lst xs=>obtain⟨z,its,n,r,e⟩:=x;exact⟨z,its,n,r,k _ _ (.inl rfl) e⟩
 |tup xs=>obtain⟨z,its,r,ob,e,c⟩:=x;exact⟨z,its,r,ob,k _ _ (.inl rfl) e,c⟩
 |dK kvs=>obtain⟨z,y,vs,r,ob,es,ep,e,c⟩:=x;exact⟨z,y,vs,r,ob,es,ep,k _ _ (.inl rfl) e,c⟩
 |dT kvs =>
  obtain⟨z,y,xs,r,ob,es,ep,e,c⟩:=x;exact⟨z,y,xs,Paired.XX r λp q z=>⟨z.1,ht _ _ z.2.1,z.2.2⟩,ob,es,ep,k _ _ (.inl rfl) e,c⟩
 |set S n=>obtain⟨ob,es,ep,t,e,c⟩:=x;exact⟨ob,es,ep,t,k _ _ (.inl rfl) e,c⟩
 |ins C dx fs =>
  obtain⟨d,z,ne,e,mA,⟨od,es,ep,e2,c⟩,r⟩:=x;exact⟨ho _ d,z,ne,k _ _ (.inl rfl) e,mA,⟨od,es,ep,k _ _ (.inr d) e2,c⟩,r⟩
 |own y=>obtain⟨ob,e⟩:=x;exact⟨ob,k _ _ (.inl rfl) e⟩
 |xd fs=>obtain⟨mA,⟨od,es,ep,e,c⟩,r⟩:=x;exact⟨mA,⟨od,es,ep,k _ _ (.inl rfl) e,c⟩,r⟩
 |rng lo hi=>obtain⟨t,u,v,e⟩:=x;exact⟨t,u,v,k _ _ (.inl rfl) e⟩
 |U0 ob u ih=>obtain⟨e,q⟩:=x;exact⟨k _ _ (.inl rfl) e,ih q⟩
 |tbl ps =>
  have e:h.get? a=some {cls:=.none,data:=.fields ps}:=x;show h'.get? a=some {cls:=.none,data:=.fields ps}
  exact k a _ (.inl rfl) e
 |met f y =>
  have e:h.get? a=some (DP (.ref f) (.ref y)):=x;show h'.get? a=some (DP (.ref f) (.ref y))
  exact k a _ (.inl rfl) e
 |ext φ=>obtain⟨p,⟨o,e⟩,st⟩:=x;exact⟨st _ _ p λo q=>k _ _ (.inl rfl) q,⟨o,k _ _ (.inl rfl) e⟩,st⟩
theorem bV.lt(x:bV P w H h)(e:H a=some o):a<h.objs.size:=(x a o e).lt
theorem bV.fresh(x:bV P w H h)(e:h.objs.size<=a):H a=none:=by
 cases q:H a with
 |none=>rfl
 |some u=>exact absurd (M8 (x.lt q) e) (X6 _)
theorem bV.kept(x:bV P w H h)(k:∀b u,h.get? b=some u->h'.get? b=some u):bV P w H h':=λa o e =>
 (x a o e).qP (λb u _ q=>k b u q) (λ_ q=>q) λ_ _ q=>q
theorem bV.laid(x:bV P w H h)(k:∀b u,h.get? b=some u->h'.get? b=some u)(hp:h.objs.size<=a)(new:V3 P w (upd H a o) h' a o):bV P w (upd H a o) h':=λb u e=>by
 have hn:=x.fresh hp;by_cases hb:b=a
 . subst hb;rw[E8]at e;cases e;exact new
 . rw[A3 hb]at e;exact(x b u e).qP (λc v _ q=>k c v q) (λc q=>by rw[A3 (Y7 q hn)];exact q) λc xs q=>by rw[A3 (Y7 q hn)];exact q
end
def Rd(H:Hp)(a:Addr)(u:HO):Prop:=H a=some u\/∃o,H a=some (.U0 o u)
theorem Rd.ok{P:B1}{w:t9}(r:Rd H a u)(x:bV P w H h):V3 P w H h a u:=by
 rcases r with r|⟨o,r⟩
 . exact x a u r
 . obtain⟨_,q⟩:=x a _ r;exact q
def TU:Option HO->Prop
 |some (.lst _)=>True
 |some (.dK _)=>True
 |some (.dT _)=>True
 |some (.set _ _)=>True
 |some (.ins _ _ _)=>True
 |some (.ext _)=>True
 |_=>False
section
variable{P:B1}{w:t9}{H:Hp}{h h':Heap}{x e:Addr}{o':HO}
theorem bV.write(ok:bV P w H h)(mu:TU (H x))(he:e=x\/H e=some (.own x))(k:∀b u,b≠e->h.get? b=some u->h'.get? b=some u)(heo:∃u,h'.get? e=some u)(new:V3 P w (upd H x o') h' x o'):bV P w (upd H x o') h':=λb u q=>by
 have nown:∀c y,H c=some (.own y)->c≠x:=λc y r z=>by subst z;rw[r]at mu;exact mu
 have ntup:∀c xs,H c=some (.tup xs)->c≠x:=λc xs r z=>by subst z;rw[r]at mu;exact mu
 by_cases hb:b=x
 . subst hb;rw[E8]at q;cases q;exact new
 . rw[A3 hb]at q;by_cases hbe:b=e
   . have q':H b=some (.own x):=by
       rcases he with z|z
       . exact absurd (hbe.trans z) hb
       . rw[hbe];exact z
     rw[q]at q';cases q';obtain⟨v,hv⟩:=heo;exact⟨v,by rw[hbe];exact hv⟩
   . refine(ok b u q).qP (λc v hc r=>k c v ?_ r) (λc r=>by rw[A3 (nown c b r)];exact r) λc xs r=>by rw[A3 (ntup c xs r)];exact r
     rcases hc with rfl|hc
     . exact hbe
     . rintro rfl;rcases he with z|z
       . exact nown c b hc z
       . rw[hc]at z;cases z;exact hb rfl
end
structure Un(fs ex:List Addr)(H H':Hp)(h h':Heap):Prop where
 keep:∀b o,h.get? b=some o->H b=none->b∉fs->b∉ex->h'.get? b=some o
 slot:∀b o,h.get? b=some o->H b=none->b∈fs->b∉ex->∃sl,h'.get? b=some {o with slots:=sl}
 free:∀b o,h.get? b=some o->H b=none->b∉ex->H' b=none
 there:∀b o,h.get? b=some o->b∉ex->∃o',h'.get? b=some o'
 qM:∀b xs,H b=some (.tup xs)->H' b=some (.tup xs)
 ql:∀b o u,H b=some (.U0 o u)->H' b=some (.U0 o u)
 qN:∀b ps,H b=some (.tbl ps)->∃more,H' b=some (.tbl (ps++more))
section
variable{fs fs' ex ex':List Addr}{H H1 H2:Hp}{h h1 h2 h':Heap}{a x e:Addr}{o:HO}
theorem Un.any(u:Un fs ex H H1 h h1){b:Addr}{ob:Obj}(q:h.get? b=some ob)(n:H b=none)(hx:b∉ex):∃sl,h1.get? b=some {ob with slots:=sl}:=by
 by_cases hb:b∈fs
 . exact u.slot b ob q n hb hx
 . exact⟨ob.slots,u.keep b ob q n hb hx⟩
theorem Un.kept(k:∀b u,h.get? b=some u->h'.get? b=some u):Un fs ex H H h h' :=
 ⟨λb ob q _ _ _=>k b ob q,λb ob q _ _ _=>⟨ob.slots,k b ob q⟩,λ_ _ _ n _=>n,λb ob q _=>⟨ob,k b ob q⟩,λ_ _ q=>q,λ_ _ _ q=>q,λ_ ps q=>⟨#[],by rw[q];simp⟩⟩
theorem Un.refl:Un fs ex H H h h:=Un.kept λ_ _ q=>q
theorem Un.laid(k:∀b u,h.get? b=some u->h'.get? b=some u)(hp:h.objs.size<=a)(hn:H a=none):Un fs ex H (upd H a o) h h' where
 keep:=λb u q _ _ _=>k b u q
 slot:=λb u q _ _ _=>⟨u.slots,k b u q⟩
 free:=λb u q n _=>by rw[A3 (X5 (M8 (B4 q) hp))];exact n
 there:=λb u q _=>⟨u,k b u q⟩
 qM:=λb xs q=>by rw[A3 (Y7 q hn)];exact q
 ql:=λb u xs q=>by rw[A3 (Y7 q hn)];exact q
 qN:=λb ps q=>⟨#[],by rw[A3 (Y7 q hn),q];simp⟩
theorem Un.write(mu:TU (H x))(he:e=x\/H e=some (.own x))(k:∀b u,b≠e->h.get? b=some u->h'.get? b=some u)(heo:∃u,h'.get? e=some u):Un fs ex H (upd H x o) h h':=by
 have hx:∀b,H b=none->b≠x:=λb n z=>by subst z;rw[n]at mu;exact mu
 have hb:∀b,H b=none->b≠e:=λb n z=>by
  subst z;rcases he with r|r
  . exact hx b n r
  . rw[n]at r;cases r
 have hm:∀b u,H b=some u->¬TU (some u)->b≠x:=λb u q nm z=>by subst z;rw[q]at mu;exact nm mu
 refine⟨λb u q n _ _=>k b u (hb b n) q,λb u q n _ _=>⟨u.slots,k b u (hb b n) q⟩,λb u q n _=>by rw[A3 (hx b n)];exact n,λb u q _=>?_,
  λb xs q=>by rw[A3 (hm b _ q λz=>z)];exact q,λb u xs q=>by rw[A3 (hm b _ q λz=>z)];exact q,λb ps q=>⟨#[],by rw[A3 (hm b _ q λz=>z),q];simp⟩⟩
 by_cases hbe:b=e
 . subst hbe;exact heo
 . exact⟨u,k b u hbe q⟩
end
def Sl(h:Heap)(H:Hp):List Addr:=(v8 h.objs.size).filter λa=>(H a).isSome
def qj(h:Heap)(H:Hp):Heap:=PySem.W.hideAll h (Sl h H)
theorem LN(h:Heap)(H:Hp):(qj h H).objs.size=h.objs.size:=PySem.W.hideAll_size _ _
theorem Ra{b:Addr}{o:Obj}(e:h.get? b=some o)(n:H b=none):(qj h H).get? b=some o :=
 PySem.W.hideAll_get _ e λhm=>by have q:(H b).isSome=true:=(List.mem_filter.mp hm).2;rw[n]at q;simp at q
theorem Vw{b:Addr}{o:Obj}(e:(qj h H).get? b=some o):h.get? b=some o/\H b=none:=by
 have e':h.get? b=some o:=PySem.W.of_hideAll (Sl h H) e;refine⟨e',?_⟩;cases q:H b with
 |none=>rfl
 |some x =>
  have hm:b∈Sl h H:=List.mem_filter.mpr ⟨mem_range.mpr (B4 e'),by simp[q]⟩
  have z:(qj h H).get? b=none:=PySem.W.hideAll_none (Sl h H) hm;rw[z]at e;cases e
def VW(g h:Heap)(L:Addr):List (Addr×Obj):=(v8 h.objs.size).filterMap λa=>if a=L\/(g.get? a).isSome=true then none else(h.get? a).map λo=>(a,o)
def rest(g h:Heap)(L d:Addr):List (Addr×Obj):=(VW g h L).filter λp=>decide (p.1≠d)
end
section
variable{a it:Addr}{g':Array GenState}{t' j:Nat}{d':Drawn}{ch:List Addr}{A:A2}{E:c8->h8->Prop}{v:V}{u:c8}{Q:Unit->h8->Prop}
structure Mod(K:i5)(mg:Str->Option c8)(base:Heap):Prop where
 GA:K.In base
 glob:base.Ns T8 mg
 blt:∃mb,base.Ns builtinsNs mb/\∀x:Str,x ≠ "__name__"->mb x=ej x
 nolimit:base.NoLimit
structure Cx where
 prog:B1
 w:t9
 K:i5
 mg:Str->Option c8
 base:Heap
 A:A2
 N:List Str
 O5:h8
 e8:Hp
 env:Env
 outer:List Env
 stack:List Env
 ex:List Addr
 fn:Str->Bool
 calm:Bool
 pn:List (Addr×Obj)
 xe:c8->h8->Prop
def N5(l:List Env):List Addr:=l.filterMap (·.frame)
abbrev Cx.fs(X:Cx):List Addr:=N5 X.outer
def TL(sc:Y4)(x:Str):Prop:=sc.names.lookup x=some .local\/sc.names.lookup x=some .cell\/sc.names.lookup x=some .free
def Loc(sc:Y4)(x:Str):Prop:=sc.names.lookup x=some .local\/sc.names.lookup x=some .cell
def Look(env:Env)(h:Heap)(m:Str->Option c8)(x:Str)(u:c8):Prop :=
 (env.kindOf x=some .local/\m x=some u)\/((env.kindOf x=some .cell\/env.kindOf x=some .free)/\∃c,env.cells.lookup x=some c/\h.IsCell c (some u))
structure Cx.Ok(X:Cx):Prop where
 mod:Mod X.K X.mg X.base
 kind:X.env.scope.kind=.function
 glob:X.env.globals=T8
 blt:X.env.builtins=builtinsNs
 above:X.O5.heap.objs.size<=X.env.locals
 inj:∀x y c,X.env.cells.lookup x=some c->X.env.cells.lookup y=some c->x=y
 has:∀x,(X.env.kindOf x=some .cell\/X.env.kindOf x=some .free)->∃c,X.env.cells.lookup x=some c
 Hf:∀x c,X.fn x=true->X.env.cells.lookup x=some c->X.O5.heap.objs.size<=c
 hd:X.calm=true->X.A.handled=none
 frames:X.A.frames=some X.stack
 JQ:X.stack=X.outer\/(X.stack=X.env::X.outer/\X.env.frame=some X.env.locals)
 Tu:∀b∈X.ex,b≠X.env.locals/\∀x c,X.env.cells.lookup x=some c->c≠b
 bs:∀b o,X.base.get? b=some o->X.O5.heap.get? b=some o/\X.e8 b=none
 qH:X.base.objs.size<=X.O5.heap.objs.size
 uF:∀b o,X.base.get? b=some o->b∉X.ex
 yx:∀b∈X.ex,b∉X.fs
 jf:X.O5.heap.FunFrames X.base X.outer
 zz:∀b∈X.fs,X.e8 b=none
structure Inv(X:Cx)(pins:List (Addr×Obj))(σ:List (Option V))(H:Hp)(s:h8):Prop where
 ok:X.Ok
 os:s.os=X.O5.os
 bare:ig s.gens
 base:Un X.fs X.ex X.e8 H X.O5.heap s.heap
 loc:∃m,s.heap.Ns X.env.locals m/\∀(i:Nat) (x:Str) (v:V),X.N[i]? = some x->σ[i]? = some (some v)->TL X.env.scope x->∃u,RelV v u/\Look X.env s.heap m x u
 cell:∀x c,X.env.cells.lookup x=some c->∃v,s.heap.IsCell c v
 free:H X.env.locals=none
 gS:∀x c,X.env.cells.lookup x=some c->H c=none
 pin:∀p∈X.pn++pins,s.heap.get? p.1=some p.2/\H p.1=none/\p.1≠X.env.locals/\p.1∉X.fs/\∀v,p.2.data≠.cell v
 A7:bV X.prog X.w H s.heap
 len:σ.length=X.N.length
section
variable{X:Cx}{pins:List (Addr×Obj)}{σ:List (Option V)}{H H':Hp}{s:h8}{h':Heap}
theorem Cx.Ok.a0g(ok:X.Ok){b:Addr}{o:Obj}(e:X.base.get? b=some o):b∉X.fs:=λhb=>by have:=(ok.jf.mem hb).1;rw[e]at this;cases this
theorem Inv.bs(I:Inv X pins σ H s):∀b o,X.base.get? b=some o->s.heap.get? b=some o/\H b=none:=λb o e =>
 ⟨I.base.keep b o (I.ok.bs b o e).1 (I.ok.bs b o e).2 (I.ok.a0g e) (I.ok.uF b o e),I.base.free b o (I.ok.bs b o e).1 (I.ok.bs b o e).2 (I.ok.uF b o e)⟩
theorem Inv.bk(I:Inv X pins σ H s):∀b o,X.base.get? b=some o->s.heap.get? b=some o:=λb o e=>(I.bs b o e).1
theorem Inv.mod(I:Inv X pins σ H s):Mod X.K X.mg X.base:=I.ok.mod
theorem Inv.fB(I:Inv X pins σ H s):X.K.In s.heap:=I.ok.mod.GA.keeps I.bk
theorem Inv.fr(I:Inv X pins σ H s):∃m,Fr X.base X.env.locals s.heap m :=
 let ⟨m,hn,_⟩:=I.loc
 ⟨m,hn,I.bk,P4 I.ok.qH I.ok.above⟩
theorem Inv.lt(I:Inv X pins σ H s):X.env.locals<s.heap.objs.size:=let ⟨_,hn,_⟩:=I.loc;hn.lt
theorem Inv.sz(I:Inv X pins σ H s):X.O5.heap.objs.size<=s.heap.objs.size:=P4 I.ok.above (ke I.lt)
theorem Inv.QD(I:Inv X pins σ H s)(h:s.heap.objs.size<=a):a∉X.fs:=λhb=>by obtain⟨_,o,ho,_⟩:=I.ok.jf.mem hb;exact absurd (M8 (B4 ho) (P4 I.sz h)) (X6 _)
theorem Inv.Cn(I:Inv X pins σ H s):∀x c,X.env.cells.lookup x=some c->c≠X.env.locals:=λx c e z=>by obtain⟨v,o,ho,hd⟩:=I.cell x c e;obtain⟨m,⟨o',es,ep,ho',hd',_⟩,_⟩:=I.loc;rw[z,ho']at ho;cases ho;rw[hd']at hd;cases hd
theorem Inv.jf(I:Inv X pins σ H s):s.heap.FunFrames X.base X.outer:=by
 have all:∀(l:List Env),(∀b∈N5 l,b∈X.fs)->X.O5.heap.FunFrames X.base l->s.heap.FunFrames X.base l:=by
  intro l;induction l with
  |nil=>intro _ _;trivial
  |cons env r ih =>
   intro hs hl;obtain⟨hk,⟨L,o,hf,hn,ho,hd⟩,hr⟩:=hl;have hL:L∈X.fs:=hs L (by delta N5;rw[xB,hf];exact B7)
   obtain⟨sl,e⟩:=I.base.slot L o ho (I.ok.zz L hL) hL λz=>I.ok.yx L z hL
   exact⟨hk,⟨L,_,hf,hn,e,hd⟩,ih (λb hb=>hs b (by delta N5;rw[xB,hf];exact A0 _ hb)) hr⟩
 exact all X.outer (λ_ hb=>hb) I.ok.jf
theorem Inv.stack(I:Inv X pins σ H s):s.heap.FunFrames X.base X.stack:=by
 rcases I.ok.JQ with e|⟨e,hf⟩
 . rw[e];exact I.jf
 . rw[e];obtain⟨m,hn,_⟩:=I.loc;refine .cons (by rw[I.ok.kind];decide) hf hn ?_ I.jf
   exact NO (P4 I.ok.qH I.ok.above)
theorem Inv.qO(I:Inv X pins σ H s):∀b∈N5 X.stack,b∈X.env.locals::X.fs:=λb hb=>by
 rcases I.ok.JQ with e|⟨e,hf⟩
 . rw[e]at hb;exact A0 _ hb
 . rw[e]at hb;unfold N5 at hb;rw[xB,hf]at hb;exact hb
theorem Inv.Fw(I:Inv X pins σ H s):∀b∈N5 X.stack,H b=none:=λb hb=>by
 rcases List.mem_cons.mp (I.qO b hb)with e|hb
 . rw[e];exact I.free
 . obtain⟨_,o,ho,_⟩:=I.ok.jf.mem hb;exact I.base.free b o ho (I.ok.zz b hb) λz=>I.ok.yx b z hb
theorem Inv.step(I:Inv X pins σ H s)(hch:∀b∈ch,(b∈X.ex\/X.O5.heap.objs.size<=b)/\b≠X.env.locals/\(∀x c,X.env.cells.lookup x=some c->c≠b)/\∀p∈X.pn++pins,p.1≠b)(keep:∀b o,b≠X.env.locals->b∉X.fs->b∉ch->s.heap.get? b=some o->H b=none->h'.get? b=some o)(slot:∀b o,b≠X.env.locals->b∈X.fs->b∉ch->s.heap.get? b=some o->H b=none->∃sl,h'.get? b=some {o with slots:=sl})(free:∀b o,b∉ch->s.heap.get? b=some o->H b=none->H' b=none)(there:∀b o,b∉ch->s.heap.get? b=some o->∃o',h'.get? b=some o')(qM:∀b xs,H b=some (.tup xs)->H' b=some (.tup xs))(ql:∀b o u,H b=some (.U0 o u)->H' b=some (.U0 o u))(qN:∀b ps,H b=some (.tbl ps)->∃more,H' b=some (.tbl (ps++more)))(ns:∀m,s.heap.Ns X.env.locals m->h'.Ns X.env.locals m)(A7:bV X.prog X.w H' h')(hg:ig g'):
  Inv X pins σ H' {s with heap:=h',gens:=g',drawn:=d',toks:=t'}:=by
 have neL:∀b o,X.O5.heap.get? b=some o->b≠X.env.locals:=λb o e=>X5 (M8 (B4 e) I.ok.above)
 have neC:∀b o,X.O5.heap.get? b=some o->b∉X.ex->b∉ch:=λb o e hx hb=>by
  rcases(hch b hb).1 with z|z
  . exact hx z
  . exact absurd (M8 (B4 e) z) (X6 _)
 have cellK:∀x c,X.env.cells.lookup x=some c->∀v,s.heap.IsCell c v->h'.IsCell c v:=λx c e v ⟨o,ho,hd⟩=>by
  have nch:c∉ch:=λz=>(hch c z).2.2.1 x c e rfl
  by_cases hc:c∈X.fs
  . obtain⟨sl,q⟩:=slot c o (I.Cn x c e) hc nch ho (I.gS x c e);exact⟨_,q,hd⟩
  . exact⟨o,keep c o (I.Cn x c e) hc nch ho (I.gS x c e),hd⟩
 refine⟨I.ok,I.os,hg,⟨λb o e n hb hx=>?_,λb o e n hb hx=>?_,λb o e n hx=>?_,λb o e hx=>?_,λb xs e=>qM b xs (I.base.qM b xs e),λb o xs e=>ql b o xs (I.base.ql b o xs e),λb ps e=>?_⟩,?_,λx c e=>?_,?_,λx c e=>?_,λp hp=>?_,A7,I.len⟩
 . exact keep b o (neL b o e) hb (neC b o e hx) (I.base.keep b o e n hb hx) (I.base.free b o e n hx)
 . obtain⟨sl,e1⟩:=I.base.slot b o e n hb hx;obtain⟨sl',e2⟩:=slot b _ (neL b o e) hb (neC b o e hx) e1 (I.base.free b o e n hx);exact⟨sl',e2⟩
 . obtain⟨o',e1⟩:=I.base.there b o e hx;exact free b o' (neC b o e hx) e1 (I.base.free b o e n hx)
 . obtain⟨o',e1⟩:=I.base.there b o e hx;exact there b o' (neC b o e hx) e1
 . obtain⟨m1,e1⟩:=I.base.qN b ps e;obtain⟨m2,e2⟩:=qN b _ e1;exact⟨m1++m2,by rw[e2,Array.append_assoc]⟩
 . obtain⟨m,hn,hl⟩:=I.loc;refine⟨m,ns m hn,λi x v e1 e2 e3=>?_⟩
   obtain⟨u,r,l⟩:=hl i x v e1 e2 e3;refine⟨u,r,?_⟩;rcases l with l|⟨k,c,e,z⟩
   . exact .inl l
   . exact .inr ⟨k,c,e,cellK x c e _ z⟩
 . obtain⟨v,z⟩:=I.cell x c e;exact⟨v,cellK x c e v z⟩
 . obtain⟨m,⟨o,_,_,ho,_⟩,_⟩:=I.loc;exact free _ o (λz=>(hch _ z).2.1 rfl) ho I.free
 . obtain⟨v,o,ho,hd⟩:=I.cell x c e;exact free c o (λz=>(hch c z).2.2.1 x c e rfl) ho (I.gS x c e)
 . obtain⟨e,n,ne,nf,d⟩:=I.pin p hp;have nch:p.1∉ch:=λz=>(hch p.1 z).2.2.2 p hp rfl
   exact⟨keep p.1 p.2 ne nf nch e n,free p.1 p.2 nch e n,ne,nf,d⟩
theorem Inv.un(I:Inv X pins σ H s)(u:Un X.fs [] H H' s.heap h')(A7:bV X.prog X.w H' h'):Inv X pins σ H' {s with heap:=h',toks:=t'}:=by
 obtain⟨m,⟨o,es,ep,ho,r⟩,_⟩:=id I.loc;obtain⟨sl,hL⟩:=u.any ho I.free (by simp)
 exact I.step (g':=s.gens) (d':=s.drawn) (ch:=[]) (λ_ z=>nomatch z) (λb o _ hb _ e n=>u.keep b o e n hb (by simp)) (λb o _ hb _ e n=>u.slot b o e n hb (by simp)) (λb o _ e n=>u.free b o e n (by simp)) (λb o _ e=>u.there b o e (by simp)) u.qM u.ql u.qN (λm' hm=>by obtain⟨o',es',ep',ho',r'⟩:=hm;rw[ho]at ho';cases ho';exact⟨_,es',ep',hL,r'⟩) A7 I.bare
theorem Inv.call(I:Inv X pins σ H s)(u:Un (N5 X.stack) ch H H' s.heap h')(A7:bV X.prog X.w H' h')(hg:ig g')(hch:∀b∈ch,(b∈X.ex\/X.O5.heap.objs.size<=b)/\b≠X.env.locals/\(∀x c,X.env.cells.lookup x=some c->c≠b)/\∀p∈X.pn++pins,p.1≠b):
  Inv X pins σ H' {s with heap:=h',gens:=g',drawn:=d',toks:=t'}:=by
 obtain⟨m,⟨o,es,ep,ho,r⟩,_⟩:=id I.loc;obtain⟨sl,hL⟩:=u.any ho I.free λz=>(hch _ z).2.1 rfl
 exact I.step (ch:=ch) hch (λb o hL hb hc e n=>u.keep b o e n (λz=>(List.mem_cons.mp (I.qO b z)).elim hL hb) hc) (λb o _ _ hc e n=>u.any e n hc) (λb o hc e n=>u.free b o e n hc) (λb o hc e=>u.there b o e hc) u.qM u.ql u.qN (λm' hm=>by obtain⟨o',es',ep',ho',r'⟩:=hm;rw[ho]at ho';cases ho';exact⟨_,es',ep',hL,r'⟩) A7 hg
theorem Inv.turned(I:Inv X pins σ H s)(k:∀b o,b≠it->s.heap.get? b=some o->h'.get? b=some o)(hn:H it=none)(hL:it≠X.env.locals)(h1:it∈X.ex\/X.O5.heap.objs.size<=it)(h2:∀x c,X.env.cells.lookup x=some c->c≠it)(h3:∀p∈X.pn++pins,p.1≠it):Inv X pins σ H {s with heap:=h',toks:=t'}:=by
 have nit:∀b u,H b=some u->b≠it:=λb u e z=>by rw[z,hn]at e;cases e
 refine I.step (g':=s.gens) (d':=s.drawn) (ch:=[it]) (λb hb=>?_) (λb o _ _ hc e _=>k b o (λz=>hc (by simp[z])) e) (λb o _ _ hc e _=>⟨o.slots,k b o (λz=>hc (by simp[z])) e⟩) (λ_ _ _ _ n=>n)
  (λb o hc e=>⟨o,k b o (λz=>hc (by simp[z])) e⟩) (λ_ _ e=>e) (λ_ _ _ e=>e) (λb ps e=>⟨#[],by rw[e];simp⟩) (λm hm=>?_) (λb u e=>?_) I.bare
 . have e:b=it:=by simpa using hb
   subst e;exact⟨h1,hL,h2,h3⟩
 . obtain⟨o,es,ep,ho,r⟩:=hm;exact⟨o,es,ep,k _ o (ie hL) ho,r⟩
 . refine(I.A7 b u e).qP (λc v hc q=>k c v ?_ q) (λ_ q=>q) λ_ _ q=>q
   rcases hc with z|z
   . rw[z];exact nit b u e
   . exact nit c _ z
theorem Inv.tok(I:Inv X pins σ H s)(t:Nat):Inv X pins σ H {s with toks:=t}:=I.un (h':=s.heap) (t':=t) Un.refl I.A7
theorem Inv.kept{t':Nat}(I:Inv X pins σ H s)(k:∀b u,s.heap.get? b=some u->h'.get? b=some u):Inv X pins σ H {s with heap:=h',toks:=t'}:=I.un (Un.kept k) (I.A7.kept k)
theorem Inv.laid{a:Addr}{o:HO}{t':Nat}(I:Inv X pins σ H s)(k:∀b u,s.heap.get? b=some u->h'.get? b=some u)(hp:s.heap.objs.size<=a)(new:V3 X.prog X.w (upd H a o) h' a o):
  Inv X pins σ (upd H a o) {s with heap:=h',toks:=t'}:=I.un (Un.laid k hp (I.A7.fresh hp)) (I.A7.laid k hp new)
theorem Inv.write{x e:Addr}{o:HO}{t':Nat}(I:Inv X pins σ H s)(mu:TU (H x))(he:e=x\/H e=some (.own x))(k:∀b u,b≠e->s.heap.get? b=some u->h'.get? b=some u)(heo:∃u,h'.get? e=some u)(new:V3 X.prog X.w (upd H x o) h' x o):Inv X pins σ (upd H x o) {s with heap:=h',toks:=t'}:=I.un (Un.write mu he k heo) (I.A7.write mu he k heo new)
theorem Inv.weak{σ':List (Option V)}(I:Inv X pins σ H s)(hl:σ'.length=σ.length)(w:∀(i:Nat) v,σ'[i]? = some (some v)->σ[i]? = some (some v)):Inv X pins σ' H s :=
 ⟨I.ok,I.os,I.bare,I.base,let ⟨m,hn,hl'⟩:=I.loc;⟨m,hn,λi x v e1 e2 e3=>hl' i x v e1 (w i v e2) e3⟩,I.cell,I.free,I.gS,I.pin,I.A7,hl.trans I.len⟩
theorem Inv.ja{pins':List (Addr×Obj)}(I:Inv X pins σ H s)(h:∀p∈pins',s.heap.get? p.1=some p.2/\H p.1=none/\p.1≠X.env.locals/\p.1∉X.fs/\∀v,p.2.data≠.cell v):Inv X pins' σ H s :=
 ⟨I.ok,I.os,I.bare,I.base,I.loc,I.cell,I.free,I.gS,λp hp=>(List.mem_append.mp hp).elim (λz=>I.pin p (ia _ z)) (h p),I.A7,I.len⟩
theorem Bq{N:List Str}(hN:N.Nodup){i:Nat}{x:Str}(a:N[i]? = some x)(b:N[j]? = some x):i=j:=by obtain⟨h1,e1⟩:=List.getElem?_eq_some_iff.mp a;obtain⟨h2,e2⟩:=List.getElem?_eq_some_iff.mp b;exact(List.getElem_inj hN).mp (e1.trans e2.symm)
theorem JO{M:Model}{i:Nat}{x:Str}(I:Inv X pins σ H s)(hN:X.N.Nodup)(hi:X.N[i]? = some x)(hx:Loc X.env.scope x)(r:RelV v u)(h:∀s',Inv X pins (σ.set i (some v)) H s'->(∃a,rX a s.heap s'.heap/\(a=X.env.locals\/X.env.cells.lookup x=some a))->Q () s')(hf:X.fn x=true\/X.env.scope.names.lookup x=some .local:=by first|exact .inl rfl|exact .inr rfl|assumption):wpAny M A (storeName X.env x u) Q E s:=by
 obtain⟨m,hn,hl⟩:=id I.loc;have hcls:(X.env.scope.kind==.class||(X.env.scope.kind==.module&&X.env.locals != X.env.globals))=false:=by rw[I.ok.kind];rfl
 have hiσ:i<σ.length:=by rw[I.len];exact(List.getElem?_eq_some_iff.mp hi).1
 have Cn:=I.Cn;have tracked:∀{a:Addr} {h':Heap},(∃o,s.heap.get? a=some o/\H a=none)->rX a s.heap h'->bV X.prog X.w H h':=λ{a h'} ha hs b ob e=>by
  obtain⟨_,_,hfree⟩:=ha;refine(I.A7 b ob e).qP (λc w' hc q=>(hs.2 c ?_).trans q) (λ_ q=>q) λ_ _ q=>q
  rintro rfl;rcases hc with rfl|hc
  . rw[hfree]at e;cases e
  . rw[hfree]at hc;cases hc
 rcases hx with hk|hk
 . refine wpAny_storeName_local hk hn (λh' hn' hs=>?_) hcls
   obtain⟨oL,_,_,hoL,_⟩:=id hn;refine h _ ⟨I.ok,I.os,I.bare,⟨λb o e n hb hx=>?_,λb o e n hb hx=>?_,I.base.free,λb o e hx=>?_,I.base.qM,I.base.ql,I.base.qN⟩,⟨_,hn',λj y v' e1 e2 e3=>?_⟩,λy c e=>?_,I.free,I.gS,λp hp=>?_,tracked ⟨oL,hoL,I.free⟩ hs,by simpa using I.len⟩ ⟨_,hs,.inl rfl⟩
   . exact(hs.2 b (X5 (M8 (B4 e) I.ok.above))).trans (I.base.keep b o e n hb hx)
   . obtain⟨sl,e1⟩:=I.base.slot b o e n hb hx;exact⟨sl,(hs.2 b (X5 (M8 (B4 e) I.ok.above))).trans e1⟩
   . obtain⟨o',e1⟩:=I.base.there b o e hx;exact⟨o',(hs.2 b (X5 (M8 (B4 e) I.ok.above))).trans e1⟩
   . by_cases hj:j=i
     . subst hj;rw[hi]at e1;cases e1;rw[nT hiσ]at e2;cases e2;exact⟨u,r,.inl ⟨hk,by simp⟩⟩
     . rw[aD (ie hj)]at e2;obtain⟨u',r',q⟩:=hl j y v' e1 e2 e3;refine⟨u',r',?_⟩;rcases q with ⟨k,e⟩|⟨k,c,e,z⟩
       . refine .inl ⟨k,?_⟩;have:y≠x:=λe=>hj (Bq hN e1 (e▸hi))
         simp[this,e]
       . exact .inr ⟨k,c,e,z.sameBut hs (Cn y c e)⟩
   . obtain⟨w',z⟩:=I.cell y c e;exact⟨w',z.sameBut hs (Cn y c e)⟩
   . obtain⟨e,n,ne,nf,d⟩:=I.pin p hp;exact⟨(hs.2 p.1 ne).trans e,n,ne,nf,d⟩
 . have hfn:X.fn x=true:=by
     rcases hf with z|z
     . exact z
     . rw[z]at hk;cases hk
   obtain⟨c,hc⟩:=I.ok.has x (.inl hk);obtain⟨w',z⟩:=I.cell x c hc;refine wpAny_storeName_cell I.ok.kind hk hc z (λh' hc' hs=>?_)
   obtain⟨oc,hoc,hocd⟩:=id z;refine h {s with heap:=h'} ⟨I.ok,I.os,I.bare,⟨λb o e n hb hx=>?_,λb o e n hb hx=>?_,I.base.free,λb o e hx=>?_,I.base.qM,I.base.ql,I.base.qN⟩,⟨m,hn.sameBut hs (ie (Cn x c hc)),λj y v' e1 e2 e3=>?_⟩,λy c' e=>?_,I.free,I.gS,λp hp=>?_,tracked ⟨oc,hoc,I.gS x c hc⟩ hs,by simpa using I.len⟩ ⟨c,hs,.inr hc⟩
   . exact(hs.2 b (X5 (M8 (B4 e) (I.ok.Hf x c hfn hc)))).trans (I.base.keep b o e n hb hx)
   . obtain⟨sl,e1⟩:=I.base.slot b o e n hb hx;exact⟨sl,(hs.2 b (X5 (M8 (B4 e) (I.ok.Hf x c hfn hc)))).trans e1⟩
   . obtain⟨o',e1⟩:=I.base.there b o e hx;exact⟨o',(hs.2 b (X5 (M8 (B4 e) (I.ok.Hf x c hfn hc)))).trans e1⟩
   . by_cases hj:j=i
     . subst hj;rw[hi]at e1;cases e1;rw[nT hiσ]at e2;cases e2;exact⟨u,r,.inr ⟨.inl hk,c,hc,hc'⟩⟩
     . rw[aD (ie hj)]at e2;obtain⟨u',r',q⟩:=hl j y v' e1 e2 e3;refine⟨u',r',?_⟩;rcases q with q|⟨k,c',e,z'⟩
       . exact .inl q
       . refine .inr ⟨k,c',e,z'.sameBut hs ?_⟩;rintro rfl;exact hj (Bq hN e1 (I.ok.inj _ _ _ e hc▸hi))
   . by_cases hcc:c'=c
     . subst hcc;exact⟨_,hc'⟩
     . obtain⟨w2,z2⟩:=I.cell y c' e;exact⟨w2,z2.sameBut hs hcc⟩
   . obtain⟨e,n,ne,nf,d⟩:=I.pin p hp;refine⟨(hs.2 p.1 ?_).trans e,n,ne,nf,d⟩;intro q;rw[q,hoc]at e;have q':oc=p.2:=aA e;exact d w' (by rw[<-q'];exact hocd)
theorem AF{M:Model}{i:Nat}{x:Str}(I:Inv X pins σ H s)(hN:X.N.Nodup)(hi:X.N[i]? = some x)(hx:Loc X.env.scope x)(r:RelV v u)(h:∀s',Inv X pins (σ.set i (some v)) H s'->Q () s')(hf:X.fn x=true\/X.env.scope.names.lookup x=some .local:=by first|exact .inl rfl|exact .inr rfl|assumption):wpAny M A (storeName X.env x u) Q E s :=
 JO I hN hi hx r (λs' I' _=>h s' I') hf
theorem Inv.ZF{s':h8}(I:Inv X pins σ H s)(ho:s'.os=s.os)(u:Un (N5 X.stack) ch H H' s.heap s'.heap)(A7:bV X.prog X.w H' s'.heap)(hg:ig s'.gens)(hch:∀b∈ch,(b∈X.ex\/X.O5.heap.objs.size<=b)/\b≠X.env.locals/\(∀x c,X.env.cells.lookup x=some c->c≠b)/\∀p∈X.pn++pins,p.1≠b):Inv X pins σ H' s':=by obtain⟨h',g',d',t',o'⟩:=s';have e:o'=s.os:=ho;subst e;exact I.call (g':=g') (t':=t') (d':=d') u A7 hg hch
end
abbrev XK:=c8->Option Addr->Hp->Prop
abbrev St:=List (Option V)
abbrev VK:=V->Hp->Prop
abbrev TE:=St->Hp->VK->Prop
abbrev TT:=St->Hp->(Bool->Hp->Prop)->Prop
abbrev TA:=St->Hp->(List V->Hp->Prop)->Prop
structure Ends where
 nx:St->Hp->Prop
 rt:VK
 bk:St->Hp->Prop:=λ_ _=>False
 ct:St->Hp->Prop:=λ_ _=>False
abbrev TS:=Ends->St->Hp->Prop
def EP(X:Cx)(pins:List (Addr×Obj))(σ:St)(Q:VK)(u:c8)(s':h8):Prop:=∃v H',Inv X pins σ H' s'/\RelV v u/\Q v H'
def TP(X:Cx)(pins:List (Addr×Obj))(σ:St)(Q:Bool->Hp->Prop)(b:Bool)(s':h8):Prop:=∃H',Inv X pins σ H' s'/\Q b H'
def AP(X:Cx)(pins:List (Addr×Obj))(σ:St)(Q:List V->Hp->Prop)(us:List c8)(s':h8):Prop:=∃vs H',Inv X pins σ H' s'/\Vals vs us/\Q vs H'
def SP(X:Cx)(pins:List (Addr×Obj))(D:Ends)(f:Flow)(s':h8):Prop :=
 match f with
 | .next=>∃σ' H',Inv X pins σ' H' s'/\D.nx σ' H'
 | .brk=>∃σ' H',Inv X pins σ' H' s'/\D.bk σ' H'
 | .cont=>∃σ' H',Inv X pins σ' H' s'/\D.ct σ' H'
 | .ret u=>∃v σ' H',Inv X pins σ' H' s'/\RelV v u/\D.rt v H'
def PE(X:Cx)(e:Expr)(t:TE):Prop :=
 ∀(pins:List (Addr×Obj)) (s:h8) (σ:St) (H:Hp) (Q:VK),Inv X pins σ H s->t σ H Q->wpAny (model X.prog X.w) X.A (eval e X.env) (EP X pins σ Q) X.xe s
def PT(X:Cx)(e:Expr)(t:TT):Prop :=
 ∀(pins:List (Addr×Obj)) (s:h8) (σ:St) (H:Hp) (Q:Bool->Hp->Prop),Inv X pins σ H s->t σ H Q->wpAny (model X.prog X.w) X.A (isTrue e X.env (eval e X.env)) (TP X pins σ Q) X.xe s
def PW(X:Cx)(e:Expr)(t:TT):Prop :=
 ∀(whole:Sem c8) (pins:List (Addr×Obj)) (s:h8) (σ:St) (H:Hp) (Q:Bool->Hp->Prop),Inv X pins σ H s->t σ H Q->wpAny (model X.prog X.w) X.A (isTrue e X.env whole) (TP X pins σ Q) X.xe s
theorem PW.pt{X:Cx}{e:Expr}{t:TT}(h:PW X e t):PT X e t:=h _
def PA(X:Cx)(es:List Expr)(t:TA):Prop :=
 ∀(pos:Pos) (pins:List (Addr×Obj)) (s:h8) (σ:St) (H:Hp) (Q:List V->Hp->Prop),Inv X pins σ H s->t σ H Q->wpAny (model X.prog X.w) X.A (spliced (A9 pos (j4 es X.env))) (AP X pins σ Q) X.xe s
def PS(X:Cx)(st:Stmt)(t:TS):Prop :=
 ∀(pins:List (Addr×Obj)) (s:h8) (σ:St) (H:Hp) (D:Ends),Inv X pins σ H s->t D σ H->wpAny (model X.prog X.w) X.A (exec st X.env) (SP X pins D) X.xe s
def nS(X:Cx)(st:List Stmt)(t:TS):Prop :=
 ∀(pins:List (Addr×Obj)) (s:h8) (σ:St) (H:Hp) (D:Ends),Inv X pins σ H s->t D σ H->wpAny (model X.prog X.w) X.A (execs st X.env) (SP X pins D) X.xe s
theorem C4{α:Type}{t:Sem α}{Q Q':α->h8->Prop}{M:Model}{s:h8}(h:wpAny M A t Q E s)(hQ:∀a s,Q a s->Q' a s):wpAny M A t Q' E s:=cG h hQ λ_ _ x=>x
end
section
variable{E Q:c8->h8->Prop}{pins:List (Addr×Obj)}{σ:St}{H:Hp}{u:c8}{v:V}{t:TE}
section
variable{X:Cx}
def E9(i:Nat):TE:=λσ H Q=>∃v,σ[i]? = some (some v)/\Q v H
def tC(v:V):TE:=λ_ H Q=>Q v H
theorem Xv{i:Nat}{x:Str}{pos:Pos}(hN:X.N[i]? = some x)(hv:TL X.env.scope x)(hd:(x==("__debug__" : Str))=false:=by decide)(hcd:(x==("__classdict__" : Str))=false:=by decide):PE X (.Name x pos) (E9 i):=by
 intro pins s σ H Q I h;obtain⟨v,e,h⟩:=h;obtain⟨m,hn,hl⟩:=I.loc;obtain⟨u,r,l⟩:=hl i x v hN e hv;have fin:EP X pins σ Q u s:=⟨v,H,I,r,h⟩;rcases l with ⟨hk,hm⟩|⟨hk,c,hc,hcell⟩
 . exact wpAny_Name (wpAny_loadName_local I.ok.kind hk hn hm fin) hd
 . rcases hk with hk|hk
   . exact wpAny_Name (wpAny_loadName_cell I.ok.kind hk hc hcell fin) hd
   . exact wpAny_Name (wpAny_loadName_free I.ok.kind hk hc hcell fin hcd) hd
theorem KA{i j pos}:PE X (.Constant (.int i) j pos) (tC (.int i)):=λ_ _ _ H _ I h=>wpAny_Constant_int ⟨.int i,H,I.tok _,⟨_,rfl⟩,h⟩
theorem Zr{b j pos}:PE X (.Constant (.bool b) j pos) (tC (.bl b)):=λ_ _ _ H _ I h=>Constant_bool ⟨.bl b,H,I,rfl,h⟩
theorem Xz{j pos}:PE X (.Constant .none j pos) (tC .non):=λ_ _ _ H _ I h=>Constant_none ⟨.non,H,I,rfl,h⟩
theorem Xw{x j pos}:PE X (.Constant (.str x) j pos) (tC (.str x)):=λ_ _ _ H _ I h=>Calls.Constant_str ⟨.str x,H,I.tok _,⟨_,rfl⟩,h⟩
def Gl(X:Cx)(x:Str):Prop:=X.env.kindOf x=some .globalImplicit
theorem ym{s:h8}{x:Str}{pos:Pos}(I:Inv X pins σ H s)(hg:Gl X x)(hm:X.mg x=some u)(h:Q u s)(hd:(x==("__debug__" : Str))=false:=by decide):wpAny (model X.prog X.w) X.A (eval (.Name x pos) X.env) Q E s :=
 Ot I.ok.kind hg (Calls.loadGlobal_global (by rw[I.ok.glob];exact I.mod.glob.keeps I.bk) hm h) hd
theorem oH{s:h8}{x:Str}{pos:Pos}(I:Inv X pins σ H s)(hg:Gl X x)(hm:X.mg x=none)(hv:ej x=some u)(h:Q u s)(hn:x ≠ "__name__":=by decide)(hd:(x==("__debug__" : Str))=false:=by decide):wpAny (model X.prog X.w) X.A (eval (.Name x pos) X.env) Q E s:=by obtain⟨mb,h1,h2⟩:=I.mod.blt;exact Ot I.ok.kind hg (Calls.loadGlobal_builtin (by rw[I.ok.glob];exact I.mod.glob.keeps I.bk) hm (by rw[I.ok.blt];exact h1.keeps I.bk) ((h2 x hn).trans hv) h) hd
theorem Vi{x:Str}{pos:Pos}(hg:Gl X x)(hm:X.mg x=some u)(r:RelV v u)(hd:(x==("__debug__" : Str))=false:=by decide):PE X (.Name x pos) (tC v) :=
 λ_ _ _ H _ I h=>ym I hg hm ⟨v,H,I,r,h⟩ hd
theorem sR{x:Str}{pos:Pos}(hg:Gl X x)(hm:X.mg x=none)(hv:ej x=some u)(r:RelV v u)(hn:x ≠ "__name__":=by decide)(hd:(x==("__debug__" : Str))=false:=by decide):PE X (.Name x pos) (tC v) :=
 λ_ _ _ H _ I h=>oH I hg hm hv ⟨v,H,I,r,h⟩ hn hd
variable{a b:Expr}{ta tb:TE}{pos:Pos}
def PC(X:Cx)(op:CmpOp)(a b:Expr)(t:TE):Prop :=
 ∀(pins:List (Addr×Obj)) (s:h8) (σ:St) (H:Hp) (Q:VK),Inv X pins σ H s->t σ H Q ->
  wpAny (model X.prog X.w) X.A (eval a X.env) (λv s₁=>wpAny (model X.prog X.w) X.A (eval b X.env) (λu s₂=>wpAny (model X.prog X.w) X.A (V5 op v u) (EP X pins σ Q) X.xe s₂) X.xe s₁) X.xe s
def tB(t:TE):TT:=λσ H Q=>t σ H λx H1=>∃c,x=.bl c/\Q c H1
theorem Xo{e:Expr}(h:PE X e t)(he:∀whole,isTrue e X.env whole=(do let v <- whole;cD e.pos;holding [v] (truthy v)):=by intro _;rfl):PT X e (tB t):=by
 intro pins s σ H Q I hw;refine isTrue_plain (C4 (h pins s σ H _ I hw) λv s1 ⟨x,H1,I1,r1,q1⟩=>?_) (he _)
 obtain⟨d,rfl,q⟩:=q1;cases r1;exact pF ⟨H1,I1,q⟩
variable{tA tB':TT}{rest:List Expr}
def OV(t u:TT):TT:=λσ H Q=>t σ H λc H1=>if c=true then u σ H1 Q else Q false H1
def WA(t u:TT):TT:=λσ H Q=>t σ H λc H1=>if c=true then Q true H1 else u σ H1 Q
def OS(t:TT):TT:=λσ H Q=>t σ H λc H1=>Q (!c) H1
theorem pw_and1(ha:PT X a tA):PW X (.BoolOp .And [a] pos) tA:=by
 intro wh pins s σ H Q I h;refine isTrue_and (C4 (ha pins s σ H Q I h) λc s1 e=>?_)
 cases c with
 |true=>exact isTrue_and_nil e
 |false=>exact e
theorem pw_or1(ha:PT X a tA):PW X (.BoolOp .Or [a] pos) tA:=by
 intro wh pins s σ H Q I h;refine isTrue_or (C4 (ha pins s σ H Q I h) λc s1 e=>?_)
 cases c with
 |false=>exact isTrue_or_nil e
 |true=>exact e
theorem pw_and(ha:PT X a tA)(hb:PW X (.BoolOp .And (b::rest) pos) tB'):PW X (.BoolOp .And (a::b::rest) pos) (OV tA tB'):=by
 intro wh pins s σ H Q I h;refine isTrue_and (C4 (ha pins s σ H _ I h) λc s1 ⟨H1,I1,q1⟩=>?_)
 cases c with
 |true=>exact hb wh pins s1 σ H1 Q I1 q1
 |false=>exact⟨H1,I1,q1⟩
theorem pw_or(ha:PT X a tA)(hb:PW X (.BoolOp .Or (b::rest) pos) tB'):PW X (.BoolOp .Or (a::b::rest) pos) (WA tA tB'):=by
 intro wh pins s σ H Q I h;refine isTrue_or (C4 (ha pins s σ H _ I h) λc s1 ⟨H1,I1,q1⟩=>?_)
 cases c with
 |true=>exact⟨H1,I1,q1⟩
 |false=>exact hb wh pins s1 σ H1 Q I1 q1
theorem Xp(ha:PT X a tA):PT X (.UnaryOp .Not a pos) (OS tA):=by intro pins s σ H Q I h;exact isTrue_not (ha pins s σ H (λc H1=>Q (!c) H1) I h)
def Sw(ta tb:TE):TE:=λσ H Q=>ta σ H λx H1=>∃c,x=.bl c/\if c=true then tb σ H1 Q else Q (.bl false) H1
def Wz(ta tb:TE):TE:=λσ H Q=>ta σ H λx H1=>∃c,x=.bl c/\if c=true then Q (.bl true) H1 else tb σ H1 Q
def Sr(ta:TE):TE:=λσ H Q=>ta σ H λx H1=>∃c,x=.bl c/\Q (.bl (!c)) H1
theorem Xx{op}(h:PE X a t):PE X (.BoolOp op [a] pos) t:=λpins s σ H Q I hw=>BoolOp_one (h pins s σ H Q I hw)
theorem XA(ha:PE X a ta)(hb:PE X (.BoolOp .And (b::rest) pos) tb):PE X (.BoolOp .And (a::b::rest) pos) (Sw ta tb):=by
 intro pins s σ H Q I h;refine BoolOp_and (C4 (ha pins s σ H _ I h) λv s1 ⟨x,H1,I1,r1,q1⟩=>?_)
 obtain⟨c,rfl,q1⟩:=q1;cases r1;refine pF ?_;cases c with
 |true=>exact hb pins s1 σ H1 Q I1 q1
 |false=>exact⟨.bl false,H1,I1,rfl,q1⟩
theorem Zp(ha:PE X a ta)(hb:PE X (.BoolOp .Or (b::rest) pos) tb):PE X (.BoolOp .Or (a::b::rest) pos) (Wz ta tb):=by
 intro pins s σ H Q I h;refine BoolOp_or (C4 (ha pins s σ H _ I h) λv s1 ⟨x,H1,I1,r1,q1⟩=>?_)
 obtain⟨c,rfl,q1⟩:=q1;cases r1;refine pF ?_;cases c with
 |false=>exact hb pins s1 σ H1 Q I1 q1
 |true=>exact⟨.bl true,H1,I1,rfl,q1⟩
theorem Xy(ha:PE X a ta):PE X (.UnaryOp .Not a pos) (Sr ta):=by
 intro pins s σ H Q I h;refine UnaryOp_ (C4 (ha pins s σ H _ I h) λv s1 ⟨x,H1,I1,r1,q1⟩=>?_)
 obtain⟨c,rfl,q1⟩:=q1;cases r1;exact not_of (pF ⟨.bl (!c),H1,I1,rfl,q1⟩)
def ZL(t:TT)(ta tb:TE):TE:=λσ H Q=>t σ H λc H1=>if c=true then ta σ H1 Q else tb σ H1 Q
theorem Qp{c:Expr}(hc:PT X c tA)(ha:PE X a ta)(hb:PE X b tb):PE X (.IfExp c a b pos) (ZL tA ta tb):=by
 intro pins s σ H Q I h;refine wpAny_IfExp (C4 (hc pins s σ H _ I h) λd s1 ⟨H1,I1,q1⟩=>?_)
 cases d with
 |true=>exact ha pins s1 σ H1 Q I1 q1
 |false=>exact hb pins s1 σ H1 Q I1 q1
end
end
section
variable{u:c8}{K:i5}{X:Cx}{E:c8->h8->Prop}{pins:List (Addr×Obj)}{σ:St}{H H':Hp}{a body:List Stmt}{tc:TT}{e tg:Expr}{es:List Expr}{to ti te:TE}{P:B1}{w:t9}
def D9(K:i5)(H:Hp)(a:Addr)(xs:List V):Prop :=
 Rd H a (.lst xs) \/
  ∃(o:Obj) (its:Array c8) (n:Nat),K.lookup a=some o/\o.cls=.type "list"/\o.dict=none/\o.data=.seq its n/\its.size<=B2/\Vals xs its.toList
def N6(K:i5)(H:Hp)(a:Addr)(xs:List V):Prop :=
 Rd H a (.tup xs) \/
  ∃(o:Obj) (its:Array c8) (n:Nat),K.lookup a=some o/\o.cls=.type "tuple"/\o.data=.seq its n/\its.size<=B2/\Vals xs its.toList
def a0l:c8->Option V
 | .none=>some .non
 | .bool b=>some (.bl b)
 | .int i _=>some (.int i)
 | .str x _=>some (.str x)
 | .bytes b _=>some (.byt b)
 | .float b _=>some (.flt b)
 | .ref a=>some (.ref a)
 | .type n=>some (.ty n)
 |_=>none
theorem RelV.abs{x:V}(r:RelV x u):a0l u=some x:=by
 cases x with
 |non=>cases r;rfl
 |bl _=>cases r;rfl
 |int _=>obtain⟨t,rfl⟩:=r;rfl
 |str _=>obtain⟨t,rfl⟩:=r;rfl
 |byt _=>obtain⟨t,rfl⟩:=r;rfl
 |flt _=>obtain⟨t,rfl⟩:=r;rfl
 |ref _=>cases r;rfl
 |ty _=>cases r;rfl
theorem RelV.inj{x y:V}{u:c8}(r:RelV x u)(q:RelV y u):x=y:=aA (r.abs.symm.trans q.abs)
theorem Vals.inj:∀{xs ys:List V} {us:List c8},Vals xs us->Vals ys us->xs=ys
 |_,_,_,.nil,.nil=>rfl
 |_,_,_,.cons r t,.cons r' t'=>by rw[r.inj r',Vals.inj t t']
section
variable{X:Cx}{pins:List (Addr×Obj)}{σ:St}{H:Hp}{s:h8}{a:Addr}{xs ys:List V}
theorem D9.of(h:H a=some (.lst xs)):D9 K H a xs:=.inl (.inl h)
theorem N6.of(h:H a=some (.tup xs)):N6 K H a xs:=.inl (.inl h)
theorem Inv.list(I:Inv X pins σ H s)(h:D9 X.K H a xs):∃its:List c8,Vals xs its/\PlainL s.heap a its.toArray/\xs.length<=B2:=by
 rcases h with h|⟨o,its,n,hk,hc,hd,hs,hz,r⟩
 . obtain⟨z,its,n,r,e⟩:=h.ok I.A7;exact⟨its,r,⟨_,n,e,rfl,rfl,rfl⟩,z⟩
 . refine⟨its.toList,r,⟨o,n,I.fB a o hk,hc,hd,by simpa using hs⟩,?_⟩
   have e:=r.length;simp only[xA]at e
   lia
theorem Inv.tuple(I:Inv X pins σ H s)(h:N6 X.K H a xs):∃its:List c8,Vals xs its/\fG s.heap a its.toArray/\xs.length<=B2:=by
 rcases h with h|⟨o,its,n,hk,hc,hs,hz,r⟩
 . obtain⟨z,its,r,p⟩:=h.ok I.A7;exact⟨its,r,p,z⟩
 . refine⟨its.toList,r,⟨o,I.fB a o hk,hc,n,by simpa using hs⟩,?_⟩
   have e:=r.length;simp only[xA]at e
   lia
theorem Inv.BA(I:Inv X pins σ H s)(h:D9 X.K H a xs)(h':D9 X.K H a ys):xs=ys:=by
 obtain⟨its,r,⟨o,n,e,_,_,d⟩,_⟩:=I.list h;obtain⟨its',r',⟨o',n',e',_,_,d'⟩,_⟩:=I.list h';rw[e]at e';cases e';rw[d]at d';injection d' with d1 _
 have:its=its':=by simpa using E6 Array.toList d1
 subst this;exact r.inj r'
theorem Inv.yN(I:Inv X pins σ H s)(h:N6 X.K H a xs)(h':N6 X.K H a ys):xs=ys:=by
 obtain⟨its,r,⟨o,e,_,n,d⟩,_⟩:=I.tuple h;obtain⟨its',r',⟨o',e',_,n',d'⟩,_⟩:=I.tuple h';rw[e]at e';cases e';rw[d]at d';injection d' with d1 _
 have:its=its':=by simpa using E6 Array.toList d1
 subst this;exact r.inj r'
end
abbrev Cx.nW(X:Cx)(E:c8->h8->Prop):Cx:={X with xe:=E}
abbrev Cx.vF(X:Cx):Cx:=X.nW λ_ _=>False
theorem Cx.Ok.nW{X:Cx}(ok:X.Ok)(E:c8->h8->Prop):(X.nW E).Ok :=
 ⟨ok.mod,ok.kind,ok.glob,ok.blt,ok.above,ok.inj,ok.has,ok.Hf,ok.hd,ok.frames,ok.JQ,ok.Tu,ok.bs,ok.qH,ok.uF,ok.yx,ok.jf,ok.zz⟩
theorem Cx.Ok.jJ(ok:(X.nW E).Ok):X.Ok :=
 ⟨ok.mod,ok.kind,ok.glob,ok.blt,ok.above,ok.inj,ok.has,ok.Hf,ok.hd,ok.frames,ok.JQ,ok.Tu,ok.bs,ok.qH,ok.uF,ok.yx,ok.jf,ok.zz⟩
section
variable{X:Cx}{pins:List (Addr×Obj)}{σ:St}{H:Hp}{s:h8}{E:c8->h8->Prop}
theorem Inv.nW(I:Inv X pins σ H s)(E:c8->h8->Prop):Inv (X.nW E) pins σ H s:=⟨I.ok.nW E,I.os,I.bare,I.base,I.loc,I.cell,I.free,I.gS,I.pin,I.A7,I.len⟩
theorem Inv.jJ(I:Inv (X.nW E) pins σ H s):Inv X pins σ H s:=⟨I.ok.jJ,I.os,I.bare,I.base,I.loc,I.cell,I.free,I.gS,I.pin,I.A7,I.len⟩
theorem SP.jJ{D:Ends}{f:Flow}{s':h8}(h:SP (X.nW E) pins D f s'):SP X pins D f s':=by
 cases f with
 |next=>obtain⟨σ',H',I,q⟩:=h;exact⟨σ',H',I.jJ,q⟩
 |brk=>obtain⟨σ',H',I,q⟩:=h;exact⟨σ',H',I.jJ,q⟩
 |cont=>obtain⟨σ',H',I,q⟩:=h;exact⟨σ',H',I.jJ,q⟩
 |ret u=>obtain⟨v,σ',H',I,r,q⟩:=h;exact⟨v,σ',H',I.jJ,r,q⟩
theorem nS.vF{st:List Stmt}{t:TS}(h:nS X.vF st t):nS X st t:=λpins s σ H D I hw =>
 cG (h pins s σ H D (I.nW _) hw) (λ_ _ q=>q.jJ) λ_ _ z=>bM z
end
section
variable{X:Cx}{st:Stmt}{rest:List Stmt}{t u:TS}{e:Expr}{te:TE}{pos:Pos}
def Ss:TS:=λD σ H=>D.nx σ H
def Wy(t u:TS):TS:=λD σ H=>t {D with nx:=u D} σ H
theorem UZ:nS X [] Ss:=λ_ _ σ H _ I h=>xo ⟨σ,H,I,h⟩
theorem Qa(h1:PS X st t)(h2:nS X rest u):nS X (st::rest) (Wy t u):=by
 intro pins s σ H D I h;refine wpAny_execs_cons (C4 (h1 pins s σ H {D with nx:=u D} I h) λf s1 q=>?_)
 cases f with
 |next =>
  obtain⟨σ',H',I',q⟩:=q;exact h2 pins s1 σ' H' D I' q
 |ret v=>exact q
 |brk=>exact q
 |cont=>exact q
theorem FU(h1:PS X st t):nS X [st] t:=by
 intro pins s σ H D I h;refine wpAny_execs_cons (C4 (h1 pins s σ H D I h) λf s1 q=>?_)
 cases f with
 |next=>exact xo q
 |ret v=>exact q
 |brk=>exact q
 |cont=>exact q
theorem Inv.quiet{s:h8}(I:Inv X pins σ H s):interactive X.env=false:=by simp[interactive,I.ok.kind]
def pT(te:TE):TS:=λD σ H=>te σ H λ_ H1=>D.nx σ H1
theorem lK(he:PE X e te)(hs:aK e none pos.line X.env=pure false:=by rfl):PS X (.Expr e pos) (pT te):=by intro pins s σ H D I h;exact wpAny_Expr_any (C4 (he pins s σ H _ I h) λv s1 ⟨x,H1,I1,r1,q1⟩=>⟨σ,H1,I1,q1⟩) I.quiet hs
def OR(te:TE):TS:=λD σ H=>te σ H D.rt
theorem Ko(he:PE X e te):PS X (.Return (some e) pos) (OR te):=by intro pins s σ H D I h;exact wpAny_Return_some (C4 (he pins s σ H _ I h) λv s1 ⟨x,H1,I1,r1,q1⟩=>⟨x,σ,H1,I1,r1,q1⟩)
def So:TS:=λD _ H=>D.rt .non H
theorem Va:PS X (.Return none pos) So:=λ_ _ σ H _ I h=>wpAny_Return_none ⟨.non,σ,H,I,rfl,h⟩
def WB(c:TT)(t u:TS):TS:=λD σ H=>c σ H λb H1=>if b=true then t D σ H1 else u D σ H1
theorem Zn{c:Expr}{b:List Stmt}(hc:PT X c tc)(ha:nS X a t)(hb:nS X b u):PS X (.If c a b pos) (WB tc t u):=by
 intro pins s σ H D I h;refine wpAny_If (C4 (hc pins s σ H _ I h) λd s1 ⟨H1,I1,q1⟩=>?_)
 cases d with
 |true=>exact ha pins s1 σ H1 D I1 q1
 |false=>exact hb pins s1 σ H1 D I1 q1
def JM:TS:=λ_ _ _=>False
theorem Qc:PS X st JM:=λ_ _ _ _ _ _ h=>h.elim
end
abbrev TG:=V->St->Hp->(St->Hp->Prop)->Prop
abbrev qI:=List V->St->Hp->(St->Hp->Prop)->Prop
def PG(X:Cx)(target:Expr)(t:TG):Prop :=
 ∀(pins:List (Addr×Obj)) (s:h8) (σ:St) (H:Hp) (v:V) (u:c8) (Q:St->Hp->Prop),Inv X pins σ H s->RelV v u->t v σ H Q ->
  wpAny (model X.prog X.w) X.A (assign target X.env u) (λ_ s'=>∃σ' H',Inv X pins σ' H' s'/\Q σ' H') X.xe s
def ML(X:Cx)(ts:List Expr)(t:qI):Prop :=
 ∀(pins:List (Addr×Obj)) (s:h8) (σ:St) (H:Hp) (vs:List V) (us:List c8) (Q:St->Hp->Prop),Inv X pins σ H s->Vals vs us->t vs σ H Q ->
  wpAny (model X.prog X.w) X.A (assignInOrder ((jY ts X.env).map (·.2)) us) (λ_ s'=>∃σ' H',Inv X pins σ' H' s'/\Q σ' H') X.xe s
abbrev RV:=V->V->V->Hp->(Hp->Prop)->Prop
def YN(X:Cx)(t:RV):Prop :=
 ∀(pins:List (Addr×Obj)) (s:h8) (σ:St) (H:Hp) (o i v:V) (ov iv u:c8) (Q:Hp->Prop),Inv X pins σ H s->RelV o ov->RelV i iv->RelV v u->t o i v H Q ->
  wpAny (model X.prog X.w) X.A (setItem ov iv u) (λ_ s'=>∃H',Inv X pins σ H' s'/\Q H') X.xe s
section
variable{X:Cx}{pos:Pos}
def Y8(i:Nat):TG:=λv σ H Q=>Q (σ.set i (some v)) H
theorem FY{i:Nat}{x:Str}(hN:X.N.Nodup)(hi:X.N[i]? = some x)(hx:Loc X.env.scope x)(hf:X.fn x=true\/X.env.scope.names.lookup x=some .local:=by first|exact .inl rfl|exact .inr rfl|assumption):PG X (.Name x pos) (Y8 i):=by intro pins s σ H v u Q I r h;exact wpAny_assign_Name (AF I hN hi hx r (λs' I'=>⟨_,H,I',h⟩) hf)
def IV:qI:=λvs σ H Q=>vs=[]/\Q σ H
def tF(t:TG)(u:qI):qI:=λvs σ H Q=>∃v r,vs=v::r/\t v σ H λσ' H'=>u r σ' H' Q
theorem Vg:ML X [] IV:=by intro pins s σ H vs us Q I r h;obtain⟨e,h⟩:=h;subst e;cases r;exact assignInOrder_nil ⟨σ,H,I,h⟩
theorem Qm{t:TG}{u:qI}(h1:PG X e t)(h2:ML X es u)(hs:(jY (e::es) X.env).map (·.2)=assign e X.env::(jY es X.env).map (·.2):=by rfl):ML X (e::es) (tF t u):=by
 intro pins s σ H vs us Q I r h;obtain⟨v,vr,e1,h⟩:=h;subst e1;cases r with
 |cons r rr =>
  rw[hs];refine assignInOrder_cons (C4 (h1 pins s σ H _ _ _ I r h) λ_ s1 ⟨σ1,H1,I1,q1⟩=>?_)
  exact h2 pins s1 σ1 H1 _ _ Q I1 rr q1
def BQ(K:i5)(n:Nat)(t:qI):TG:=λv σ H Q=>∃a xs,v=.ref a/\N6 K H a xs/\xs.length=n/\t xs σ H Q
theorem Xu{k:Nat}{t:qI}{n:Nat}(hc:X.calm=true)(h:ML X es t)(hn:(jY es X.env).length=n:=by rfl)(hst:(jY es X.env).findIdx? (·.1)=none:=by rfl):PG X (.Tuple es k pos) (BQ X.K n t):=by
 intro pins s σ H v u Q I r hw;obtain⟨a,xs,e1,hq,hl,hw⟩:=hw;subst e1;cases r;obtain⟨its,rv,ht,hz⟩:=I.tuple hq;refine assign_Tuple_tuple (I.ok.hd hc) ht (by simp[hn,<-hl,rv.length]) hst λh' hx=>?_
 have I1:Inv X pins σ H {s with heap:=h'}:=I.kept (t':=s.toks) λb o e=>hx b o (X5 (B4 e)) e
 exact h pins _ σ H xs _ Q I1 (by simpa using rv) hw
def Rg(to ti:TE)(t:RV):TG:=λv σ H Q=>to σ H λo H1=>ti σ H1 λi H2=>t o i v H2 λH3=>Q σ H3
theorem Kx {o i:Expr} {t:RV} (ho:PE X o to) (hi:PE X i ti) (hs:YN X t) (ha:∀v,assign (.Subscript o i pos) X.env v=(do
   let ov <- holding [v] (eval o X.env)
   let iv <- holding [v,ov] (eval i X.env)
   cD pos
   holding [v,ov,iv] (setItem ov iv v)
   release [v,ov,iv] []):=by intro _;rfl):PG X (.Subscript o i pos) (Rg to ti t):=by
 intro pins s σ H v u Q I r h;rw[ha];refine wpAny_bind (kh (C4 (ho pins s σ H _ I h) λov s1 ⟨x,H1,I1,r1,q1⟩=>?_))
 refine wpAny_bind (kh (C4 (hi pins s1 σ H1 _ I1 q1) λiv s2 ⟨y,H2,I2,r2,q2⟩=>?_))
 refine wpAny_bind (Dl (wpAny_bind (kh (C4 (hs pins s2 σ H2 x y v ov iv u _ I2 r1 r2 r q2) λ_ s3 ⟨H3,I3,q3⟩=>?_))))
 exact wpAny_release ⟨σ,H3,I3,q3⟩
def lO(te:TE)(g:TG):TS:=λD σ H=>te σ H λx H1=>g x σ H1 D.nx
theorem Kq{g:TG}(he:PE X e te)(hg:PG X tg g)(hs:Dk [tg] e pos.line X.env=pure false:=by rfl)(hw:Dj [tg] e X.env=pure none:=by rfl)(h1:(jY [tg] X.env).map (·.2)=[assign tg X.env]:=by rfl):PS X (.Assign [tg] e pos) (lO te g):=by
 intro pins s σ H D I h;refine wpAny_Assign_stores (C4 (he pins s σ H _ I h) λv s1 ⟨x,H1,I1,r1,q1⟩=>?_) hs hw
 rw[h1];exact C4 (hg pins s1 σ H1 x v _ I1 r1 q1) λ_ s2 q=>q
theorem Kn{i:Nat}{x:Str}{pos':Pos}(hN:X.N.Nodup)(hi:X.N[i]? = some x)(hx:Loc X.env.scope x)(he:PE X e te)(hs:aK e (some (.Name x pos')) pos.line X.env=pure false:=by rfl)(hf:X.fn x=true\/X.env.scope.names.lookup x=some .local:=by first|exact .inl rfl|exact .inr rfl|assumption):
  PS X (.Assign [.Name x pos'] e pos) (lO te (Y8 i)):=by
 intro pins s σ H D I h;refine wpAny_Assign_Name (C4 (he pins s σ H _ I h) λv s1 ⟨y,H1,I1,r1,q1⟩=>?_) hs
 exact AF I1 hN hi hx r1 (λs2 I2=>⟨_,H1,I2,q1⟩) hf
end
section
variable{X:Cx}{pos:Pos}
def JL(c:TT)(tb:TS):TS:=λD σ H=>∃W:Nat->St->Hp->Prop,(∃m,W m σ H)/\∀m σ H,W m σ H ->
 c σ H λb H1=>if b=true then ∃N:St->Hp->Prop,(∀σ' H',N σ' H'->∃m',m'<m/\W m' σ' H')/\tb {D with nx:=N,ct:=N,bk:=D.nx} σ H1 else D.nx σ H1
theorem Qb{c:Expr}{tb:TS}(hp:oW (model X.prog X.w) X.A X.env X.xe)(hc:PT X c tc)(hb:nS X body tb):PS X (.While c body [] pos) (JL tc tb):=by
 intro pins s σ H D I h;obtain⟨W,⟨m0,w0⟩,turn⟩:=h;refine wpAny_While (codeAny_whileLoop (λn s'=>∃σ' H',Inv X pins σ' H' s'/\W n σ' H') ?_ m0 ⟨σ,H,I,w0⟩)
 rintro n s1 ⟨σ1,H1,I1,w1⟩;refine mS hp (C4 (hc pins s1 σ1 H1 _ I1 (turn n σ1 H1 w1)) λb s2 ⟨H2,I2,q2⟩=>?_)
 cases b with
 |true =>
  obtain⟨N,hN,q2⟩:=q2;rw[c7 rfl];refine mS hp (C4 (hb pins s2 σ1 H2 _ I2 q2) λf s3 q3=>?_)
  cases f with
  |next =>
   obtain⟨σ3,H3,I3,n3⟩:=q3;obtain⟨m',hm,w3⟩:=hN σ3 H3 n3;exact⟨m',hm,σ3,H3,I3,w3⟩
  |cont =>
   obtain⟨σ3,H3,I3,n3⟩:=q3;obtain⟨m',hm,w3⟩:=hN σ3 H3 n3;exact⟨m',hm,σ3,H3,I3,w3⟩
  |brk=>exact q3
  |ret v=>exact q3
 |false =>
  rw[c9 Q9];exact xo ⟨σ1,H2,I2,q2⟩
end
structure It where
 go:Nat->Hp->Prop
 Jv:Nat->Hp->V->Hp->Prop
 stop:Nat->Hp->Prop
def kR(X:Cx)(pins:List (Addr×Obj))(H:Hp)(b:Addr):Prop :=
 H b=none/\b≠X.env.locals/\b∉X.fs/\(b∈X.ex\/X.O5.heap.objs.size<=b)/\(∀x c,X.env.cells.lookup x=some c->c≠b)/\∀p∈X.pn++pins,p.1≠b
theorem Inv.yt{s:h8}{b:Addr}(I:Inv X pins σ H s)(hb:s.heap.objs.size<=b)(hn:H' b=none):kR X pins H' b:=by
 refine⟨hn,mL (M8 I.lt hb),I.QD hb,.inr (P4 I.sz hb),λx c e z=>?_,λp hp z=>?_⟩
 . obtain⟨v,q⟩:=I.cell x c e;exact absurd (M8 q.lt (by rw[z];exact hb)) (X6 _)
 . exact absurd (M8 (B4 (I.pin p hp).1) (by rw[z];exact hb)) (X6 _)
structure Turn(P:B1)(w:t9)(K:i5)(tg:Expr)(J:It)(fp:List Addr)(it:Addr)(tn:Nat->Heap->Prop):Prop where
 mem:it∈fp
 obj:∀i h,tn i h->∀b∈fp,∃o,h.get? b=some o/\∀v,o.data≠.cell v
 keep:∀i h h',tn i h->(∀b∈fp,∀o,h.get? b=some o->h'.get? b=some o)->tn i h'
 item:∀(X:Cx),X.prog=P->X.w=w->X.K=K->X.calm=true->∀(i:Nat) (pins:List (Addr×Obj)) (s:h8) (σ:St) (H:Hp) (E:c8->h8->Prop),Inv X pins σ H s->(∀b∈fp,kR X pins H b)->tn i s.heap->J.go i H ->
  wpAny (model P w) X.A (jW (.ref it)) (λr s1=>∃u,r=some u /\
   wpAny (model P w) X.A (xn tg (.ref it) u) (λ_ s2=>∃x H',Inv X pins σ H' s2/\RelV x u/\J.Jv i H x H'/\tn (i+1) s2.heap/\∀b∈fp,H' b=none) E s1) E s
 done:∀(X:Cx),X.prog=P->X.w=w->X.K=K->X.calm=true->∀(i:Nat) (pins:List (Addr×Obj)) (s:h8) (σ:St) (H:Hp) (E:c8->h8->Prop),Inv X pins σ H s->(∀b∈fp,kR X pins H b)->tn i s.heap->J.stop i H ->
  wpAny (model P w) X.A (jW (.ref it)) (λr s1=>r=none/\Inv X pins σ H s1) E s
 self:∀(A:A2) (i:Nat) (s:h8) (Q:c8->h8->Prop) (E:c8->h8->Prop),tn i s.heap->Q (.ref it) s->wpAny (model P w) A (pyIter (.ref it)) Q E s
abbrev TI:=St->Hp->(It->Hp->Prop)->Prop
def ZX(X:Cx)(pins:List (Addr×Obj))(σ:St)(tg:Expr)(R:It->Hp->Prop)(itv:c8)(s2:h8):Prop :=
 ∃(it:Addr) (fp:List Addr) (tn:Nat->Heap->Prop) (J:It) (H':Hp),itv=.ref it/\Inv X pins σ H' s2/\Turn X.prog X.w X.K tg J fp it tn/\tn 0 s2.heap/\(∀b∈fp,kR X pins H' b)/\R J H'
def PI(X:Cx)(tg iter:Expr)(wi:TI):Prop :=
 ∀(pins:List (Addr×Obj)) (s:h8) (σ:St) (H:Hp) (R:It->Hp->Prop),Inv X pins σ H s->wi σ H R ->
  wpAny (model X.prog X.w) X.A (eval iter X.env) (λv s1=>wpAny (model X.prog X.w) X.A (pyIter v) (ZX X pins σ tg R) X.xe s1) X.xe s
theorem IS{M:Model}{A:A2}{s:h8}{it:Addr}{o:Obj}{n:String}{vs:Array c8}{Q:Unit->h8->Prop}(ho:s.heap.get? it=some o)(hc:o.cls=.type n)(hd:o.data=.fields vs)(hn:["enumerate","zip","dict_itemiterator","dict_reverseitemiterator","odict_iterator","itertools.zip_longest","itertools.pairwise"].contains n=false)(hQ:Q () s):wpAny M A (xn tg (.ref it) u) Q E s:=by
 delta xn;cases tg<;>first
  |exact n9 hQ
  |(cases u<;>first
    |exact n9 hQ
    | (refine wpAny_bind (wpAny_load ho ?_)
       rw[hc,hd];show wpAny M A (if (["enumerate","zip","dict_itemiterator","dict_reverseitemiterator","odict_iterator","itertools.zip_longest","itertools.pairwise"].contains n&&vs[0]?==some (jV _))=true then _ else _) Q E s
       rw[c9 (by intro h;rw[hn,xh]at h;cases h)]
       exact n9 hQ))
def Oz(K:i5)(a:Addr):It :=
 ⟨λi H=>∃xs x,D9 K H a xs/\xs[i]? = some x,λi H x H'=>H'=H/\∀xs,D9 K H a xs->xs[i]? = some x,λi H=>∃xs,D9 K H a xs/\xs.length<=i⟩
def Itt(K:i5)(a:Addr):It :=
 ⟨λi H=>∃xs x,N6 K H a xs/\xs[i]? = some x,λi H x H'=>H'=H/\∀xs,N6 K H a xs->xs[i]? = some x,λi H=>∃xs,N6 K H a xs/\xs.length<=i⟩
def TY(lo:Int)(n:Nat):It:=⟨λi _=>i<n,λi H x H'=>H'=H/\x=.int (lo+i),λi _=>n<=i⟩
theorem JF(a it:Addr):Turn P w K tg (Oz K a) [it] it (λi h=>h.IsListIter it a i) where
 mem:=by simp
 obj:=λi h st b hb=>by
  have e:b=it:=by simpa using hb
  subst e;obtain⟨o,e,c,d⟩:=st;exact⟨o,e,λv z=>by rw[d]at z;cases z⟩
 keep:=λi h h' st k=>st.at λo e=>k it (by simp) o e
 item:=by
  intro X hP hw hK hc i pins s σ H E I hf st hg;subst hP hw hK;obtain⟨xs,x,hq,hx⟩:=hg;obtain⟨its,rv,p,hz⟩:=I.list hq;obtain⟨u,hu,ru⟩:=rv.get hx;obtain⟨f0,f1,f2,f3,f4,f5⟩:=hf it (by simp)
  refine wpAny_pyNext_list_item st p.isList (x:=u) (by simpa using hu) λh' st' sb=>?_
  have I1:Inv X pins σ H {s with heap:=h'}:=I.turned (t':=s.toks) (λb o hb e=>(sb.2 b hb).trans e) f0 f1 f3 f4 f5
  obtain⟨o,e,c,d⟩:=id st';exact⟨u,rfl,IS (s:={s with heap:=h'}) e c d (by decide) ⟨x,H,I1,ru,⟨rfl,λys hy=>by rw[I.BA hy hq];exact hx⟩,st',λb hb=>(hf b hb).1⟩⟩
 done:=by
  intro X hP hw hK hc i pins s σ H E I hf st hg;subst hP hw hK;obtain⟨xs,hq,hx⟩:=hg;obtain⟨its,rv,p,hz⟩:=I.list hq;obtain⟨f0,f1,f2,f3,f4,f5⟩:=hf it (by simp)
  have hl:=rv.length;exact wpAny_pyNext_list_end (I.ok.hd hc) st p.isList (by simp;lia) λh' eb=>⟨rfl,I.turned (t':=s.toks) (λb o hb e=>eb b o hb e) f0 f1 f3 f4 f5⟩
 self:=λ_ _ _ _ _ st h=>wpAny_pyIter_listiter st h
theorem Ht(a it:Addr):Turn P w K tg (Itt K a) [it] it (λi h=>h.IsTupleIter it a i) where
 mem:=by simp
 obj:=λi h st b hb=>by
  have e:b=it:=by simpa using hb
  subst e;obtain⟨o,e,c,d⟩:=st;exact⟨o,e,λv z=>by rw[d]at z;cases z⟩
 keep:=λi h h' st k=>st.at λo e=>k it (by simp) o e
 item:=by
  intro X hP hw hK hc i pins s σ H E I hf st hg;subst hP hw hK;obtain⟨xs,x,hq,hx⟩:=hg;obtain⟨its,rv,p,hz⟩:=I.tuple hq;obtain⟨u,hu,ru⟩:=rv.get hx;obtain⟨f0,f1,f2,f3,f4,f5⟩:=hf it (by simp)
  refine wpAny_pyNext_tuple_item st (show s.heap.IsTuple a its.toArray from p) (x:=u) (by simpa using hu) λh' st' sb=>?_
  have I1:Inv X pins σ H {s with heap:=h'}:=I.turned (t':=s.toks) (λb o hb e=>(sb.2 b hb).trans e) f0 f1 f3 f4 f5
  obtain⟨o,e,c,d⟩:=id st';exact⟨u,rfl,IS (s:={s with heap:=h'}) e c d (by decide) ⟨x,H,I1,ru,⟨rfl,λys hy=>by rw[I.yN hy hq];exact hx⟩,st',λb hb=>(hf b hb).1⟩⟩
 done:=by
  intro X hP hw hK hc i pins s σ H E I hf st hg;subst hP hw hK;obtain⟨xs,hq,hx⟩:=hg;obtain⟨its,rv,p,hz⟩:=I.tuple hq;obtain⟨f0,f1,f2,f3,f4,f5⟩:=hf it (by simp)
  have hl:=rv.length;exact wpAny_pyNext_tuple_end (I.ok.hd hc) st (show s.heap.IsTuple a its.toArray from p) (by simp;lia) λh' eb=>⟨rfl,I.turned (t':=s.toks) (λb o hb e=>eb b o hb e) f0 f1 f3 f4 f5⟩
 self:=λ_ _ _ _ _ st h=>wpAny_pyIter_tupleiter st h
theorem Hu(it:Addr)(lo:Int)(n:Nat):Turn P w K tg (TY lo n) [it] it (λi h=>IsRangeIter h it (lo+(i:Nat)*1) ((n:Int)-(i:Nat)) 1) where
 mem:=by simp
 obj:=λi h st b hb=>by
  have e:b=it:=by simpa using hb
  subst e;exact⟨_,st,λv z=>by have z':Data.fields _=Data.cell v:=z;cases z'⟩
 keep:=λi h h' st k=>k it (by simp) _ st
 item:=by
  intro X hP hw hK hc i pins s σ H E I hf st hg;subst hP hw hK;obtain⟨f0,f1,f2,f3,f4,f5⟩:=hf it (by simp)
  have W:=Walks.range (prog:=X.prog) (w:=X.w) (I.ok.hd hc) it lo 1 n;refine W.item i s _ _ hg st λv h' tk hv st' kk=>?_
  obtain⟨t,rfl⟩:=hv;have I1:Inv X pins σ H {s with heap:=h',toks:=tk}:=I.turned (λb o hb e=>kk b o (by simpa using hb) e) f0 f1 f3 f4 f5
  refine⟨_,rfl,IS (s:={s with heap:=h',toks:=tk}) (n:="range_iterator") st' rfl rfl (by decide) ⟨.int (lo+i),H,I1,⟨t,?_⟩,⟨rfl,rfl⟩,st',λb hb=>(hf b hb).1⟩⟩
  rw[cH]
 done:=by
  intro X hP hw hK hc i pins s σ H E I hf st hg;subst hP hw hK;obtain⟨f0,f1,f2,f3,f4,f5⟩:=hf it (by simp)
  exact wpAny_pyNext_range_end (I.ok.hd hc) st (by have:n<=i:=hg;lia) λh' eb=>⟨rfl,I.turned (t':=s.toks) (λb o hb e=>eb b o hb e) f0 f1 f3 f4 f5⟩
 self:=λ_ _ _ _ _ st h=>wpAny_pyIter_rangeiter st h
end
section
variable{pins pl:List (Addr×Obj)}{σ:St}{H:Hp}{t u v:Tok}{a iter:Expr}{fp:List Addr}{h:Heap}{g:TG}{tb:TS}
section
variable{X:Cx}{tg:Expr}
theorem Pp{s:h8}{R:It->Hp->Prop}{E:c8->h8->Prop}{lo hi:Int}{tk:Nat}(I:Inv X pins σ H s)(h1 : -(2 ^ 62)<=lo)(h2:lo<2 ^ 62)(h3 : -(2 ^ 62)<=hi)(h4:hi<2 ^ 62)(q:R (TY lo (hi-lo).toNat) H):wpAny (model X.prog X.w) X.A (pyIter (.ref s.heap.objs.size)) (ZX X pins σ tg R) E {s with heap:=s.heap.push {cls:=.type "range",data:=.fields #[.int lo t,.int hi u,.int 1 v]},toks:=tk}:=by
 refine wpAny_pyIter_range (IsRange.new ..) (small_one h1 h2 h3 h4) ?_;have I1:Inv X pins σ H {s with heap:=s.heap.push {cls:=.type "range",data:=.fields #[.int lo t,.int hi u,.int 1 v]},toks:=tk}:=I.kept λb o e=>E5 _ e
 refine⟨(s.heap.push {cls:=.type "range",data:=.fields #[.int lo t,.int hi u,.int 1 v]}).objs.size,[(s.heap.push {cls:=.type "range",data:=.fields #[.int lo t,.int hi u,.int 1 v]}).objs.size],_,_,H,rfl,
  I1.kept (t':=tk) λb o e=>E5 _ e,Hu _ lo (hi-lo).toNat,?_,λb hb=>?_,q⟩
 . have e1:lo+((0:Nat):Int)*1=lo:=by simp
   have e2:(((hi-lo).toNat:Nat):Int)-((0:Nat):Int)=Oe lo hi 1:=by rw[rangeSize_one];split<;>lia
   show IsRangeIter _ _ (lo+((0:Nat):Int)*1) ((((hi-lo).toNat:Nat):Int)-((0:Nat):Int)) 1
   rw[e1,e2];exact S7 _ rfl
 . have e:b=(s.heap.push {cls:=.type "range",data:=.fields #[.int lo t,.int hi u,.int 1 v]}).objs.size:=by simpa using hb
   subst e;exact I1.yt (l5 _) (I1.A7.fresh (l5 _))
def SU(ta:TA):TI:=λσ H R=>ta σ H λvs H1=>∃j:Int,vs=[.int j]/\-(2 ^ 62)<=j/\j<2 ^ 62/\R (TY 0 j.toNat) H1
theorem Kw{ta:TA}{p pos:Pos}(hg:Gl X "range")(hm:X.mg "range" = none)(ha:PA X [a] ta)(hs:j4 [a] X.env=[(false,eval a X.env)]:=by rfl):PI X tg (.Call (.Name "range" p) [a] [] pos) (SU ta):=by
 intro pins s σ H R I h;refine Call_ (oH I hg hm boot_range (xM (C4 (ha pos pins s σ H _ I h) λus s1 ⟨vs,H1,I1,r1,q1⟩=>?_) hs rfl))
 obtain⟨j,e,q1,q2,q⟩:=q1;subst e;cases r1 with
 |cons r rr =>
  cases rr;obtain⟨t,rfl⟩:=r;exact call_range_1 (Pp I1 (by lia) (by lia) q1 q2 (by simpa using q))
def Hx(wi:TI)(g:TG)(tb:TS):TS:=λD σ H=>wi σ H λJ H1=>∃W:Nat->Nat->St->Hp->Prop,(∃m,W 0 m σ H1)/\∀i m σ H,W i m σ H ->
 (J.stop i H/\D.nx σ H)\/(J.go i H/\∃N:St->Hp->Prop,(∀σ' H',N σ' H'->∃m',m'<m/\W (i+1) m' σ' H')/\∀x H',J.Jv i H x H'->g x σ H' λσ2 H2=>tb {D with nx:=N,ct:=N,bk:=D.nx} σ2 H2)
def qV(fp:List Addr)(h:Heap):List (Addr×Obj):=fp.filterMap λb=>(h.get? b).map λo=>(b,o)
theorem ll{b:Addr}{o:Obj}(hb:b∈fp)(e:h.get? b=some o):(b,o)∈qV fp h:=List.mem_filterMap.mpr ⟨b,hb,by rw[e];rfl⟩
theorem Lg{p:Addr×Obj}(hp:p∈qV fp h):p.1∈fp/\h.get? p.1=some p.2:=by
 obtain⟨b,hb,e⟩:=List.mem_filterMap.mp hp;cases q:h.get? b with
 |none=>rw[q]at e;cases e
 |some o =>
  rw[q]at e;have e':(b,o)=p:=aA e;subst e';exact⟨hb,q⟩
theorem Inv.pinned{s:h8}(I:Inv X pins σ H s)(hf:∀b∈fp,kR X pins H b)(ho:∀b∈fp,∃o,s.heap.get? b=some o/\∀v,o.data≠.cell v):Inv X (pins++qV fp s.heap) σ H s :=
 I.ja λp hp=>(List.mem_append.mp hp).elim (λz=>I.pin p (M9 _ z)) λz=>by obtain⟨hb,e⟩:=Lg z;obtain⟨f0,f1,f2,_⟩:=hf p.1 hb;obtain⟨o,e',d⟩:=ho p.1 hb;rw[e]at e';cases e';exact⟨e,f0,f1,f2,d⟩
theorem Inv.uj{s:h8}(I:Inv X (pins++pl) σ H s):Inv X pins σ H s:=I.ja λp hp=>I.pin p (M9 _ (ia _ hp))
theorem Kp{body:List Stmt}{wi:TI}{pos:Pos}(hp:oW (model X.prog X.w) X.A X.env X.xe)(hc:X.calm=true)(hi:PI X tg iter wi)(hg:PG X tg g)(hb:nS X body tb)(hs:∀x,eu iter X.env x=pure x:=by intro _;rfl):PS X (.For tg iter body [] pos) (Hx wi g tb):=by
 intro pins s σ H D I h;refine wpAny_For (C4 (hi pins s σ H _ I h) λv s1 h1=>C4 h1 λitv s2 h2=>?_) hs
 obtain⟨it,fp,tn,J,H2,e,I2,T,st2,f2,W,⟨m0,w0⟩,turn⟩:=h2;subst e;have stat:∀{H':Hp},(∀b∈fp,H' b=none)->∀b∈fp,kR X pins H' b:=λhn b hb=>⟨hn b hb,(f2 b hb).2⟩
 refine codeAny_forLoop_any (λn s'=>∃i σ' H',Inv X pins σ' H' s'/\tn i s'.heap/\(∀b∈fp,H' b=none)/\W i n σ' H') ?_ m0 ⟨0,σ,H2,I2,st2,λb hb=>(f2 b hb).1,w0⟩
 rintro n s3 ⟨i,σ3,H3,I3,st3,fr3,w3⟩;rcases turn i n σ3 H3 w3 with ⟨stop,qn⟩|⟨go,N,hN,step⟩
 . refine mS hp (C4 (T.done X rfl rfl rfl hc i pins s3 σ3 H3 X.xe I3 (stat fr3) st3 stop) λr s4 ⟨hr,I4⟩=>?_)
   subst hr;exact xo ⟨σ3,H3,I4,qn⟩
 . refine mS hp (C4 (T.item X rfl rfl rfl hc i pins s3 σ3 H3 X.xe I3 (stat fr3) st3 go) λr s4 ⟨u,hr,h4⟩=>?_)
   subst hr;refine mS hp (C4 h4 λ_ s5 ⟨x,H5,I5,r5,y5,st5,fr5⟩=>?_)
   have I5':=I5.pinned (stat fr5) (T.obj _ _ st5);refine mS hp (C4 (hg _ s5 σ3 H5 x u _ I5' r5 (step x H5 y5)) λ_ s6 ⟨σ6,H6,I6,q6⟩=>?_)
   refine mS hp (C4 (hb _ s6 σ6 H6 _ I6 q6) λf s7 q7=>?_)
   have again:∀{σ7:St} {H7:Hp},Inv X (pins++qV fp s5.heap) σ7 H7 s7->N σ7 H7->∃m,m<n/\∃i σ' H',Inv X pins σ' H' s7/\tn i s7.heap/\(∀b∈fp,H' b=none)/\W i m σ' H':=λ{σ7 H7} I7 n7=>by
    obtain⟨m',hm,w7⟩:=hN σ7 H7 n7;refine⟨m',hm,i+1,σ7,H7,I7.uj,T.keep _ _ _ st5 λb hb o e=>(I7.pin (b,o) (M9 _ (M9 _ (ll hb e)))).1,λb hb=>?_,w7⟩
    obtain⟨o,e,d⟩:=T.obj _ _ st5 b hb;exact(I7.pin (b,o) (M9 _ (M9 _ (ll hb e)))).2.1
   cases f with
   |next=>obtain⟨σ7,H7,I7,n7⟩:=q7;exact again I7 n7
   |cont=>obtain⟨σ7,H7,I7,n7⟩:=q7;exact again I7 n7
   |brk=>obtain⟨σ7,H7,I7,q7⟩:=q7;exact⟨σ7,H7,I7.uj,q7⟩
   |ret v=>obtain⟨x7,σ7,H7,I7,r7,q7⟩:=q7;exact⟨x7,σ7,H7,I7.uj,r7,q7⟩
end
theorem Rj{K:i5}{a:Addr}{xs:List V}{D:Ends}(Pv:Nat->St->Hp->Prop)(h0:Pv 0 σ H)(hl:∀i σ H,i<=xs.length->Pv i σ H->D9 K H a xs)(hs:∀i x σ H,xs[i]? = some x->Pv i σ H->g x σ H λσ2 H2=>tb {D with nx:=Pv (i+1),ct:=Pv (i+1),bk:=D.nx} σ2 H2)(hd:∀σ H,Pv xs.length σ H->D.nx σ H):
  ∃W:Nat->Nat->St->Hp->Prop,(∃m,W 0 m σ H)/\∀i m σ H,W i m σ H ->
   ((Oz K a).stop i H/\D.nx σ H)\/((Oz K a).go i H/\∃N:St->Hp->Prop,(∀σ' H',N σ' H'->∃m',m'<m/\W (i+1) m' σ' H')/\∀x H',(Oz K a).Jv i H x H'->g x σ H' λσ2 H2=>tb {D with nx:=N,ct:=N,bk:=D.nx} σ2 H2):=by
 refine⟨λi m σ H=>m=xs.length-i/\i<=xs.length/\Pv i σ H,⟨xs.length,by simp,bN _,h0⟩,?_⟩
 rintro i m σ H ⟨rfl,hi,p⟩;have q:=hl i σ H hi p;by_cases hlt:i<xs.length
 . refine .inr ⟨⟨xs,xs[i],q,by simp[hlt]⟩,Pv (i+1),λσ' H' p'=>⟨xs.length-(i+1),by lia,rfl,hlt,p'⟩,λx H' y=>?_⟩
   obtain⟨e,y⟩:=y;subst e;exact hs i x σ _ (y xs q) p
 . have e:i=xs.length:=by lia
   subst e;exact .inl ⟨⟨xs,q,l5 _⟩,hd σ H p⟩
end
section
variable{pins:List (Addr×Obj)}{σ:St}{H:Hp}{f:c8->c8->Sem c8}{op:CmpOp}{r r':R2}{g:Int->Int->Int}{us:List c8}
abbrev R2:=V->V->Hp->VK->Prop
def R8(X:Cx)(f:c8->c8->Sem c8)(r:R2):Prop :=
 ∀(pins:List (Addr×Obj)) (s:h8) (σ:St) (H:Hp) (x y:V) (v u:c8) (Q:VK),Inv X pins σ H s->RelV x v->RelV y u->r x y H Q ->
  wpAny (model X.prog X.w) X.A (f v u) (EP X pins σ Q) X.xe s
def TM(X:Cx)(f:c8->Sem c8)(r:V->Hp->VK->Prop):Prop :=
 ∀(pins:List (Addr×Obj)) (s:h8) (σ:St) (H:Hp) (x:V) (v:c8) (Q:VK),Inv X pins σ H s->RelV x v->r x H Q ->
  wpAny (model X.prog X.w) X.A (f v) (EP X pins σ Q) X.xe s
def T9(X:Cx)(f:c8)(r:List V->Hp->VK->Prop):Prop :=
 ∀(pins:List (Addr×Obj)) (s:h8) (σ:St) (H:Hp) (xs:List V) (us:List c8) (Q:VK),Inv X pins σ H s->Vals xs us->r xs H Q ->
  wpAny (model X.prog X.w) X.A (call f us) (EP X pins σ Q) X.xe s
def nA(r:R2)(ta tb:TE):TE:=λσ H Q=>ta σ H λx H1=>tb σ H1 λy H2=>r x y H2 Q
def ZJ(r:V->Hp->VK->Prop)(ta:TE):TE:=λσ H Q=>ta σ H λx H1=>r x H1 Q
def rI(C:Int->Int->Prop)(g:Int->Int->V):R2:=λx y H Q=>∃i j,x=.int i/\y=.int j/\C i j/\Q (g i j) H
def qD(g:Int->Int->V):R2:=λx y H Q=>∃i j,x=.int i/\y=.int j/\Q (g i j) H
def rU(g:Int->V):V->Hp->VK->Prop:=λx H Q=>∃i,x=.int i/\Q (g i) H
section
variable{X:Cx}{a b c:Expr}{ta tb tc:TE}{pos:Pos}
theorem RS(ha:PE X a ta)(hb:PE X b tb){s:h8}{R:V->V->Hp->Prop}(I:Inv X pins σ H s)(h:ta σ H λx H1=>tb σ H1 λy H2=>R x y H2){Q:c8->h8->Prop}(hf:∀v u s2 x y H2,Inv X pins σ H2 s2->RelV x v->RelV y u->R x y H2->wpAny (model X.prog X.w) X.A (f v u) Q X.xe s2):
  wpAny (model X.prog X.w) X.A (eval a X.env) (λv s₁=>wpAny (model X.prog X.w) X.A (eval b X.env) (λu s₂=>wpAny (model X.prog X.w) X.A (f v u) Q X.xe s₂) X.xe s₁) X.xe s:=by
 refine C4 (ha pins s σ H _ I h) λv s1 ⟨x,H1,I1,r1,q1⟩=>?_
 refine C4 (hb pins s1 σ H1 _ I1 q1) λu s2 ⟨y,H2,I2,r2,q2⟩=>?_
 exact hf v u s2 x y H2 I2 r1 r2 q2
theorem Zq{op:Operator}(ho:R8 X (U1 op) r)(ha:PE X a ta)(hb:PE X b tb):PE X (.BinOp a op b pos) (nA r ta tb):=by intro pins s σ H Q I h;exact wpAny_BinOp (RS ha hb I h λv u s2 x y H2 I2 rx ry q=>ho pins s2 σ H2 x y v u Q I2 rx ry q)
theorem Zo{op:UnaryOp}{r:V->Hp->VK->Prop}(ho:TM X (unaryOp op) r)(ha:PE X a ta):PE X (.UnaryOp op a pos) (ZJ r ta):=by intro pins s σ H Q I h;exact UnaryOp_ (C4 (ha pins s σ H _ I h) λv s1 ⟨x,H1,I1,r1,q1⟩=>ho pins s1 σ H1 x v Q I1 r1 q1)
theorem KO{C:Int->Int->Prop}(rule:∀(i j:Int) (t u:Tok) (s:h8) (Q:c8->h8->Prop) (E:c8->h8->Prop),C i j->Q (.int (g i j) s.toks) {s with toks:=s.toks+1}->wpAny (model X.prog X.w) X.A (f (.int i t) (.int j u)) Q E s):
  R8 X f (rI C λi j=>.int (g i j)):=by intro pins s σ H x y v u Q I rx ry h;obtain⟨i,j,rfl,rfl,hc,q⟩:=h;obtain⟨t,rfl⟩:=rx;obtain⟨t',rfl⟩:=ry;exact rule i j t t' s _ _ hc ⟨.int (g i j),H,I.tok _,⟨_,rfl⟩,q⟩
theorem XJ(rule:∀(i j:Int) (t u:Tok) (s:h8) (Q:c8->h8->Prop) (E:c8->h8->Prop),Q (.int (g i j) s.toks) {s with toks:=s.toks+1}->wpAny (model X.prog X.w) X.A (f (.int i t) (.int j u)) Q E s):
  R8 X f (qD λi j=>.int (g i j)):=by intro pins s σ H x y v u Q I rx ry h;obtain⟨i,j,rfl,rfl,q⟩:=h;obtain⟨t,rfl⟩:=rx;obtain⟨t',rfl⟩:=ry;exact rule i j t t' s _ _ ⟨.int (g i j),H,I.tok _,⟨_,rfl⟩,q⟩
theorem XM{g:Int->Int->Bool}(rule:∀(i j:Int) (t u:Tok) (s:h8) (Q:c8->h8->Prop) (E:c8->h8->Prop),Q (.bool (g i j)) s->wpAny (model X.prog X.w) X.A (f (.int i t) (.int j u)) Q E s):
  R8 X f (qD λi j=>.bl (g i j)):=by intro pins s σ H x y v u Q I rx ry h;obtain⟨i,j,rfl,rfl,q⟩:=h;obtain⟨t,rfl⟩:=rx;obtain⟨t',rfl⟩:=ry;exact rule i j t t' s _ _ ⟨.bl (g i j),H,I,rfl,q⟩
def yI(i j:Int):Prop:=0<=j/\j<=1000000/\i.natAbs<2 ^ 64
theorem Hs(k:Nat):(0:Int)<=2 ^ k:=by rw[two_pow_cast];exact Int.natCast_nonneg _
theorem XI:R8 X (U1 .Add) (qD λi j=>.int (i+j)):=XJ λ_ _ _ _ _ _ _ q=>add_int q
theorem XB:R8 X (U1 .Sub) (qD λi j=>.int (i-j)):=XJ λ_ _ _ _ _ _ _ q=>sub_int q
theorem Vq:R8 X (U1 .Mod) (rI (λ_ j=>j≠0) λi j=>.int (i.fmod j)):=KO λ_ _ _ _ _ _ _ hc q=>mod_int' hc q
theorem XD:R8 X (U1 .Pow) (rI yI λi j=>.int (i ^ j.toNat)):=KO λ_ _ _ _ _ _ _ hc q=>pow_int_small hc.1 hc.2.1 hc.2.2 q
theorem XC:R8 X (U1 .RShift) (rI (λ_ j=>0<=j) λi j=>.int (i/2 ^ j.toNat)):=KO λi j _ _ _ _ _ hc q =>
 rshift_int hc (by rw[eH i (Hs _)];exact q)
theorem unI{f:c8->Sem c8}{g:Int->Int}(rule:∀(i:Int) (t:Tok) (s:h8) (Q:c8->h8->Prop) (E:c8->h8->Prop),Q (.int (g i) s.toks) {s with toks:=s.toks+1}->wpAny (model X.prog X.w) X.A (f (.int i t)) Q E s):
  TM X f (rU λi=>.int (g i)):=by intro pins s σ H x v Q I rx h;obtain⟨i,rfl,q⟩:=h;obtain⟨t,rfl⟩:=rx;exact rule i t s _ _ ⟨.int (g i),H,I.tok _,⟨_,rfl⟩,q⟩
theorem Wr:TM X (unaryOp .USub) (rU λi=>.int (-i)):=unI λ_ _ _ _ _ q=>neg_int q
end
def WJ:V->V->Bool
 | .non,.non=>true | .non,.int _=>true | .int _,.non=>true | .non,.bl _=>true | .bl _,.non=>true | .non,.str _=>true | .str _,.non=>true
 | .int _,.int _=>true | .bl _,.bl _=>true | .str _,.str _=>true | .byt _,.byt _=>true
 | .int _,.str _=>true | .str _,.int _=>true | .bl _,.str _=>true | .str _,.bl _=>true
 |_,_=>false
def ZQ:R2:=λx y H Q=>WJ x y=true/\Q (.bl (decide (x=y))) H
def ZP:R2:=λx y H Q=>WJ x y=true/\Q (.bl (!decide (x=y))) H
theorem Ha{i j:Int}:decide (V.int i=V.int j)=(i==j):=by rw[km];simp
theorem Mh{i j:Bool}:decide (V.bl i=V.bl j)=(i==j):=by rw[km];simp
theorem GZ{i j:Str}:decide (V.str i=V.str j)=(i==j):=by rw[km];simp
theorem Hd{i j:Array UInt8}:decide (V.byt i=V.byt j)=(i.toList==j.toList):=by rw[km];cases i;cases j;simp
section
variable{X:Cx}{a b c:Expr}{ta tb tc:TE}{pos:Pos}
theorem D2{s:h8}{Q:VK}{k k':Bool}(I:Inv X pins σ H s)(q:Q (.bl k) H)(e:k=k'):EP X pins σ Q (.bool k') s:=by subst e;exact⟨.bl k,H,I,rfl,q⟩
theorem Zv:R8 X (V5 .Eq) ZQ:=by
 intro pins s σ H x y v u Q I rx ry h;obtain⟨hs,q⟩:=h;cases x with
 |non =>
  cases rx;cases y with
  |non=>cases ry;exact PySem.EqNone.eq_none_none (D2 I q (by simp))
  |bl j=>cases ry;exact PySem.EqNone.eq_none_bool (D2 I q (by simp))
  |int j=>obtain⟨t',rfl⟩:=ry;exact PySem.EqNone.eq_none_int (D2 I q (by simp))
  |str j=>obtain⟨t',rfl⟩:=ry;exact PySem.EqNone.eq_none_str (D2 I q (by simp))
  |_=>exact absurd (show false=true from hs) Q9
 |bl i =>
  cases rx;cases y with
  |non=>cases ry;exact PySem.EqNone.eq_bool_none (D2 I q (by simp))
  |bl j=>cases ry;exact eq_bool (D2 I q Mh)
  |str j=>obtain⟨t',rfl⟩:=ry;exact PySem.EqMixed.eq_bool_str (D2 I q (by simp))
  |_=>exact absurd (show false=true from hs) Q9
 |int i =>
  obtain⟨t,rfl⟩:=rx;cases y with
  |non=>cases ry;exact PySem.EqNone.eq_int_none (D2 I q (by simp))
  |int j=>obtain⟨t',rfl⟩:=ry;exact eq_int (D2 I q Ha)
  |str j=>obtain⟨t',rfl⟩:=ry;exact PySem.EqMixed.eq_int_str (D2 I q (by simp))
  |_=>exact absurd (show false=true from hs) Q9
 |str i =>
  obtain⟨t,rfl⟩:=rx;cases y with
  |non=>cases ry;exact PySem.EqNone.eq_str_none (D2 I q (by simp))
  |bl j=>cases ry;exact PySem.EqMixed.eq_str_bool (D2 I q (by simp))
  |int j=>obtain⟨t',rfl⟩:=ry;exact PySem.EqMixed.eq_str_int (D2 I q (by simp))
  |str j=>obtain⟨t',rfl⟩:=ry;exact eq_str (D2 I q GZ)
  |_=>exact absurd (show false=true from hs) Q9
 |byt i =>
  obtain⟨t,rfl⟩:=rx;cases y with
  |byt j=>obtain⟨t',rfl⟩:=ry;exact PySem.W.eq_bytes (D2 I q Hd)
  |_=>exact absurd (show false=true from hs) Q9
 |_=>cases y<;>exact absurd (show false=true from hs) Q9
theorem Zu:R8 X (V5 .NotEq) ZP:=by
 intro pins s σ H x y v u Q I rx ry h;obtain⟨hs,q⟩:=h;cases x with
 |non =>
  cases rx;cases y with
  |non=>cases ry;exact PySem.EqNone.ne_none_none (D2 I q (by simp))
  |bl j=>cases ry;exact PySem.EqNone.ne_none_bool (D2 I q (by simp))
  |int j=>obtain⟨t',rfl⟩:=ry;exact PySem.EqNone.ne_none_int (D2 I q (by simp))
  |str j=>obtain⟨t',rfl⟩:=ry;exact PySem.EqNone.ne_none_str (D2 I q (by simp))
  |_=>exact absurd (show false=true from hs) Q9
 |bl i =>
  cases rx;cases y with
  |non=>cases ry;exact PySem.EqNone.ne_bool_none (D2 I q (by simp))
  |bl j=>cases ry;exact ne_bool (D2 I q (E6 not Mh))
  |str j=>obtain⟨t',rfl⟩:=ry;exact PySem.EqMixed.ne_bool_str (D2 I q (by simp))
  |_=>exact absurd (show false=true from hs) Q9
 |int i =>
  obtain⟨t,rfl⟩:=rx;cases y with
  |non=>cases ry;exact PySem.EqNone.ne_int_none (D2 I q (by simp))
  |int j=>obtain⟨t',rfl⟩:=ry;exact ne_int (D2 I q (E6 not Ha))
  |str j=>obtain⟨t',rfl⟩:=ry;exact PySem.EqMixed.ne_int_str (D2 I q (by simp))
  |_=>exact absurd (show false=true from hs) Q9
 |str i =>
  obtain⟨t,rfl⟩:=rx;cases y with
  |non=>cases ry;exact PySem.EqNone.ne_str_none (D2 I q (by simp))
  |bl j=>cases ry;exact PySem.EqMixed.ne_str_bool (D2 I q (by simp))
  |int j=>obtain⟨t',rfl⟩:=ry;exact PySem.EqMixed.ne_str_int (D2 I q (by simp))
  |str j=>obtain⟨t',rfl⟩:=ry;exact ne_str (D2 I q (E6 not GZ))
  |_=>exact absurd (show false=true from hs) Q9
 |byt i =>
  obtain⟨t,rfl⟩:=rx;cases y with
  |byt j=>obtain⟨t',rfl⟩:=ry;exact PySem.W.ne_bytes (D2 I q (E6 not Hd))
  |_=>exact absurd (show false=true from hs) Q9
 |_=>cases y<;>exact absurd (show false=true from hs) Q9
theorem HZ:R8 X (V5 .Lt) (qD λi j=>.bl (decide (i<j))):=XM λ_ _ _ _ _ _ _ q=>lt_int q
theorem SI:R8 X (V5 .Gt) (qD λi j=>.bl (decide (j<i))):=XM λ_ _ _ _ _ _ _ q=>gt_int q
theorem KJ:R8 X (V5 .Is) (λx y H Q=>y=.non/\Q (.bl (decide (x=.non))) H):=by
 intro pins s σ H x y v u Q I rx ry h;obtain⟨rfl,q⟩:=h;cases ry;refine is_none_gen (D2 I q ?_);cases x<;>first
  |(cases rx;rfl)
  |(obtain⟨t,rfl⟩:=rx;rfl)
theorem Gd:R8 X (V5 .IsNot) (λx y H Q=>y=.non/\Q (.bl (!decide (x=.non))) H):=by
 intro pins s σ H x y v u Q I rx ry h;obtain⟨rfl,q⟩:=h;cases ry;refine isnot_none_gen (D2 I q ?_);cases x<;>first
  |(cases rx;rfl)
  |(obtain⟨t,rfl⟩:=rx;rfl)
theorem R8.or(h:R8 X f r)(h':R8 X f r'):R8 X f (λx y H Q=>r x y H Q\/r' x y H Q):=by
 intro pins s σ H x y v u Q I rx ry q;rcases q with q|q
 . exact h pins s σ H x y v u Q I rx ry q
 . exact h' pins s σ H x y v u Q I rx ry q
theorem bE(b:Expr)(h:op≠.In:=by decide)(h2:op≠.NotIn:=by decide):pA op b=false:=by
 have e1:(op==CmpOp.In)=false:=by cases op<;>first|rfl|exact absurd rfl h
 have e2:(op==CmpOp.NotIn)=false:=by cases op<;>first|rfl|exact absurd rfl h2
 cases b<;>simp[pA,e1,e2]
theorem Vk(ho:R8 X (V5 op) r)(ha:PE X a ta)(hb:PE X b tb)(hm:pA op b=false):PE X (.Compare a [op] [b] pos) (nA r ta tb):=by intro pins s σ H Q I h;exact wpAny_Compare1 (RS ha hb I h λv u s2 x y H2 I2 rx ry q=>ho pins s2 σ H2 x y v u Q I2 rx ry q) hm
def Sn(t:TE):TT:=λσ H Q=>t σ H λx H'=>∃k,x=.bl k/\Q k H'
theorem UT(ho:R8 X (V5 op) r)(ha:PE X a ta)(hb:PE X b tb)(hm:pA op b=false):PT X (.Compare a [op] [b] pos) (Sn (nA r ta tb)):=by
 intro pins s σ H Q I h;refine wpAny_isTrue_Compare1 (C4 (ha pins s σ H _ I h) λv s1 ⟨x,H1,I1,r1,q1⟩=>C4 (hb pins s1 σ H1 _ I1 q1) λu s2 ⟨y,H2,I2,r2,q2⟩ =>
  C4 (ho pins s2 σ H2 x y v u _ I2 r1 r2 q2) λc s3 ⟨z,H3,I3,r3,k,e,q3⟩=>?_) hm
 subst e;cases r3;exact pF ⟨H3,I3,q3⟩
theorem oG:(B2:Nat)<2 ^ 63:=by rw[iu];decide
theorem Ia:R8 X (U1 .Add) (λx y H Q=>∃i j,x=.str i/\y=.str j/\i.length+j.length<=B2/\Q (.str (i++j)) H):=by intro pins s σ H x y v u Q I rx ry h;obtain⟨i,j,rfl,rfl,hz,q⟩:=h;obtain⟨t,rfl⟩:=rx;obtain⟨t',rfl⟩:=ry;exact add_str (λt' tk=>⟨.str (i++j),H,I.tok _,⟨_,rfl⟩,q⟩) hz
theorem vals1{x:V}(r:Vals [x] us):∃u,us=[u]/\RelV x u:=by
 cases r with
 |cons r1 r2=>cases r2;exact⟨_,rfl,r1⟩
theorem vals2{x y:V}(r:Vals [x,y] us):∃u w',us=[u,w']/\RelV x u/\RelV y w':=by
 cases r with
 |cons r1 r2 =>
  cases r2 with
  |cons r3 r4=>cases r4;exact⟨_,_,rfl,r1,r3⟩
theorem RQ:T9 X (.builtin "abs") (λxs H Q=>∃i,xs=[.int i]/\Q (.int (if i<0 then -i else i)) H):=by intro pins s σ H xs us Q I r h;obtain⟨i,rfl,q⟩:=h;obtain⟨u,rfl,t,rfl⟩:=vals1 r;exact call_abs_int λu tk=>⟨.int (if i<0 then -i else i),H,I.tok _,⟨_,rfl⟩,q⟩
end
end
section
variable{h:Heap}{dx C g:Addr}{mA:Str->Option c8}{Q:c8->h8->Prop}{pl:Sem Bool}{v y:V}{o:Option c8}{u:c8}{K:i5}{f m:Str}
structure ve(h:Heap)(x dx C:Addr)(mA:Str->Option c8):Prop where
 obj:h.get? x=some (kn C dx)
 ns:h.Ns1 dx mA
 ne:dx≠x
theorem Lr(n:h.Ns1 dx mA):∃od,h.get? dx=some od/\∀name,xg name od=some (mA name):=by
 obtain⟨o,es,ep,ho,hd,hk,_,hm⟩:=n;refine⟨o,ho,λname=>?_⟩
 have e:=hm name;unfold nsFind findBy at e;rw[<-Array.find?_toList]at e;delta xg;rw[hd];dsimp only;split
 . rename_i y q;rw[q]at e;exact E6 some e
 . rename_i q;rw[q]at e;have a:es.toList.any (·.refKey)=false:=by rw[List.any_eq_false];intro y hy;obtain⟨z,t,hkey⟩:=hk y (Array.mem_toList_iff.mp hy);simp[DictEntry.refKey,hkey]
   have a':¬es.toList.any (·.refKey)=true:=by rw[a];exact Q9
   rw[c9 a'];exact E6 some e
theorem ve.look{x:Addr}(I:ve h x dx C mA):∃od,xf h x (kn C dx) C (some od)/\∀name,xg name od=some (mA name) :=
 let ⟨od,ho,hl⟩:=Lr I.ns
 ⟨od,⟨I.obj,rfl,rfl,ho⟩,hl⟩
section
variable{prog:B1}{w:t9}{A:A2}{E:c8->h8->Prop}{s:h8}{K:i5}{x dx C f:Addr}{mA:Str->Option c8}{name:Str}{v:c8}
theorem get_map{expr:Bool}(X:K.In s.heap)(I:ve s.heap x dx C mA)(hg:sj K C name=true)(hh:sr K C=true)(ha:az K (.ref C) name=some none)(hv:mA name=some v)(hv':Nh v=true)(h:Q v {s with toks:=s.toks+1}):
  wpAny (model prog w) A (getAttr (.ref x) name expr) Q E s:=by obtain⟨od,J,hl⟩:=I.look;exact PySem.W.get_value X J (DU hg).1 (PySem.W.findObj_own hh ha rfl (by rw[hl,hv])) hv' h
theorem Rc{Q:c8×List c8->h8->Prop}(X:K.In s.heap)(I:ve s.heap x dx C mA)(hg:sj K C name=true)(hf:az K (.ref C) name=some (some (.ref f)))(ht:wW K (.ref f)=true)(hv:mA name=none)(h:Q (.ref f,[.ref x]) s):
  wpAny (model prog w) A (ip (.ref x) name pl) Q E s:=by obtain⟨od,J,hl⟩:=I.look;exact PySem.W.method_fn X J (DU hg).1 (DU hg).2 hf (beq_iff_eq.mp ht) (by show(xg name od).map (·.isSome)=some false;rw[hl,hv];rfl) h
theorem Us{ns:List Str}{Q:Unit->h8->Prop}(X:K.In s.heap)(I:ve s.heap x dx C mA)(hs:az K (.ref C) "__setattr__" = some (some (.builtin "object.__setattr__")))(hp:DN K C=true)(ht:DA K C name=some none)(hh:sr K C=true)(hw:CZ mA ns)(hsz:ns.length<=B2)(h:∀h',ve h' x dx C (λy=>if y=name then some v else mA y)->rX dx s.heap h'->Q () {s with heap:=h',toks:=s.toks+2}):
  wpAny (model prog w) A (setAttr (.ref x) name v) Q E s:=by
 obtain⟨od,J,hl⟩:=I.look;refine PySem.W.set_plain X J hs (PySem.W.osa_open (s:={s with toks:=s.toks+1}) (r:=none) X J hp ht λb=>?_)
 obtain⟨cd,hc,hd'⟩:=xq hh;have hx:s.heap.get? x=some ⟨.ref C,some dx,.plain,#[]⟩:=I.obj;refine wpAny_bind (n9 (wpAny_bind (wpAny_bind (wpAny_loadPart hx (wpAny_bind (PySem.W.Looks.here (s:={s with toks:=s.toks+1}) (PySem.W.looks_clsIn X hc) ?_))))))
 rw[hd'];refine n9 (a:=some dx) (wpAny_bind (n9 (wpAny_bind ?_)));refine wpAny_nsSet1 (s:={s with toks:=s.toks+1}) I.ns λh' hn2 hs2=>?_
 obtain⟨oD,esD,epD,hoD,hdD,hcD⟩:=hn2.count (PySem.Within.cons name v hw);refine wpAny_bind (wpAny_lookBehind hoD (by rw[hdD];exact pastItsLine_dict (P4 hcD (by rw[O1];lia))) ?_)
 exact n9 (h _ ⟨(hs2.2 _ (ie I.ne)).trans I.obj,hn2,I.ne⟩ hs2)
theorem QN {R:Result->h8->Prop} {vs:List c8} {kw:List (Str × c8)} (X:K.In s.heap) (hm:Dz K C=true) (hi:az K (.ref C) "__init__" = some (some (.ref f))) (hf:PySem.W.typeIn K (.ref f)=some (.type "function")) (h:codeAny (model prog w) (A.under (.builtin "type.__call__" ⟨.ref C::vs,kw⟩)) (.call (.ref f) ⟨.ref (s.heap.objs.size + 1)::vs,kw⟩) (PySem.W.InitBack (s.heap.objs.size + 1) R)
   {s with heap:=(s.heap.push lB).push (kn C s.heap.objs.size)}) :
  codeAny (model prog w) A (.call (.ref C) ⟨vs,kw⟩) R s:=by obtain⟨hh,g,d,t,os⟩:=s;exact PySem.W.make_core (PySem.W.makes_of X hm) (DY X hi) (λself=>PySem.W.bind_fn X self hf) (.inl rfl) h
end
def aW(f:Str)(v:V):List (Str×V)->List (Str×V)
 | []=>[(f,v)]
 |(g,x)::r=>if g=f then(g,v)::r else(g,x)::aW f v r
theorem tS(f g:Str)(v:V):∀fs:List (Str×V),(aW f v fs).lookup g=if g=f then some v else fs.lookup g
 | []=>by
  show dC g [(f,v)]=_
  by_cases h:g=f
  . have hb:(g==f)=true:=beq_iff_eq.mpr h;simp only[dC,hb,c7 h]
  . have hb:(g==f)=false:=beq_eq_false_iff_ne.mpr h;simp only[dC,hb,c9 h]
 |(k,x)::r=>by
  have ih:=tS f g v r;rw[show aW f v ((k,x)::r)=(if k=f then(k,v)::r else(k,x)::aW f v r)from rfl]
  by_cases hk:k=f
  . rw[c7 hk];by_cases h:g=k
    . have hb:(g==k)=true:=beq_iff_eq.mpr h;simp only[dC,hb,c7 (h.trans hk)]
    . have hb:(g==k)=false:=beq_eq_false_iff_ne.mpr h;simp only[dC,hb,c9 (λe:g=f=>h (e.trans hk.symm))]
  . rw[c9 hk];by_cases h:g=k
    . have hb:(g==k)=true:=beq_iff_eq.mpr h;simp only[dC,hb,c9 (λe:g=f=>hk (h.symm.trans e))]
    . have hb:(g==k)=false:=beq_eq_false_iff_ne.mpr h;simp only[dC,hb];exact ih
theorem rA(f:Str)(v:V):∀fs:List (Str×V),f∈(aW f v fs).map (·.1)/\∀g,g∈fs.map (·.1)->g∈(aW f v fs).map (·.1)
 | []=>⟨by simp[aW],λg h=>by simp at h⟩
 |(k,x)::r=>by
  obtain⟨i1,i2⟩:=rA f v r;rw[show aW f v ((k,x)::r)=(if k=f then(k,v)::r else(k,x)::aW f v r)from rfl]
  by_cases hk:k=f
  . rw[c7 hk];subst hk;exact⟨by simp,λg h=>by simpa using h⟩
  . rw[c9 hk];refine⟨?_,λg h=>?_⟩
    . rw[o5];exact A0 _ i1
    . rw[o5]at h ⊢;rcases List.mem_cons.mp h with e|e
      . exact List.mem_cons.mpr (.inl e)
      . exact A0 _ (i2 g e)
theorem tT(f:Str)(v:V):∀fs:List (Str×V),(aW f v fs).length<=fs.length+1
 | []=>by simp[aW]
 |(k,x)::r=>by
  have ih:=tT f v r;rw[show aW f v ((k,x)::r)=(if k=f then(k,v)::r else(k,x)::aW f v r)from rfl]
  by_cases hk:k=f
  . rw[c7 hk,O1,O1];lia
  . rw[c9 hk,O1,O1];lia
theorem og.some_of(r:og (some v) o):∃u,o=some u/\RelV v u:=by
 cases o with
 |none=>exact(show False from r).elim
 |some u=>exact⟨u,rfl,r⟩
theorem og.none_of(r:og none o):o=none:=by
 cases o with
 |none=>rfl
 |some u=>exact(show False from r).elim
theorem LO(r:RelV v u):Nh u=true:=by
 cases v with
 |non=>cases(show u=fJ from r);rfl
 |bl b=>cases(show u=mG b from r);rfl
 |int i=>obtain⟨t,e⟩:=(show ∃t,u=CJ i t from r);cases e;rfl
 |str x=>obtain⟨t,e⟩:=(show ∃t,u=CI x t from r);cases e;rfl
 |byt b=>obtain⟨t,e⟩:=(show ∃t,u=Value.bytes b t from r);cases e;rfl
 |flt b=>obtain⟨t,e⟩:=(show ∃t,u=Value.float b t from r);cases e;rfl
 |ref a=>cases(show u=aL a from r);rfl
 |ty n=>cases(show u=oZ n from r);rfl
section
variable{P:B1}{w:t9}{H H':Hp}{h h':Heap}{a C dx:Addr}{fs fs':List (Str×V)}
theorem yo(A7:bV P w H h)(e:H a=some (.ins C dx fs)):∃mA,ve h a dx C mA/\(∀f,og (fs.lookup f) (mA f))/\CZ mA (fs.map (·.1))/\fs.length<=1000/\H dx=some (.own a):=by
 obtain⟨d,z,ne,ob,mA,n,r,q⟩:=(show V3 P w H h a (.ins C dx fs)from A7 a _ e)
 exact⟨mA,⟨ob,n,ne⟩,r,q,z,d⟩
end
structure sI(K:i5)(C:Addr):Prop where
 pg:sj K C V4=true
 hd:sr K C=true
 po:DN K C=true
 sa:az K (.ref C) "__setattr__" = some (some (.builtin "object.__setattr__"))
theorem sI.get(c:sI K C)(f:Str):sj K C f=true:=c.pg
def W7(K:i5)(C:Addr)(f:Str):Prop:=az K (.ref C) f=some none
theorem W7.Zd(n:W7 K C f):DA K C f=some none:=by
 delta DA;rw[show az K (.ref C) f=some none from n]
 rfl
structure Con(K:i5)(C:Addr)(f:Str)(v:V)(u:c8):Prop where
 at_:az K (.ref C) f=some (some u)
 rel:RelV v u
 get:DM K u "__get__" = some none
 cp:PySem.W.copiedNames.contains f=false
structure Meth(K:i5)(C:Addr)(m:Str)(f:Addr):Prop where
 at_:az K (.ref C) m=some (some (.ref f))
 fn:wW K (.ref f)=true
 kp:fL K (.ref f)=true
section
variable{X:Cx}{pins:List (Addr×Obj)}{σ:St}{H:Hp}{s:h8}{a C dx:Addr}{fs:List (Str×V)}{f:Str}{v:V}{A:A2}{E:c8->h8->Prop}
theorem IT{b:Bool}(I:Inv X pins σ H s)(e:H a=some (.ins C dx fs))(c:sI X.K C)(n:W7 X.K C f)(l:fs.lookup f=some v)(h:∀u s',Inv X pins σ H s'->RelV v u->Q u s'):wpAny (model X.prog X.w) A (getAttr (.ref a) f b) Q E s:=by
 obtain⟨mA,O,r,_,_,_⟩:=yo I.A7 e;obtain⟨u,hu,ru⟩:=og.some_of (v:=v) (o:=mA f) (by rw[<-l];exact r f)
 exact get_map I.fB O (c.get f) c.hd n hu (LO ru) (h u _ (I.tok _) ru)
theorem vX{Q:c8×List c8->h8->Prop}(I:Inv X pins σ H s)(e:H a=some (.ins C dx fs))(c:sI X.K C)(k:Meth X.K C m g)(l:fs.lookup m=none)(h:Q (.ref g,[.ref a]) s):wpAny (model X.prog X.w) A (ip (.ref a) m pl) Q E s:=by
 obtain⟨mA,O,r,_,_,_⟩:=yo I.A7 e;have hn:mA m=none:=og.none_of (by rw[<-l];exact r m)
 exact Rc I.fB O (c.get m) k.at_ k.fn hn h
theorem HC{Q:Unit->h8->Prop}(I:Inv X pins σ H s)(e:H a=some (.ins C dx fs))(c:sI X.K C)(n:W7 X.K C f)(hl:fs.length<1000)(ry:RelV y u)(h:∀s',Inv X pins σ (upd H a (.ins C dx (aW f y fs))) s'->Q () s'):wpAny (model X.prog X.w) A (setAttr (.ref a) f u) Q E s:=by
 obtain⟨mA,O,r,wi,_,ho⟩:=yo I.A7 e;have hz:(fs.map (·.1)).length<=B2:=by rw[F9,iu];lia
 refine Us I.fB O c.sa c.po n.Zd c.hd wi hz λh' O' sb=>h _ ?_
 have hd:∃o,h'.get? dx=some o:=let ⟨o,_,_,e',_⟩:=O'.ns;⟨o,e'⟩;refine I.write (x:=a) (e:=dx) (by rw[e];exact cF) (.inr ho) (λb q hb z=>(sb.2 b hb).trans z) hd ?_
 refine⟨by rw[A3 O.ne];exact ho,?_,O.ne,O'.obj,_,O'.ns,λg=>?_,λg hg=>?_⟩
 . have:=tT f y fs;lia
 . show og ((aW f y fs).lookup g) (if g=f then some u else mA g)
   rw[tS];by_cases q:g=f
   . rw[c7 q,c7 q];exact ry
   . rw[c9 q,c9 q];exact r g
 . by_cases q:g=f
   . rw[q];exact(rA f y fs).1
   . refine(rA f y fs).2 g (wi g λz=>hg ?_)
     show(if g=f then some u else mA g)=none
     rw[c9 q];exact z
theorem Inv.made(I:Inv X pins σ H s):Inv X pins σ (upd (upd H s.heap.objs.size (.own (s.heap.objs.size+1))) (s.heap.objs.size+1) (.ins C s.heap.objs.size []))
  {s with heap:=(s.heap.push lB).push (kn C s.heap.objs.size)}:=by
 have e1:(s.heap.push lB).get? s.heap.objs.size=some lB:=S7 s.heap rfl;have e2:((s.heap.push lB).push (kn C s.heap.objs.size)).get? (s.heap.objs.size+1)=some (kn C s.heap.objs.size):=by
  have:=S7 (s.heap.push lB) (o:=kn C s.heap.objs.size) rfl
  rwa [hU]at this
 have e3:(s.heap.push lB).Ns s.heap.objs.size (λ_=>none):=⟨lB,#[],_,e1,rfl,(λe he=>absurd he (by simp)),λ_=>rfl⟩
 have I1:=I.laid (a:=s.heap.objs.size) (o:=.own (s.heap.objs.size+1)) (h':=s.heap.push lB) (t':=s.toks) (λb u q=>E5 _ q) (l5 _) ⟨_,e1⟩
 refine I1.laid (a:=s.heap.objs.size+1) (o:=.ins C s.heap.objs.size []) (t':=s.toks) (λb u q=>E5 _ q) (wV (hU _ _)) ?_
 have ne:s.heap.objs.size≠s.heap.objs.size+1:=X5 (sh _);refine⟨by rw[A3 ne,E8],bN _,ne,e2,λ_=>none,(Heap.Ns1.of_empty e3).at λo q=>E5 _ q,λ_=>cF,λy hy=>absurd rfl hy⟩
theorem VV{prog:B1}{w:t9}{env:Env}{e:Expr}{pos:Pos}{s:h8}(hb:V8 e f env (eval e env)=eval e env)(h:wpAny (model prog w) A (eval e env) (λo s₁=>wpAny (model prog w) A (getAttr o f true) Q E s₁) E s):wpAny (model prog w) A (eval (.Attribute e f pos) env) Q E s :=
 Attribute_any_ h (by rw[arm_eval_Attribute,hb])
end
def pS(K:i5)(ta:TE)(f:Str):TE:=λσ H Q=>ta σ H λx H1=>∃a C dx fs v,x=.ref a/\H1 a=some (.ins C dx fs)/\sI K C/\W7 K C f/\fs.lookup f=some v/\Q v H1
def WL(K:i5)(ta tv:TE)(f:Str):TS:=λD σ H=>tv σ H λy H1=>ta σ H1 λx H2=>∃a C dx fs,x=.ref a/\H2 a=some (.ins C dx fs)/\sI K C/\W7 K C f/\fs.length<1000 /\
 D.nx σ (upd H2 a (.ins C dx (aW f y fs)))
section
variable{X:Cx}{o e value:Expr}{f:Str}{pos pos' tpos:Pos}{ta tv:TE}
theorem qW(he:PE X e ta)(hb:V8 e f X.env (eval e X.env)=eval e X.env):PE X (.Attribute e f pos) (pS X.K ta f):=by
 intro pins s σ H Q I h;refine VV hb (C4 (he pins s σ H _ I h) λu s1 ⟨x,H1,I1,rx,a,C,dx,fs,v,ex,ea,c,n,l,q⟩=>?_)
 subst ex;obtain rfl:u=aL a:=rx;exact IT I1 ea c n l λu' s2 I2 ru=>⟨v,H1,I2,ru,q⟩
theorem Xr(ha:PE X o ta)(hv:PE X value tv)(hs:aK value (some (.Attribute o f pos')) pos.line X.env=pure false):PS X (.Assign [.Attribute o f pos'] value pos) (WL X.K ta tv f):=by
 intro pins s σ H D I h;refine plainObj_wpAny_Assign_Attribute (C4 (hv pins s σ H _ I h) λu s1 ⟨y,H1,I1,ry,q⟩=>C4 (ha pins s1 σ H1 _ I1 q) λov s2 ⟨x,H2,I2,rx,a,C,dx,fs,ex,ea,c,n,l,q2⟩=>?_) hs
 subst ex;obtain rfl:ov=aL a:=rx;exact HC I2 ea c n l ry λs3 I3=>⟨σ,_,I3,q2⟩
end
section
variable{X:Cx}{pins:List (Addr×Obj)}{σ:St}{H:Hp}{s:h8}{A:A2}{E:c8->h8->Prop}{Q:c8->h8->Prop}{c:c8}{b:Bool}
inductive mC(K:i5)(H:Hp):V->c8->Prop where
 |non:mC K H .non (.type "NoneType")
 |bl (x:Bool):mC K H (.bl x) (.type "bool")
 |int (i:Int):mC K H (.int i) (.type "int")
 |str (x:Str):mC K H (.str x) (.type "str")
 |flt (x:UInt64):mC K H (.flt x) (.type "float")
 |lst {a:Addr} {xs:List V} (e:H a=some (.lst xs)):mC K H (.ref a) (.type "list")
 |U0 {a:Addr} {o:Obj} {xs:List V} (e:H a=some (.U0 o (.lst xs))):mC K H (.ref a) (.type "list")
 |tup {a:Addr} {xs:List V} (e:H a=some (.tup xs)):mC K H (.ref a) (.type "tuple")
 |dK {a:Addr} {kvs:List (Key×V)} (e:H a=some (.dK kvs)):mC K H (.ref a) (.type "dict")
 |dT {a:Addr} {kvs:List (List Key×V)} (e:H a=some (.dT kvs)):mC K H (.ref a) (.type "dict")
 |ins {a C dx:Addr} {fs:List (Str×V)} (e:H a=some (.ins C dx fs)) (cl:sI K C) (ha:az K (.ref C) "__class__" = some (some (.builtin "object.__class__")))
   (hn:DM K (.builtin "object.__class__") "__get__" = some (some (.builtin "getset_descriptor.__get__"))) (htk:MR K (.builtin "object.__class__")=some true)
   (hm:Di K C (.type "object")=some true):mC K H (.ref a) (.ref C)
end
end
section
variable{j k:Nat}{A:A2}{C f:Addr}{us:List c8}{kw:List (Str×c8)}{P:B1}{w:t9}{K:i5}{mg:Str->Option c8}{base:Heap}{outer:List Env}{H:Hp}{u cd dV doc pm cdv ct oc:c8}{ps N:List Str}{pins:List (Addr×Obj)}{σ:St}{vs:List V}{pl:Sem Bool}{CX:nV}{qual name:Str}{scope:Y4}
structure J2(k:Nat)(A:A2):Prop where
 hd:A.handled=none
 dp:A.depth+3*k+5<recursionLimit
 un:A.units+16*k+200<cLine
theorem J2.mono(r:J2 k A)(h:j<=k):J2 j A:=⟨r.hd,by have:=r.dp;lia,by have:=r.un;lia⟩
theorem J2.deeper{k:Nat}{A:A2}(r:J2 (k+1) A)(env:Env):J2 k (A.deeper env) :=
 ⟨r.hd,by have:=r.dp;show A.depth+1+3*k+5<_;lia,by have:=r.un;show A.units+3+16*k+200<_;lia⟩
theorem Iz:(A.under (.builtin "type.__call__" ⟨.ref C::us,kw⟩)).depth=A.depth+1:=by first|rfl|simp[CY,Code.weight,Code.isCreation,Code.isGuard,Code.isCaller,Code.frames,CW,guardIds]
theorem Iy:(A.under (.builtin "type.__call__" ⟨.ref C::us,kw⟩)).units=A.units+1:=by first|rfl|simp[CY,Code.cUnits,Code.frames,CW]
theorem J2.make(r:J2 (k+1) A)(C:Addr)(us:List c8)(kw:List (Str×c8)):J2 k (A.under (.builtin "type.__call__" ⟨.ref C::us,kw⟩)) :=
 ⟨r.hd,by have:=r.dp;rw[Iz];lia,by have:=r.un;rw[Iy];lia⟩
theorem J2.depth{k:Nat}{A:A2}(r:J2 k A):A.depth<recursionLimit:=by have:=r.dp;lia
theorem J2.units{k:Nat}{A:A2}(r:J2 k A):A.units+64<cLine:=by have:=r.un;lia
def gI:TA:=λ_ H Q=>Q [] H
def cP(ta:TE)(tr:TA):TA:=λσ H Q=>ta σ H λx H1=>tr σ H1 λxs H2=>Q (x::xs) H2
section
variable{X:Cx}{e:Expr}{es:List Expr}{te:TE}{t:TA}{pos:Pos}
theorem gR:PA X [] gI:=λ_ _ _ _ H Q I h=>Calls.spliced_nil ⟨[],H,I,.nil,h⟩
theorem bD(ha:PE X e te)(hr:PA X es t)(hs:j4 (e::es) X.env=(false,eval e X.env)::j4 es X.env:=by rfl):PA X (e::es) (cP te t):=by
 intro pos pins s σ H Q I h;rw[hs];show wpAny _ _ (spliced ((false,eval e X.env)::A9 pos (j4 es X.env))) _ _ s
 refine Calls.spliced_cons (C4 (ha pins s σ H _ I h) λu s1 ⟨x,H1,I1,r1,q1⟩=>?_)
 exact C4 (hr pos pins s1 σ H1 _ I1 q1) λus s2 ⟨xs,H2,I2,r2,q2⟩=>⟨x::xs,H2,I2,.cons r1 r2,q2⟩
def OQ(t:TA):TE:=λσ H Q=>t σ H λxs H1=>xs.length<=B2/\∀p,H1 p=none->Q (.ref p) (upd H1 p (.tup xs))
def OT(t:TA):TE:=λσ H Q=>t σ H λxs H1=>xs.length<=B2/\∀p,H1 p=none->Q (.ref p) (upd H1 p (.lst xs))
theorem Ky{x1}(h:PA X es t):PE X (.Tuple es x1 pos) (OQ t):=by
 intro pins s σ H Q I hq;refine wpAny_Tuple_spliced (C4 (h pos pins s σ H _ I hq) λus s1 ⟨xs,H1,I1,r,z,q⟩=>⟨by rw[<-r.length];exact z,?_⟩)
 have hf:H1 s1.heap.objs.size=none:=I1.A7.fresh (l5 _);refine⟨.ref s1.heap.objs.size,upd H1 s1.heap.objs.size (.tup xs),I1.laid (t':=s1.toks) (λb u e=>E5 _ e) (l5 _) ?_,rfl,q _ hf⟩
 exact⟨z,us,r,⟨_,S7 _ rfl,rfl,_,rfl⟩⟩
theorem Kz(h:PA X es t):PE X (.List es pos) (OT t):=by
 intro pins s σ H Q I hq;refine wpAny_List_spliced (C4 (h pos pins s σ H _ I hq) λus s1 ⟨xs,H1,I1,r,z,q⟩=>⟨by rw[<-r.length];exact z,?_⟩)
 have hf:H1 s1.heap.objs.size=none:=I1.A7.fresh (l5 _);refine⟨.ref s1.heap.objs.size,upd H1 s1.heap.objs.size (.lst xs),I1.laid (t':=s1.toks) (λb u e=>E5 _ e) (l5 _) ?_,rfl,q _ hf⟩
 exact⟨z,us,0,r,S7 _ rfl⟩
end
abbrev Sp:=List V->Hp->VK->XK->Prop
abbrev nV:=List Env->Hp->h8->XK->c8->h8->Prop
structure vf(P:B1)(w:t9)(K:i5)(mg:Str->Option c8)(base:Heap)(A:A2)(outer:List Env)(s:h8)(H:Hp):Prop where
 frames:A.frames=some outer
 mod:Mod K mg base
 bs:∀b o,base.get? b=some o->s.heap.get? b=some o/\H b=none
 qH:base.objs.size<=s.heap.objs.size
 jf:s.heap.FunFrames base outer
 zz:∀b∈N5 outer,H b=none
 A7:bV P w H s.heap
 bare:ig s.gens
def CE(outer:List Env)(P:B1)(w:t9)(H:Hp)(s:h8)(Q:VK)(u:c8)(s':h8):Prop :=
 ∃v H',s'.os=s.os/\ig s'.gens/\Un (N5 outer) [] H H' s.heap s'.heap/\bV P w H' s'.heap/\RelV v u/\Q v H'
def CR(CX:nV)(outer:List Env)(P:B1)(w:t9)(H:Hp)(s:h8)(Q:VK)(E:XK)(r:Result)(s':h8):Prop :=
 match r with
 | .ok (.ret u)=>CE outer P w H s Q u s'
 | .ok _=>False
 | .error e=>CX outer H s E e s'
structure Z5(P:B1)(w:t9)(K:i5)(mg:Str->Option c8)(base:Heap)(CX:nV)(k:Nat)(f:Addr)(fd:O0)(ps:List Str)(sp:Sp):Prop where
 len:∀vs H Q E,sp vs H Q E->vs.length=ps.length
 run:∀(A:A2) (outer:List Env) (s:h8) (H:Hp) (args:Args) (us:List c8) (vs:List V) (Q:VK) (E:XK),J2 k A->vf P w K mg base A outer s H->mE s fd args (ps.zip us)->Vals vs us->sp vs H Q E ->
  codeAny (model P w) A (.call (.ref f) args) (CR CX outer P w H s Q E) s
theorem vf.make{s:h8}(e:vf P w K mg base A outer s H)(C:Addr)(us:List c8)(kw:List (Str×c8)):
  vf P w K mg base (A.under (.builtin "type.__call__" ⟨.ref C::us,kw⟩)) outer s H:=⟨by first|exact e.frames|(simpa [CY,Code.envs,CW,pushEnvs]using e.frames),e.mod,e.bs,e.qH,e.jf,e.zz,e.A7,e.bare⟩
section
variable{X:Cx}{pins:List (Addr×Obj)}{σ:St}{H:Hp}{s s':h8}
theorem Inv.YD(I:Inv X pins σ H s):vf X.prog X.w X.K X.mg X.base X.A X.stack s H :=
 ⟨I.ok.frames,I.ok.mod,I.bs,P4 I.ok.qH I.sz,I.stack,I.Fw,I.A7,I.bare⟩
theorem Inv.after{Q:VK}(I:Inv X pins σ H s)(h:CE X.stack X.prog X.w H s Q u s'):EP X pins σ Q u s':=by obtain⟨v,H',os,bare,un,A7,r,q⟩:=h;obtain⟨hh,g,d,t,os'⟩:=s';obtain rfl:os'=s.os:=os;exact⟨v,H',I.call (h':=hh) (g':=g) (d':=d) (t':=t) (ch:=[]) un A7 bare (λb z=>absurd z (by simp)),r,q⟩
end
def pU(sp:Sp)(dvs:List V)(E:XK)(t:TA):TE:=λσ H Q=>t σ H λvs H1=>sp (vs++dvs) H1 Q E
def la(C:Addr)(m:Str)(sp:Sp)(dvs:List V)(E:XK)(ta:TE)(t:TA):TE:=λσ H Q=>ta σ H λx H1=>∃a dx fs,x=.ref a/\H1 a=some (.ins C dx fs)/\fs.lookup m=none /\
 t σ H1 λvs H2=>sp (x::(vs++dvs)) H2 Q E
def Su(C:Addr)(sp:Sp)(dvs:List V)(E:XK)(t:TA):TE:=λσ H Q=>t σ H λvs H1=>∀x dx,H1 x=none->H1 dx=none->dx≠x ->
 sp (.ref x::(vs++dvs)) (upd (upd H1 dx (.own x)) x (.ins C dx [])) (λv H2=>v=.non/\Q (.ref x) H2) E
def Binds(K:i5)(fd:O0)(ps:List Str)(ds:List c8):Prop :=
 ∀(s:h8) (us:List c8),K.In s.heap->(us++ds).length=ps.length->mE s fd ⟨us,[]⟩ (ps.zip (us++ds))
theorem Binds.all{fd:O0}(h:∀us:List c8,us.length=ps.length->bindArgs fd ⟨us,[]⟩=pure (ps.zip us)):Binds K fd ps []:=λs us _ hl=>by rw[cX]at hl ⊢;exact .of_eq (h us hl)
def Passes(CX:nV)(X:Cx)(E:XK):Prop:=∀(pins:List (Addr×Obj)) (σ:St) (H:Hp) (s:h8) (e:c8) (s':h8),Inv X pins σ H s->CX X.stack H s E e s'->X.xe e s'
section
variable{X:Cx}{CX:nV}{k:Nat}{f C:Addr}{fd:O0}{ps:List Str}{sp:Sp}{dvs:List V}{ds:List c8}{E:XK}{x m:Str}{p pos apos:Pos}{e o:Expr}{es:List Expr}{ta:TE}{t:TA}
theorem AO{s:h8}{Q:VK}(F:Z5 X.prog X.w X.K X.mg X.base CX k f fd ps sp)(hr:J2 k X.A)(hb:Binds X.K fd ps ds)(hd:Vals dvs ds)(hx:Passes CX X E)(I:Inv X pins σ H s)(r:Vals vs us)(h:sp (vs++dvs) H Q E):wpAny (model X.prog X.w) X.A (call (.ref f) us) (EP X pins σ Q) X.xe s:=by
 have r2:Vals (vs++dvs) (us++ds):=r.append hd;have hl:(us++ds).length=ps.length:=by rw[<-r2.length];exact F.len _ _ _ _ h
 refine wpAny_call (wU (F.run X.A X.stack s H ⟨us,[]⟩ (us++ds) (vs++dvs) Q E hr I.YD (hb s us I.fB hl) r2 h) λr s' hq=>?_)
 cases r with
 |error e=>exact hx pins σ H s e s' I hq
 |ok fl =>
  cases fl with
  |ret u=>exact I.after hq
  |next=>exact bM hq
  |brk=>exact bM hq
  |cont=>exact bM hq
theorem Ga(F:Z5 X.prog X.w X.K X.mg X.base CX k f fd ps sp)(hr:J2 k X.A)(hg:Gl X x)(hm:X.mg x=some (.ref f))(hk:fL X.K (.ref f)=true)(hb:Binds X.K fd ps ds)(hd:Vals dvs ds)(hx:Passes CX X E)(ha:PA X (e::es) t)(hdb:(x==("__debug__" : Str))=false:=by decide)(he:j4 (e::es) X.env=(false,eval e X.env)::j4 es X.env:=by rfl)(hpl:(A9 pos (j4 es X.env)).any (·.1)=false:=by rfl):
  PE X (.Call (.Name x p) (e::es) [] pos) (pU sp dvs E t):=by
 intro pins s σ H Q I h;refine xu (ym I hg hm ?_ hdb);refine DT (h₀:=X.base) I.ok.mod.GA hk (C4 (ha pos pins s σ H _ I h) λus s1 ⟨vs,H1,I1,r,q⟩=>⟨I1.fB,?_⟩) he hpl
 exact AO F hr hb hd hx I1 r q
theorem FZ (he:PE X o ta) (c:sI X.K C) (hm:Meth X.K C m f) (F:Z5 X.prog X.w X.K X.mg X.base CX k f fd ps sp) (hr:J2 k X.A) (hb:Binds X.K fd ps ds) (hd:Vals dvs ds) (hx:Passes CX X E) (ha:PA X (e::es) t) (hst:j4 (e::es) X.env=(false,eval e X.env)::j4 es X.env:=by rfl) (hpl:(A9 pos (j4 es X.env)).any (·.1)=false:=by rfl) (ht:eval (.Call (.Attribute o m apos) (e::es) [] pos) X.env=(do
   let ov <- eval o X.env
   cD apos.atName
   let (f,first) <- holding [ov] (ip ov m pl)
   callWith pos f first (A9 pos (j4 (e::es) X.env)) (aw pos (cq [] X.env))):=by rfl) :
  PE X (.Call (.Attribute o m apos) (e::es) [] pos) (la C m sp dvs E ta t):=by
 intro pins s σ H Q I h;refine NR (pl:=pl) (C4 (he pins s σ H _ I h) λu s1 ⟨x,H1,I1,rx,a,dx,fs,ex,ea,l,q⟩=>?_) ht
 subst ex;obtain rfl:u=aL a:=rx;refine vX I1 ea c hm l ?_;refine DT (first:=[.ref a]) (h₀:=X.base) I.ok.mod.GA hm.kp (C4 (ha pos pins s1 σ H1 _ I1 q) λus s2 ⟨vs,H2,I2,r,q2⟩=>⟨I2.fB,?_⟩) hst hpl
 exact AO (us:=.ref a::us) (vs:=.ref a::vs) F hr hb hd hx I2 (.cons rfl r) q2
theorem Qo (he:PE X o ta) (c:sI X.K C) (hm:Meth X.K C m f) (F:Z5 X.prog X.w X.K X.mg X.base CX k f fd ps sp) (hr:J2 k X.A) (hb:Binds X.K fd ps ds) (hd:Vals dvs ds) (hx:Passes CX X E) (ht:eval (.Call (.Attribute o m apos) [] [] pos) X.env=(do
   let ov <- eval o X.env
   cD apos.atName
   let (f,first) <- holding [ov] (ip ov m pl)
   callWith pos f first (A9 pos (j4 [] X.env)) (aw pos (cq [] X.env))):=by rfl) :
  PE X (.Call (.Attribute o m apos) [] [] pos) (la C m sp dvs E ta gI):=by
 intro pins s σ H Q I h;refine NR (pl:=pl) (C4 (he pins s σ H _ I h) λu s1 ⟨x,H1,I1,rx,a,dx,fs,ex,ea,l,q⟩=>?_) ht
 subst ex;obtain rfl:u=aL a:=rx;refine vX I1 ea c hm l ?_;exact PySem.W.callWith_K0 (first:=[.ref a]) I1.fB hm.kp (AO (us:=[.ref a]) (vs:=[.ref a]) F hr hb hd hx I1 (.cons rfl .nil) q)
structure Mk(K:i5)(C f:Addr):Prop where
 makes:Dz K C=true
 init:az K (.ref C) "__init__" = some (some (.ref f))
 fn:wW K (.ref f)=true
 kp:fL K (.ref C)=true
theorem Pg{s:h8}{Q:VK}(M:Mk X.K C f)(F:Z5 X.prog X.w X.K X.mg X.base CX k f fd ps sp)(hr:J2 (k+1) X.A)(hb:Binds X.K fd ps ds)(hd:Vals dvs ds)(hx:Passes CX X E)(I:Inv X pins σ H s)(r:Vals vs us)(h:∀x dx,H x=none->H dx=none->dx≠x->sp (.ref x::(vs++dvs)) (upd (upd H dx (.own x)) x (.ins C dx [])) (λv H2=>v=.non/\Q (.ref x) H2) E):
  wpAny (model X.prog X.w) X.A (call (.ref C) us) (EP X pins σ Q) X.xe s:=by
 have hq:=h (s.heap.objs.size+1) s.heap.objs.size (I.A7.fresh (wO _)) (I.A7.fresh (l5 _)) (X5 (sh _));have I2:=Inv.made (C:=C) I;have r2:Vals (V.ref (s.heap.objs.size+1)::(vs++dvs)) (aL (s.heap.objs.size+1)::(us++ds)):=.cons rfl (r.append hd);have hl:(aL (s.heap.objs.size+1)::us++ds).length=ps.length:=by have e:=r2.length;rw[F.len _ _ _ _ hq]at e;exact e.symm
 refine wpAny_call (QN (f:=f) I.fB M.makes M.init (beq_iff_eq.mp M.fn) (wU (F.run _ X.stack _ _ ⟨aL (s.heap.objs.size+1)::us,[]⟩ (aL (s.heap.objs.size+1)::(us++ds)) _ _ E (hr.make C us [])
  (I2.YD.make C us []) (hb _ (aL (s.heap.objs.size+1)::us) I2.fB hl) r2 hq) λr s' hq'=>?_))
 cases r with
 |error e=>exact hx pins σ _ _ e s' I2 hq'
 |ok fl =>
  cases fl with
  |ret u =>
   obtain⟨v,H',I3,rv,ev,q3⟩:=I2.after hq';subst ev;exact⟨rv,⟨V.ref (s.heap.objs.size+1),H',I3,rfl,q3⟩⟩
  |next=>exact bM hq'
  |brk=>exact bM hq'
  |cont=>exact bM hq'
theorem Vh(M:Mk X.K C f)(F:Z5 X.prog X.w X.K X.mg X.base CX k f fd ps sp)(hr:J2 (k+1) X.A)(hg:Gl X x)(hm:X.mg x=some (.ref C))(hb:Binds X.K fd ps ds)(hd:Vals dvs ds)(hx:Passes CX X E)(ha:PA X (e::es) t)(hdb:(x==("__debug__" : Str))=false:=by decide)(he:j4 (e::es) X.env=(false,eval e X.env)::j4 es X.env:=by rfl)(hpl:(A9 pos (j4 es X.env)).any (·.1)=false:=by rfl):
  PE X (.Call (.Name x p) (e::es) [] pos) (Su C sp dvs E t):=by
 intro pins s σ H Q I h;refine xu (ym I hg hm ?_ hdb);refine DT (h₀:=X.base) I.ok.mod.GA M.kp (C4 (ha pos pins s σ H _ I h) λus s1 ⟨vs,H1,I1,r,q⟩=>⟨I1.fB,?_⟩) he hpl
 exact Pg M F hr hb hd hx I1 r q
end
section
variable{X:Cx}{CX:nV}{k:Nat}{f C:Addr}{fd:O0}{ps ks:List Str}{sp:Sp}{E:XK}{x m:Str}{p pos apos kpos:Pos}{e o:Expr}{es:List Expr}{kws:List W8}{te ta:TE}{t tk:TA}{nm:Option Str}
structure a0G(K:i5)(fd:O0)(ps ks:List Str)(g:List c8->List c8->List c8)(gV:List V->List V->List V):Prop where
 to:∀(s:h8) (us ws:List c8),K.In s.heap->(g us ws).length=ps.length->mE s fd ⟨us,ks.zip ws⟩ (ps.zip (g us ws))
 rel:∀{vs:List V} {us:List c8} {zs:List V} {ws:List c8},Vals vs us->Vals zs ws->Vals (gV vs zs) (g us ws)
variable{g:List c8->List c8->List c8}{gV:List V->List V->List V}
end
structure jl(N P:List Str)(sc:Y4):Prop where
 kind:sc.kind=.function
 co:sc.isCoroutine=false
 gen:sc.isGenerator=false
 nd:N.Nodup
 pre:N.take P.length=P
 par:∀x∈P,sc.names.lookup x=some .local\/sc.names.lookup x=some .cell
 XQ:∀y∈sc.names,y.2≠.free
theorem zI{aQ:Str->Option ik}{x:Str}:∀{binds:List (Str×c8)} {m:Str->Option c8},(∀v,(x,v)∉binds)->bindL aQ binds m x=m x
 | [],_,_=>rfl
 |(n,v)::r,m,h=>by
  unfold bindL;rw[zI λw hw=>h w (A0 _ hw)]
  split
  . have:x≠n:=by rintro rfl;exact h v B7
    simp[this]
  . rfl
theorem zK{aQ:Str->Option ik}{x:Str}:∀{binds:List (Str×c8)} {m:Str->Option c8},(∀v,(x,v)∉binds)->bindC aQ binds m x=m x
 | [],_,_=>rfl
 |(n,v)::r,m,h=>by
  unfold bindC;rw[zK λw hw=>h w (A0 _ hw)]
  split
  . rfl
  . have:x≠n:=by rintro rfl;exact h v B7
    simp[this]
theorem zJ{aQ:Str->Option ik}{x:Str}{v:c8}:∀{P:List Str} {vs:List c8} {i:Nat} {m:Str->Option c8},P.Nodup->P[i]? = some x->vs[i]? = some v->aQ x=some .local ->
  bindL aQ (P.zip vs) m x=some v
 | [],_,_,_,_,h,_,_=>by simp at h
 |_::_,[],_,_,_,_,h,_=>by simp at h
 |p::P,w::vs,0,m,nd,h1,h2,hk=>by
  simp at h1 h2;subst h1;subst h2;show bindL aQ ((p,w)::P.zip vs) m p=_
  unfold bindL;rw[zI λv hv=>(List.nodup_cons.mp nd).1 (Dy hv).1,c7 hk]
  simp
 |p::P,w::vs,i+1,m,nd,h1,h2,hk=>by
  show bindL aQ ((p,w)::P.zip vs) m x=_
  unfold bindL;exact zJ (i:=i) (List.nodup_cons.mp nd).2 (by simpa using h1) (by simpa using h2) hk
theorem zL{aQ:Str->Option ik}{x:Str}{v:c8}:∀{P:List Str} {vs:List c8} {i:Nat} {m:Str->Option c8},P.Nodup->P[i]? = some x->vs[i]? = some v->aQ x≠some .local ->
  bindC aQ (P.zip vs) m x=some v
 | [],_,_,_,_,h,_,_=>by simp at h
 |_::_,[],_,_,_,_,h,_=>by simp at h
 |p::P,w::vs,0,m,nd,h1,h2,hk=>by
  simp at h1 h2;subst h1;subst h2;show bindC aQ ((p,w)::P.zip vs) m p=_
  unfold bindC;rw[zK λv hv=>(List.nodup_cons.mp nd).1 (Dy hv).1,c9 hk]
  simp
 |p::P,w::vs,i+1,m,nd,h1,h2,hk=>by
  show bindC aQ ((p,w)::P.zip vs) m x=_
  unfold bindC;exact zL (i:=i) (List.nodup_cons.mp nd).2 (by simpa using h1) (by simpa using h2) hk
def start(N:List Str)(vs:List V):St:=vs.map some++v5 (N.length-vs.length) none
def mw(CX:nV)(P:B1)(w:t9)(K:i5)(mg:Str->Option c8)(base:Heap)(N:List Str)(qual:Str)(scope:Y4)(f:Addr)(cd:c8)(A:A2)(outer:List Env)(s:h8)(H:Hp)(E:XK):Cx where
 prog:=P
 w:=w
 K:=K
 mg:=mg
 base:=base
 A:=A.deeper (dz qual scope s.heap.objs.size f cd)
 N:=N
 O5:=s
 e8:=H
 env:=dz qual scope s.heap.objs.size f cd
 outer:=outer
 stack:=dz qual scope s.heap.objs.size f cd::outer
 ex:=[]
 calm:=true
 fn:=λ_=>true
 pn:=[]
 xe:=λe s'=>wpAny (model P w) (A.deeper (dz qual scope s.heap.objs.size f cd)) (leaving (dz qual scope s.heap.objs.size f cd) e) (λ_ s''=>CX outer H s E e s'') (λe' s''=>CX outer H s E e' s'') s'
theorem Cr{sc:Y4}{n:Nat}{x:Str}(h:sc.names.lookup x=some .cell):∃c,(fI n sc.names []).lookup x=some c:=by have q:=NY sc.names n [] (.inl h);exact Option.isSome_iff_exists.mp q
theorem LJ{s s1:h8}{E:XK}(S:jl N ps scope)(hd:A.handled=none)(e0:vf P w K mg base A outer s H)(hl:vs.length=ps.length)(r:Vals vs us)(x:InCallC s s.heap.objs.size (bindL (dz qual scope s.heap.objs.size f cd).kindOf (ps.zip us) λ_=>none) (fI (s.heap.objs.size+1) scope.names []) (bindC (dz qual scope s.heap.objs.size f cd).kindOf (ps.zip us) λ_=>none) s1):
  Inv (mw CX P w K mg base N qual scope f cd A outer s H E) [] (start N vs) H s1:=by
 have hpl:ps.length<=N.length:=by have:=E6 List.length S.pre;rw[pB]at this;lia
 obtain⟨h1,tk,rfl,hk⟩:=x.done;have noA:∀b:Addr,b∉(mw CX P w K mg base N qual scope f cd A outer s H E).ex:=λb z=>absurd (show b∈([]:List Addr)from z) (by simp)
 refine⟨⟨e0.mod,S.kind,rfl,rfl,l5 _,λy z c h1 h2=>?_,λy hy=>?_,λy c _ h=>?_,λ_=>hd,Around.frames_deeper e0.frames,.inr ⟨rfl,rfl⟩,λb z=>absurd z (noA b),e0.bs,e0.qH,λb _ _=>noA b,λb z=>absurd z (noA b),e0.jf,e0.zz⟩,
  rfl,e0.bare,Un.kept hk,⟨_,x.toInCall.ns,λi y v h1 h2 h3=>?_⟩,λy c h=>⟨_,x.cell y c h⟩,e0.A7.fresh (l5 _),λy c h=>?_,λp hp=>absurd (show p∈([]:List (Addr×Obj))from hp) (by simp),e0.A7.kept hk,?_⟩
 . exact name_of_addr x.apart (kz h1) (kz h2)
 . have hy:scope.names.lookup y=some .cell\/scope.names.lookup y=some .free:=hy;rcases hy with hy|hy
   . exact Cr hy
   . exact absurd rfl (S.XQ _ (kz hy))
 . exact ke (x.above y c (kz h))
 . have hi:i<vs.length:=by
     unfold start at h2;by_cases hi:i<vs.length
     . exact hi
     . rw[sF (by simpa using hi)]at h2
       rw[Ef]at h2;split at h2<;>cases h2
   have ha:vs[i]? = some v:=by
    unfold start at h2;rw[sD (by simpa using hi),P5]at h2
    cases e:vs[i]? with
    |none=>rw[e]at h2;cases h2
    |some a=>rw[e]at h2;cases h2;rfl
   obtain⟨u,hu,rv⟩:=r.get ha;have hp:ps[i]? = some y:=by rw[<-S.pre,List.getElem?_take_of_lt (by lia)];exact h1
   have ndP:ps.Nodup:=by rw[<-S.pre];exact S.nd.sublist (Np _ _)
   refine⟨u,rv,?_⟩;rcases S.par y (sA hp)with k|k
   . exact .inl ⟨k,zJ ndP hp hu k⟩
   . obtain⟨c,e⟩:=Cr (n:=s.heap.objs.size+1) k;refine .inr ⟨.inl k,c,e,?_⟩;have q:=x.cell y c e;rw[zL ndP hp hu (by show scope.names.lookup y≠_;rw[k];decide)]at q
     exact q
 . exact e0.A7.fresh (ke (x.above y c (kz h)))
 . delta start;show _=N.length
   rw[hW,F9,xC]
   lia
theorem Zy {params:Arguments} {body:List Stmt} {kV:c8} {an od:Option Addr} {osl:Array (Option c8)} {sp:Sp} (lk:K.lookup f=some ⟨oc,od,.func (iw name qual params body scope dV kV doc pm an cdv ct),osl⟩) (hcd:xc K cdv qual=true) (S:jl N ps scope) (len:∀vs H Q E,sp vs H Q E->vs.length=ps.length) (hbody:∀(A:A2) (outer:List Env) (s:h8) (H:Hp) (vs:List V) (Q:VK) (E:XK),J2 k (A.deeper (dz qual scope s.heap.objs.size f cdv))->sp vs H Q E ->
   ∃t,nS (mw CX P w K mg base N qual scope f cdv A outer s H E) body t/\t {nx:=λ_ H'=>Q .non H',rt:=Q} (start N vs) H) :
  Z5 P w K mg base CX (k+1) f (iw name qual params body scope dV kV doc pm an cdv ct) ps sp:=by
 refine⟨len,λA outer s H args us vs Q E hr e0 hb r hsp=>?_⟩
 have hl:=len _ _ _ _ hsp;have KX:K.In s.heap:=e0.mod.GA.keeps λb o e=>(e0.bs b o e).1
 have lim:s.heap.NoLimit:=e0.mod.nolimit.keeps λb o e=>(e0.bs b o e).1
 have hkind:∀y∈ps.zip us,scope.names.lookup y.1=some .local\/(scope.names.lookup y.1=some .cell/\((fI (s.heap.objs.size+1) scope.names []).lookup y.1).isSome=true):=λ⟨n,v⟩ hy=>by
  rcases S.par n (Dy hy).1 with q|q
  . exact .inl q
  . exact .inr ⟨q,NY _ _ _ (.inl q)⟩
 refine codeAny_call_function hr.depth (KX _ _ lk) rfl S.co S.gen rfl (PySem.W.codeRec_of KX hcd) (hb _ _ _ _ ?_);refine wpAny_newFunctionEnv_cells S.kind hkind λenv he s1 x=>?_
 subst he;refine⟨lim.keeps x.toInCall.keep,codeAny_func ?_⟩;obtain⟨t,ht,hq⟩:=hbody A outer s H vs Q E (hr.deeper _) hsp;have I:Inv (mw CX P w K mg base N qual scope f cdv A outer s H E) [] (start N vs) H s1:=LJ S hr.hd e0 hl r x;refine cG (ht [] s1 (start N vs) H _ I hq) (λfl s' hs=>?_) λe s' hs=>hs
 have fin:∀{σ':St} {H':Hp} {v:V} {u:c8},Inv (mw CX P w K mg base N qual scope f cdv A outer s H E) [] σ' H' s'->RelV v u->Q v H'->CE outer P w H s Q u s' :=
  λ{σ' H' v u} J rv q=>⟨v,H',J.os,J.bare,J.base,J.A7,rv,q⟩
 cases fl with
 |ret u =>
  obtain⟨v,σ',H',J,rv,q⟩:=hs;exact fin J rv q
 |next =>
  obtain⟨σ',H',J,q⟩:=hs;exact fin (v:=V.non) (u:=fJ) J rfl q
 |brk =>
  obtain⟨_,_,_,q⟩:=hs;exact bM q
 |cont =>
  obtain⟨_,_,_,q⟩:=hs;exact bM q
end
section
variable{X:Cx}{x:Str}{p pos:Pos}{e:Expr}{es:List Expr}{t:TA}{id T:String}{r:List V->Hp->VK->Prop}
def vn(r:List V->Hp->VK->Prop)(t:TA):TE:=λσ H Q=>t σ H λvs H1=>r vs H1 Q
theorem Bg(hc:T9 X (.builtin id) r)(hg:Gl X x)(hm:X.mg x=none)(hv:ej x=some (.builtin id))(ha:PA X (e::es) t)(hn:x ≠ "__name__":=by decide)(hdb:(x==("__debug__" : Str))=false:=by decide)(he:j4 (e::es) X.env=(false,eval e X.env)::j4 es X.env:=by rfl)(hpl:(A9 pos (j4 es X.env)).any (·.1)=false:=by rfl):PE X (.Call (.Name x p) (e::es) [] pos) (vn r t):=by intro pins s σ H Q I h;refine xu (oH I hg hm hv ?_ hn hdb);exact PyProof.Rows.callWith_builtin1 (C4 (ha pos pins s σ H _ I h) λus s1 ⟨vs,H1,I1,r1,q1⟩=>hc pins s1 σ H1 vs us Q I1 r1 q1) he hpl
theorem qX(hc:T9 X (.type T) r)(hg:Gl X x)(hm:X.mg x=none)(hv:ej x=some (.type T))(ha:PA X (e::es) t)(hn:x ≠ "__name__":=by decide)(hdb:(x==("__debug__" : Str))=false:=by decide)(he:j4 (e::es) X.env=(false,eval e X.env)::j4 es X.env:=by rfl)(hpl:(A9 pos (j4 es X.env)).any (·.1)=false:=by rfl):PE X (.Call (.Name x p) (e::es) [] pos) (vn r t):=by intro pins s σ H Q I h;refine xu (oH I hg hm hv ?_ hn hdb);exact xM (C4 (ha pos pins s σ H _ I h) λus s1 ⟨vs,H1,I1,r1,q1⟩=>hc pins s1 σ H1 vs us Q I1 r1 q1) he hpl
end
end L2
namespace HT
open PySem PyProof.Rows
def lexLt:List Int->List Int->Bool
 | [],[]=>false
 | [],_::_=>true
 |_::_,[]=>false
 |x::xs,y::ys=>if x=y then lexLt xs ys else decide (x<y)
theorem IC(x y:Int)(xs ys:List Int):lexLt (x::xs) (y::ys)=if x=y then lexLt xs ys else decide (x<y):=rfl
theorem zW:lexLt [] []=false:=rfl
theorem yk(y:Int)(ys:List Int):lexLt [] (y::ys)=true:=rfl
theorem yl(x:Int)(xs:List Int):lexLt (x::xs) []=false:=rfl
theorem Rq(A:A2)(s:h8)(a:Int)(t:Tok)(c:Int)(u:Tok):∃e,CL A s (.int a t) (.int c u) e/\(e=true↔a=c) :=
 ⟨(a==c),Nz a t c u,by simp⟩
theorem Po(A:A2)(s:h8)(a:Int)(t:Tok)(c:Int)(u:Tok)(prog:B1)(w:t9)(E:c8->h8->Prop)(Q:c8->h8->Prop)(h:Q (.bool (decide (a<c))) s):
  wpAny (model prog w) A (richCompare .Lt (.int a t) (.int c u)) Q E s :=
 (PyProof.Rows.lt_int h:wpAny (model prog w) A (V5 .Lt (.int a t) (.int c u)) Q E s)
section
open PySem.SeqAt
open PySem.AutoSeq1 (wpAny_loadPart')
open PySem.MeetsSeq PySem.MeetsSeq2 PySem.MeetsSeq3
theorem zQ(l b:Addr)(items items2:Array c8)(n n2:Nat)(dd dd2:Option Addr)(sl sl2:Array (Option c8))(ns ms:List Int)(hi:S8 items.toList ns)(hj:S8 items2.toList ms):
  Meets (Builtin.«tuple.__lt__» ⟨[.ref l,.ref b],[]⟩)
   (λ_ R s=>s.heap.get? l=some {cls:=.type "tuple",dict:=dd,data:=.seq items n,slots:=sl}/\s.heap.get? b=some {cls:=.type "tuple",dict:=dd2,data:=.seq items2 n2,slots:=sl2} /\
    R (.ok (.ret (.bool (lexLt ns ms)))) s) :=
 .of_wp λprog w A R s h=>by
  obtain⟨hp,g,d,tk,os⟩:=s;obtain⟨hl,hb,h⟩:=h;have f2:=AutoSeq1.sub_tuple_tuple;have z1:items.size=ns.length:=by rw[<-hi.length];simp
  have z2:items2.size=ms.length:=by rw[<-hj.length];simp
  wp_walk using wpAny_loadPart' hl,wpAny_loadPart' hb,wpAny_forIn_list _ (λrest b s'=>b.1=none/\s'=⟨hp,g,d,tk,os⟩/\∃(vs ws:List c8) (ns' ms':List Int),rest=vs.zip ws /\
   S8 vs ns'/\S8 ws ms'/\ns'.length+items2.size=ms'.length+items.size/\R (.ok (.ret (.bool (lexLt ns' ms')))) ⟨hp,g,d,tk,os⟩) _
  case turn =>
   rintro⟨y,x⟩ rest b s' ⟨hb',rfl,vs,ws,ns',ms',hz,hvi,hwi,hlen,hR⟩;cases hvi with
   |nil=>rw[Nn]at hz;cases hz
   |cons a t hvi' =>
    cases hwi with
    |nil=>rw[Ny]at hz;cases hz
    |cons c u hwi' =>
     rw[kx]at hz;injection hz with hyx hrest
     injection hyx with hy hx
     subst hy hx;rw[IC]at hR;simp only[O1]at hlen;obtain⟨e,he,hiff⟩:=Rq A.in1 ⟨hp,g,d,tk,os⟩ a t c u;refine wpAny_bind (he prog w _ _ ?_);cases e with
     |true =>
      rw[c7 (hiff.mp rfl)]at hR
      wp_walk
      exact⟨rfl,rfl,_,_,_,_,hrest,hvi',hwi',by lia,hR⟩
     |false =>
      rw[c9 (λq=>absurd (hiff.mpr q) Q9)]at hR
      have hri:=Po A.in1 ⟨hp,g,d,tk,os⟩ a t c u prog w
      wp_walk using hri
      exact⟨_,rfl,by simpa using hR⟩
  case fin =>
   rintro⟨b1,b2⟩ s' ⟨hb',rfl,vs,ws,ns',ms',hz,hvi,hwi,hlen,hR⟩;simp only at hb';subst hb';have hv:lexLt ns' ms'=decide (items.size<items2.size):=by
    cases hvi with
    |nil =>
     cases hwi with
     |nil =>
      simp only[mR]at hlen;rw[zW];exact(fQ (by lia)).symm
     |cons c u hw =>
      simp only[mR,O1]at hlen;rw[yk];exact(decide_eq_true (by lia)).symm
    |cons a t hv =>
     cases hwi with
     |nil =>
      simp only[mR,O1]at hlen;rw[yl];exact(fQ (by lia)).symm
     |cons c u hw =>
      rw[kx]at hz;cases hz
   rw[hv]at hR
   wp_walk
   exact⟨_,rfl,by simpa [Builtin.Tuple.tupleCompareSizes]using hR⟩
  case h =>
   exact⟨rfl,rfl,items.toList,items2.toList,ns,ms,rfl,hi,hj,by lia,h⟩
end
section
variable{prog:B1}{w:t9}{A:A2}{E:c8->h8->Prop}{s:h8}
theorem IA{l b:Addr}{items items2:Array c8}{ns ms:List Int}{Q:c8->h8->Prop}(hl:fG s.heap l items)(hb:fG s.heap b items2)(hi:S8 items.toList ns)(hj:S8 items2.toList ms)(hu:A.units<cLine)(h:Q (.bool (lexLt ns ms)) s):wpAny (model prog w) A (V5 .Lt (.ref l) (.ref b)) Q E s:=by
 obtain⟨⟨cls,dd,data,sl⟩,ho,hc,n,hd⟩:=id hl;obtain⟨⟨cls2,dd2,data2,sl2⟩,ho2,hc2,n2,hd2⟩:=id hb;simp only at hc hd hc2 hd2;subst hc hd hc2 hd2;exact richCompare_meets_room (op:=.Lt) ⟨_,ho,rfl⟩ ⟨_,ho2,rfl⟩ PySem.F.slot_tuple_lt PySem.F.entry_tuple_lt (PySem.F.args_tuple_lt_2 _ _) (zQ l b items items2 n n2 dd dd2 sl sl2 ns ms hi hj)
  ⟨ho,ho2,show mG (lexLt ns ms)≠Value.notImplemented/\Q (.bool (lexLt ns ms)) s from⟨(λx=>nomatch x),h⟩⟩ hu
theorem VR{t b:Addr}{vs ws:List c8}{Q:c8->h8->Prop}(ht:fG s.heap t vs.toArray)(hb:fG s.heap b ws.toArray)(hv:vs≠[])(h1:ws=[]->Q (.ref t) s)(h2:ws≠[]->Q (.ref s.heap.objs.size) {s with heap:=s.heap.push {cls:=.type "tuple",data:=.seq (vs++ws).toArray}})(hsz:vs.length+ws.length<=B2):wpAny (model prog w) A (U1 .Add (.ref t) (.ref b)) Q E s:=by
 obtain⟨⟨cls,dd,data,sl⟩,ho,hc,n,hd⟩:=id ht;obtain⟨⟨cls2,dd2,data2,sl2⟩,ho2,hc2,n2,hd2⟩:=id hb;simp only at hc hd hc2 hd2;subst hc hd hc2 hd2;have e:vs.toArray++ws.toArray=(vs++ws).toArray:=by simp
 by_cases hw:ws=[]
 . exact wR ⟨_,ho,rfl⟩ ⟨_,ho2,rfl⟩ DG Dh Ec Ee (Eh _ _)
     (tuple_addW1 t b vs.toArray ws.toArray n n2 dd dd2 sl sl2 (by simpa using hv) (by simp[hw])) ⟨ho,ho2,h1 hw⟩
 . refine wR ⟨_,ho,rfl⟩ ⟨_,ho2,rfl⟩ DG Dh Ec Ee (Eh _ _)
     (tuple_addW2 t b vs.toArray ws.toArray n n2 dd dd2 sl sl2 (by simpa using hv) (by simpa using hw) (by rw[L4,L4];exact hsz)) ⟨ho,ho2,?_⟩
   rw[e];exact h2 hw
def E4(n d:Nat):Option Int->Nat
 |none=>d
 |some v=>if v<0 then(v+(n:Int)).toNat else min v.toNat n
theorem WK(n d:Nat)(hd:d<=n)(o:Option Int):E4 n d o<=n:=by
 cases o with
 |none=>exact hd
 |some v =>
  show(if v<0 then(v+(n:Int)).toNat else min v.toNat n)<=n
  by_cases hv:v<0
  . rw[c7 hv];lia
  . rw[c9 hv];exact Nat.min_le_right _ _
theorem He(v:Int)(n d:Nat):(if v<0 then max (v+(n:Int)) 0 else min v (n:Int))=((E4 n d (some v):Nat):Int):=by
 show(if v<0 then max (v+(n:Int)) 0 else min v (n:Int))=(((if v<0 then(v+(n:Int)).toNat else min v.toNat n):Nat):Int)
 by_cases hv:v<0
 . simp only[c7 hv];lia
 . simp only[c9 hv];lia
theorem Jn(lo hi:Option Int)(n:Nat):Ej lo hi 1 (n:Int)=(((E4 n 0 lo:Nat):Int),((E4 n n hi:Nat):Int)):=by
 have h1:¬((1:Int)<0):=by lia
 delta Ej;simp only[h1,N9];refine Prod.ext ?_ ?_
 . cases lo with
   |none=>rfl
   |some v=>exact He v n 0
 . cases hi with
   |none=>rfl
   |some v=>exact He v n n
theorem HW(i j:Nat):xJ (i:Int) (j:Int) 1=j-i:=by
 delta xJ;have h1:(1:Int)>0:=by lia
 simp only[h1,w9,Int.ediv_one];split<;>lia
theorem vt{v:c8}{o:Option Int}{Q:Option Int->h8->Prop}(p:fH v o)(h:Q o s):wpAny (model prog w) A (Builtin.Slice.slicePartIndex v) Q E s:=by
 cases p with
 |none=>exact slicePart_none h
 |int i t=>exact slicePart_int h
theorem lR{sl:Addr}{vl vu:c8}{lo hi:Option Int}{n:Nat}{Q:Int×Int×Nat->h8->Prop}(hs:s.heap.IsSliceOf sl vl vu .none)(pl:fH vl lo)(pu:fH vu hi)(h:Q (((E4 n 0 lo:Nat):Int),1,E4 n n hi-E4 n 0 lo) s):wpAny (model prog w) A (Oq (.ref sl) (pure (n:Int))) Q E s:=by
 obtain⟨os,hos,hcs,hds⟩:=id hs;delta Oq Builtin.Slice.sliceFields;refine wpAny_bind (wpAny_bind (bx hos hds (x:=vl) rfl (wpAny_bind (bx hos hds (x:=vu) rfl (wpAny_bind (bx hos hds (x:=.none) rfl (n9 ?_)))))));refine wpAny_bind (slicePart_none ?_);show wpAny _ _ (if ((1:Int)==0)=true then _ else _) _ _ s
 rw[c9 (by decide)]
 refine wpAny_bind (vt pl (wpAny_bind (vt pu (wpAny_bind (n9 ?_)))));show wpAny _ _ (match Ej lo hi 1 (n:Int)with|(lo,hi)=>pure (lo,(1:Int),xJ lo hi 1)) _ _ s
 rw[Jn lo hi n];show wpAny _ _ (pure (((E4 n 0 lo:Nat):Int),(1:Int),xJ ((E4 n 0 lo:Nat):Int) ((E4 n n hi:Nat):Int) 1)) _ _ s
 rw[HW];exact n9 h
theorem Qk(xs:Array c8)(i k:Nat):((v8 k).filterMap λ(m:Nat)=>xs[((i:Int)+(m:Int)*1).toNat]?).toArray=((xs.toList.drop i).take k).toArray:=by
 have e:(λ(m:Nat)=>xs[((i:Int)+(m:Int)*1).toNat]?)=λm=>xs[i+m]?:=by
  funext m
  have:((i:Int)+(m:Int)*1).toNat=i+m:=by lia
  rw[this]
 rw[e];have:=pick_run xs i k;rw[List.filterMap_map]at this;have e2:((λx=>xs[x]?)∘λx=>i+x)=λm=>xs[i+m]?:=rfl
 rw[e2]at this;rw[this]
theorem tN{t sl:Addr}{items:Array c8}{vl vu:c8}{lo hi:Option Int}{Q:c8->h8->Prop}(ht:fG s.heap t items)(hs:s.heap.IsSliceOf sl vl vu .none)(pl:fH vl lo)(pu:fH vu hi)(hw:¬(E4 items.size 0 lo=0/\E4 items.size items.size hi=items.size))(h:Q (.ref s.heap.objs.size) {s with heap:=s.heap.push {cls:=.type "tuple",data:=.seq ((items.toList.drop (E4 items.size 0 lo)).take (E4 items.size items.size hi-E4 items.size 0 lo)).toArray}})(hsz:items.size<=B2):wpAny (model prog w) A (mD (.ref t) (.ref sl)) Q E s:=by
 have htake:sizeOk (.seq ((items.toList.drop (E4 items.size 0 lo)).take (E4 items.size items.size hi-E4 items.size 0 lo)).toArray):=by
  show((items.toList.drop (E4 items.size 0 lo)).take (E4 items.size items.size hi-E4 items.size 0 lo)).toArray.size<=B2
  rw[L4,pB,Ng,xA]
  lia
 have hj:E4 items.size items.size hi<=items.size:=WK _ _ (l5 _) hi;obtain⟨os,hos,hcs,hds⟩:=id hs;have hTs:s.TypeIs (.ref sl) "slice":=⟨os,hos,hcs⟩;delta mD;try with_reducible refine kh ?_
 first|refine wpAny_bind (n9 ?_)|skip
 refine wpAny_bind (wpAny_sequenceKey ht.typeIs (by decide) ?_)
 refine wpAny_bind (qx (name:=dG "__getitem__") ht.typeIs xN
  (kq xN ht.typeIs entry_tuple_getitem ?_ (args_tuple_getitem _ _)))
 show wpAny _ _ (Oo (.ref t) >>= _) _ _ s
 refine wpAny_bind (tupleItemsOf_ ht ?_);refine wpAny_bind (CV hTs ?_);rw[c7 (by decide)]
 refine wpAny_bind (lR hs pl pu ?_);have hno:¬((((E4 items.size 0 lo:Nat):Int)==0&&(1:Int)==1&&(E4 items.size items.size hi-E4 items.size 0 lo)==items.size)=true):=by intro q;rw[ek,ek]at q;have q1:((E4 items.size 0 lo:Nat):Int)=0:=wK q.1.1;have q2:E4 items.size items.size hi-E4 items.size 0 lo=items.size:=wK q.2;exact hw ⟨by lia,by lia⟩
 show wpAny _ _ (if (((E4 items.size 0 lo:Nat):Int)==0&&(1:Int)==1&&(E4 items.size items.size hi-E4 items.size 0 lo)==items.size)=true then _ else _) _ _ s
 rw[c9 hno,Qk];first
  |exact wpAny_bind (m:=xG _) (mX (n9 ⟨_,rfl,n9 h⟩) htake)
  |exact wpAny_bind (m:=xG _) (mX (wpAny_bind (n9 (n9 ⟨_,rfl,n9 h⟩))) htake)
  |exact wpAny_bind (wpAny_bind (m:=xG _) (mX (n9 (n9 ⟨_,rfl,n9 h⟩)) htake))
  |exact wpAny_bind (wpAny_bind (m:=xG _) (mX (n9 ⟨_,rfl,n9 h⟩) htake))
end
end HT
namespace L2
open PySem PySem.Spec PyProof.Rows
abbrev TO:=St->Hp->(Option Int->Hp->Prop)->Prop
def PO(X:Cx)(e:Option Expr)(t:TO):Prop :=
 ∀(pins:List (Addr×Obj)) (s:h8) (σ:St) (H:Hp) (Q:Option Int->Hp->Prop),Inv X pins σ H s->t σ H Q ->
  wpAny (model X.prog X.w) X.A (evalPart e X.env) (λu s'=>∃o H',Inv X pins σ H' s'/\fH u o/\Q o H') X.xe s
def Fp:TO:=λ_ H Q=>Q none H
def Sq(t:TE):TO:=λσ H Q=>t σ H λx H1=>∃i,x=.int i/\Q (some i) H1
theorem intsAre_of{ns:List Int}:∀{us:List c8},Vals (ns.map V.int) us->S8 us ns:=by
 induction ns with
 |nil=>intro us r;rw[P2]at r;cases r;exact .nil
 |cons n ns ih =>
  intro us r;rw[o5]at r;cases r with
  |cons r1 r2 =>
   obtain⟨t,e⟩:=r1;subst e;exact .cons n t (ih r2)
section
variable{X:Cx}{e:Expr}{te:TE}{lo hi:Option Expr}{tl th:TO}{pos p2:Pos}
theorem Vc:PO X none Fp:=by intro pins s σ H Q I h;rw[evalPart_none];exact n9 ⟨none,H,I,.none,h⟩
theorem Vb(h:PE X e te):PO X (some e) (Sq te):=by
 intro pins s σ H Q I hw;rw[evalPart_some];refine C4 (h pins s σ H _ I hw) λu s1 ⟨x,H1,I1,r1,q1⟩=>?_
 obtain⟨i,rfl,q⟩:=q1;obtain⟨t,rfl⟩:=r1;exact⟨some i,H1,I1,.int i t,q⟩
def ue(X:Cx)(r:V->Option Int->Option Int->Hp->VK->Prop):Prop :=
 ∀(pins:List (Addr×Obj)) (s:h8) (σ:St) (H:Hp) (x:V) (v vl vu:c8) (lo hi:Option Int) (sl:Addr) (Q:VK),Inv X pins σ H s->RelV x v->s.heap.IsSliceOf sl vl vu .none->fH vl lo->fH vu hi->r x lo hi H Q ->
  ∃T id,typeLookup (.type T) "__getitem__" = pure (some (.builtin id))/\s.TypeIs v T/\wpAny (model X.prog X.w) X.A (mD v (.ref sl)) (EP X pins σ Q) X.xe s
theorem ue.or{r r':V->Option Int->Option Int->Hp->VK->Prop}(h:ue X r)(h':ue X r'):ue X (λx lo hi H Q=>r x lo hi H Q\/r' x lo hi H Q):=by
 intro pins s σ H x v vl vu lo hi sl Q I rx hs pl pu q;rcases q with q|q
 . exact h pins s σ H x v vl vu lo hi sl Q I rx hs pl pu q
 . exact h' pins s σ H x v vl vu lo hi sl Q I rx hs pl pu q
def ZK(r:V->Option Int->Option Int->Hp->VK->Prop)(te:TE)(tl th:TO):TE:=λσ H Q=>te σ H λx H1=>tl σ H1 λl H2=>th σ H2 λu H3=>r x l u H3 Q
theorem Qn{r:V->Option Int->Option Int->Hp->VK->Prop}(hr:ue X r)(he:PE X e te)(hl:PO X lo tl)(hu:PO X hi th):PE X (.Subscript e (.Slice lo hi none p2) pos) (ZK r te tl th):=by
 intro pins s σ H Q I h;refine Subscript_ (C4 (he pins s σ H _ I h) λv s1 ⟨x,H1,I1,r1,q1⟩=>?_)
 refine wpAny_Slice (C4 (hl pins s1 σ H1 _ I1 q1) λvl s2 ⟨l,H2,I2,pl,q2⟩=>C4 (hu pins s2 σ H2 _ I2 q2) λvu s3 ⟨u,H3,I3,pu,q3⟩=>?_)
 rw[evalPart_none];refine n9 ?_;have I4:Inv X pins σ H3 {s3 with heap:=s3.heap.push {cls:=.type "slice",data:=.fields #[vl,vu,.none]}}:=I3.kept (t':=s3.toks) λb ob q=>E5 _ q
 obtain⟨T,id,hT,ht,hg⟩:=hr pins {s3 with heap:=s3.heap.push {cls:=.type "slice",data:=.fields #[vl,vu,.none]}} σ H3 x v vl vu l u s3.heap.objs.size Q I4 r1 (Heap.IsSliceOf.new ..) pl pu q3
 show wpAny (model X.prog X.w) X.A (subscriptTail e (.Slice lo hi none p2) v (.ref s3.heap.objs.size)) (EP X pins σ Q) X.xe {s3 with heap:=s3.heap.push {cls:=.type "slice",data:=.fields #[vl,vu,.none]}}
 exact tail_any (ops:=[.ref s3.heap.objs.size,v]) ht hT hg (by with_unfolding_all rfl)
def my(xs:List V)(lo hi:Option Int):List V:=(xs.drop (HT.E4 xs.length 0 lo)).take (HT.E4 xs.length xs.length hi-HT.E4 xs.length 0 lo)
theorem ud(xs:List V)(lo hi:Option Int):(my xs lo hi).length<=xs.length:=by
 delta my;rw[pB,Ng]
 lia
def a0e(K:i5):V->Option Int->Option Int->Hp->VK->Prop:=λx lo hi H Q=>∃a xs,x=.ref a/\N6 K H a xs /\
 ¬(HT.E4 xs.length 0 lo=0/\HT.E4 xs.length xs.length hi=xs.length)/\∀p,H p=none->Q (.ref p) (upd H p (.tup (my xs lo hi)))
theorem WG:ue X (a0e X.K):=by
 intro pins s σ H x v vl vu lo hi sl Q I rx hs pl pu h;obtain⟨a,xs,rfl,hx,hw,q⟩:=h;cases rx;obtain⟨its,r,ht,hz⟩:=I.tuple hx;have hlen:its.toArray.size=xs.length:=by rw[L4];exact r.length.symm
 refine⟨"tuple",_,PyProof.Rows.slot_tuple_getitem.lookup,ht.typeIs,?_⟩;refine HT.tN ht hs pl pu (by rw[hlen];exact hw) ?_ (by rw[hlen];exact hz)
 rw[hlen];refine⟨.ref s.heap.objs.size,_,I.laid (t':=s.toks) (o:=.tup (my xs lo hi)) (λb ob q=>E5 _ q) (l5 _) ?_,rfl,q _ (I.A7.fresh (l5 _))⟩
 exact⟨P4 (ud xs lo hi) hz,_,(r.drop (HT.E4 xs.length 0 lo)).take (HT.E4 xs.length xs.length hi-HT.E4 xs.length 0 lo),CH _ _⟩
def WU(K:i5):R2:=λx y H Q=>∃a b ns ms,x=.ref a/\y=.ref b/\N6 K H a (ns.map V.int)/\N6 K H b (ms.map V.int)/\Q (.bl (HT.lexLt ns ms)) H
theorem XG(hu:X.A.units<cLine):R8 X (V5 .Lt) (WU X.K):=by intro pins s σ H x y v u Q I rx ry h;obtain⟨a,b,ns,ms,rfl,rfl,ha,hb,q⟩:=h;cases rx;cases ry;obtain⟨its,r1,p1,_⟩:=I.tuple ha;obtain⟨its2,r2,p2,_⟩:=I.tuple hb;have i1:S8 its.toArray.toList ns:=intsAre_of r1;have i2:S8 its2.toArray.toList ms:=intsAre_of r2;exact HT.IA p1 p2 i1 i2 hu ⟨.bl (HT.lexLt ns ms),H,I,rfl,q⟩
def Zh(K:i5):R2:=λx y H Q=>∃a b xs ys,x=.ref a/\y=.ref b/\N6 K H a xs/\N6 K H b ys/\xs≠[]/\xs.length+ys.length<=B2 /\
 (ys=[]->Q (.ref a) H)/\(ys≠[]->∀p,H p=none->Q (.ref p) (upd H p (.tup (xs++ys))))
theorem Vals.sU{xs:List V}{us:List c8}(r:Vals xs us):us=[]↔xs=[]:=by
 cases r with
 |nil=>simp
 |cons _ _=>simp
theorem Vs:R8 X (U1 .Add) (Zh X.K):=by
 intro pins s σ H x y v u Q I rx ry h;obtain⟨a,b,xs,ys,rfl,rfl,ha,hb,hx,hz,q1,q2⟩:=h;cases rx;cases ry;obtain⟨its,r1,p1,_⟩:=I.tuple ha;obtain⟨its2,r2,p2,_⟩:=I.tuple hb;refine HT.VR p1 p2 (λz=>hx (r1.sU.mp z)) (λz=>⟨.ref a,H,I,rfl,q1 (r2.sU.mp z)⟩) (λz=>?_) (by rw[<-r1.length,<-r2.length];exact hz)
 refine⟨.ref s.heap.objs.size,_,I.laid (t':=s.toks) (o:=.tup (xs++ys)) (λb ob q=>E5 _ q) (l5 _) ?_,rfl,q2 (λw=>z (r2.sU.mpr w)) _ (I.A7.fresh (l5 _))⟩
 exact⟨by rw[hW];exact hz,_,r1.append r2,CH _ _⟩
end
section
variable{α:Type}{j n':Nat}{r r':R2}{pins:List (Addr×Obj)}{σ:St}{H:Hp}{y:V}{u v:c8}
def eO(n:Nat)(i:Int):Option Nat:=if 0<=i then(if i<n then some i.toNat else none)else if -(n:Int)<=i then some (i+n).toNat else none
def K7(xs:List α)(i:Int):Option α:=(eO xs.length i).bind λj=>xs[j]?
theorem GC{n:Nat}{i:Int}(h:eO n i=some j):seqIndex? i n=some j/\j<n/\-(n:Int)<=i/\i<n:=by
 unfold eO at h;by_cases h0:0<=i
 . rw[c7 h0]at h;by_cases h1:i<n
   . rw[c7 h1]at h;have e:i.toNat=j:=aA h;exact⟨by rw[seqIndex_of h0 h1,e],by lia,by lia,h1⟩
   . rw[c9 h1]at h;cases h
 . rw[c9 h0]at h;by_cases h1 : -(n:Int)<=i
   . rw[c7 h1]at h;have e:(i+n).toNat=j:=aA h;exact⟨by rw[CU (by lia) h1,e],by lia,h1,by lia⟩
   . rw[c9 h1]at h;cases h
theorem yG{xs:List α}{i:Int}{v:α}(h:K7 xs i=some v):∃j,seqIndex? i xs.length=some j/\xs[j]? = some v/\j<xs.length/\-(xs.length:Int)<=i/\i<xs.length:=by
 unfold K7 at h;cases e:eO xs.length i with
 |none=>rw[e]at h;cases h
 |some j =>
  rw[e]at h;obtain⟨h1,h2,h3,h4⟩:=GC e;exact⟨j,h1,h,h2,h3,h4⟩
theorem Hg{xs:List α}{v:α}(h:xs[j]? = some v):K7 xs (j:Int)=some v:=by
 have hj:j<xs.length:=(List.getElem?_eq_some_iff.mp h).1;have e:eO xs.length (j:Int)=some j:=by delta eO;rw[c7 (by lia),c7 (by lia)];simp
 delta K7;rw[e];exact h
def jk(b:Expr):Prop:=∀o i,subscripted b false o i=operate [o,i] (mD o i)
def ug(X:Cx)(r:R2):Prop :=
 ∀(value slice:Expr) (pins:List (Addr×Obj)) (s:h8) (σ:St) (H:Hp) (x y:V) (v u:c8) (Q:VK),Inv X pins σ H s->RelV x v->RelV y u->r x y H Q ->
  subscripted slice false v u=operate [v,u] (mD v u)->wpAny (model X.prog X.w) X.A (subscriptTail value slice v u) (EP X pins σ Q) X.xe s
def TV(X:Cx)(id:String)(r:V->List V->Hp->VK->Prop):Prop :=
 ∀(pins:List (Addr×Obj)) (s:h8) (σ:St) (H:Hp) (x:V) (xs:List V) (v:c8) (us:List c8) (Q:VK),Inv X pins σ H s->RelV x v->Vals xs us->r x xs H Q ->
  wpAny (model X.prog X.w) X.A (call (.builtin id) (v::us)) (EP X pins σ Q) X.xe s
section
variable{X:Cx}{a b:Expr}{ta tb:TE}{pos:Pos}
theorem ug.or(h:ug X r)(h':ug X r'):ug X (λx y H Q=>r x y H Q\/r' x y H Q):=by
 intro value slice pins s σ H x y v u Q I rx ry q hs;rcases q with q|q
 . exact h value slice pins s σ H x y v u Q I rx ry q hs
 . exact h' value slice pins s σ H x y v u Q I rx ry q hs
theorem Ad(hr:ug X r)(ha:PE X a ta)(hb:PE X b tb)(hs:jk b):PE X (.Subscript a b pos) (nA r ta tb):=by intro pins s σ H Q I h;exact Subscript_ (RS ha hb I h λv u s2 x y H2 I2 rx ry q=>hr a b pins s2 σ H2 x y v u Q I2 rx ry q (hs _ _))
def WY(K:i5):R2:=λx y H Q=>∃p xs i v,x=.ref p/\y=.int i/\D9 K H p xs/\K7 xs i=some v/\Q v H
def WW(K:i5):R2:=λx y H Q=>∃p xs i v,x=.ref p/\y=.int i/\N6 K H p xs/\K7 xs i=some v/\Q v H
def WX:R2:=λx y H Q=>∃z i c,x=.str z/\y=.int i/\z.length<=B2/\K7 z.cps.toList i=some c/\Q (.str ⟨#[c]⟩) H
theorem VA:ug X (WY X.K):=by
 intro value slice pins s σ H x y v u Q I rx ry h hs;obtain⟨p,xs,i,z,rfl,rfl,hq,he,q⟩:=h;cases rx;obtain⟨t,rfl⟩:=ry;obtain⟨its,r,pl,hz⟩:=I.list hq;obtain⟨j,h1,h2,h3,h4,h5⟩:=yG he;obtain⟨w,ew,rw'⟩:=r.get h2;have hl:=r.length;have hn:=oG;have fin:EP X pins σ Q w s:=⟨z,H,I,rw',q⟩;by_cases h0:0<=i
 . have hj:i.toNat=j:=by rw[seqIndex_of h0 h5]at h1;exact aA h1
   exact item_listR pl.isList h0 (by lia) (by rw[hj];simpa using ew) fin hs
 . have hj:(i+(its.toArray.size:Int)).toNat=j:=by
     rw[CU (by lia) h4]at h1
     rw[L4,<-hl];exact aA h1
   exact NX (x:=w) pl.isList.typeIs slot_list_getitem.lookup
    (wpAny_getItem_list_neg (Q:=λr s'=>r=w/\EP X pins σ Q r s') pl.isList (by lia) (by rw[L4]<;>lia) (by lia) (by rw[hj];simpa using ew) ⟨rfl,fin⟩) hs
theorem Yk:ug X (WW X.K):=by
 intro value slice pins s σ H x y v u Q I rx ry h hs;obtain⟨p,xs,i,z,rfl,rfl,hq,he,q⟩:=h;cases rx;obtain⟨t,rfl⟩:=ry;obtain⟨its,r,pl,hz⟩:=I.tuple hq;obtain⟨j,h1,h2,h3,h4,h5⟩:=yG he;obtain⟨w,ew,rw'⟩:=r.get h2;have hl:=r.length;have hn:=oG;have fin:EP X pins σ Q w s:=⟨z,H,I,rw',q⟩;exact NX (x:=w) pl.typeIs slot_tuple_getitem.lookup
  (getItem_tuple (j:=j) (Q:=λr s'=>r=w/\EP X pins σ Q r s') pl (by lia) (by lia) (by rw[L4,<-hl];exact h1) (by simpa using ew) ⟨rfl,fin⟩) hs
theorem Ym:ug X WX:=by
 intro value slice pins s σ H x y v u Q I rx ry h hs;obtain⟨z,i,c,rfl,rfl,hz,he,q⟩:=h;obtain⟨t,rfl⟩:=rx;obtain⟨t',rfl⟩:=ry;obtain⟨j,h1,h2,h3,h4,h5⟩:=yG he;have hl:z.cps.toList.length=z.length:=by simp[Str.length]
 rw[hl]at h1 h4 h5;have hn:=oG;exact tail_any (typeIs_str s z t) slot_str_getitem.lookup (getItem_str (c:=c) (by
  have e1:decide (i < -(2 ^ 63:Int))=false:=fQ (by lia)
  have e2:decide (i>=2 ^ 63)=false:=fQ (by lia)
  rw[e1,e2,Dg]) (by rw[h1];simpa using h2) ⟨.str ⟨#[c]⟩,H,I.tok _,⟨_,rfl⟩,q⟩) hs
def yZ(K:i5):R2:=λx y H Q=>WY K x y H Q\/WW K x y H Q\/WX x y H Q
theorem vS:ug X (yZ X.K):=VA.or (Yk.or Ym)
theorem Iw(its:List c8)(n j:Nat)(u:c8):dB (·.setIfInBounds j u) {cls:=.type "list",data:=.seq its.toArray n}={cls:=.type "list",data:=.seq (its.set j u).toArray n}:=by simp[dB]
theorem Inv.lst{pins:List (Addr×Obj)}{σ:St}{H:Hp}{s:h8}{p:Addr}{xs:List V}(I:Inv X pins σ H s)(h:H p=some (.lst xs)):
  ∃(its:List c8) (n:Nat),Vals xs its/\s.heap.get? p=some {cls:=.type "list",data:=.seq its.toArray n}/\xs.length<=B2:=by obtain⟨z,its,n,r,e⟩:=I.A7 p _ h;exact⟨its,n,r,e,z⟩
theorem Inv.XZ{s:h8}{p:Addr}{xs ys:List V}{its its':List c8}{n:Nat}{f:Obj->Obj}(I:Inv X pins σ H s)(h:H p=some (.lst xs))(ho:s.heap.get? p=some {cls:=.type "list",data:=.seq its.toArray n})(hf:f {cls:=.type "list",data:=.seq its.toArray n}={cls:=.type "list",data:=.seq its'.toArray n'})(r:Vals ys its')(hz:ys.length<=B2)(t:Nat):
  Inv X pins σ (upd H p (.lst ys)) {s with heap:=s.heap.update p f,toks:=t}:=by
 have e:(s.heap.update p f).get? p=some {cls:=.type "list",data:=.seq its'.toArray n'}:=by rw[NQ f ho (by rw[hf]<;>rfl),hf]
 refine I.write (x:=p) (e:=p) (by rw[h];trivial) (.inl rfl) (λb u hb q=>(NW _ _ (ie hb)).trans q) ⟨_,e⟩ ?_
 exact⟨hz,its',n',r,e⟩
def HH:V->V->V->Hp->(Hp->Prop)->Prop:=λo i v H Q=>∃p xs k j,o=.ref p/\i=.int k/\H p=some (.lst xs)/\eO xs.length k=some j/\Q (upd H p (.lst (xs.set j v)))
theorem set_list:YN X HH:=by
 intro pins s σ H o i v ov iv u Q I ro ri rv h;obtain⟨p,xs,k,j,rfl,rfl,hp,hj,q⟩:=h;cases ro;obtain⟨t,rfl⟩:=ri;obtain⟨its,n,r,ho,hz⟩:=I.lst hp;obtain⟨h1,h2,h3,h4⟩:=GC hj;have hl:=r.length;have hn:=oG;have I':Inv X pins σ (upd H p (.lst (xs.set j v))) {s with heap:=s.heap.update p (dB (·.setIfInBounds j u))} :=
  I.XZ hp ho (Iw its n j u) (r.set rv j) (by rw[mQ];exact hz) s.toks
 by_cases h0:0<=k
 . have hk:k.toNat=j:=by rw[seqIndex_of h0 h4]at h1;exact aA h1
   exact PySem.W.ki_setAt ho h0 (by lia) (by rw[L4,<-hl];exact h4) (by rw[hk];exact⟨_,I',q⟩)
 . have hk:(k+(its.toArray.size:Int)).toNat=j:=by
     rw[CU (by lia) h3]at h1
     rw[L4,<-hl];exact aA h1
   exact PySem.W.ki_setBack ho (by lia) (by rw[L4,<-hl];exact h3) (by lia) (by rw[hk];exact⟨_,I',q⟩)
theorem AG(lo hi:Option Int)(n:Nat):(mJ lo hi none n).1=((HT.E4 n 0 lo:Nat):Int)/\(mJ lo hi none n).2.1=((HT.E4 n n hi:Nat):Int)/\(mJ lo hi none n).2.2=1:=by
 refine⟨?_,?_,rfl⟩
 . cases lo with
   |none=>simp[mJ,HT.E4]
   |some i =>
    simp only[mJ,HT.E4,Nd,show(1:Int)>0 by decide,w9]
    by_cases h:i<0
    . simp only[h,w9]<;>lia
    . simp only[h,N9]<;>lia
 . cases hi with
   |none=>simp[mJ,HT.E4]
   |some i =>
    simp only[mJ,HT.E4,Nd,show(1:Int)>0 by decide,w9]
    by_cases h:i<0
    . simp only[h,w9]<;>lia
    . simp only[h,N9]<;>lia
theorem zR(its:List c8)(lo hi:Option Int):slicePick its.toArray lo hi none=((its.drop (HT.E4 its.length 0 lo)).take (HT.E4 its.length its.length hi-HT.E4 its.length 0 lo)).toArray:=by obtain⟨h1,h2,h3⟩:=AG lo hi its.toArray.size;delta slicePick;rw[h1,h2,h3];simp only[sliceRange_one,pick_run,L4]<;>rfl
def WR(K:i5):V->Option Int->Option Int->Hp->VK->Prop:=λx lo hi H Q=>∃a xs,x=.ref a/\D9 K H a xs/\∀p,H p=none->Q (.ref p) (upd H p (.lst (my xs lo hi)))
theorem Uo:ue X (WR X.K):=by
 intro pins s σ H x v vl vu lo hi sl Q I rx hs pl pu h;obtain⟨a,xs,rfl,hx,q⟩:=h;cases rx;obtain⟨its,r,ht,hz⟩:=I.list hx;have hlen:=r.length;refine⟨"list",_,slot_list_getitem.lookup,ht.isList.typeIs,?_⟩;refine wpAny_getItem_list_slice ht.isList hs pl pu .none (by simp) ?_ (by rw[L4]<;>lia)
 rw[zR,<-hlen];refine⟨.ref s.heap.objs.size,_,I.laid (t':=s.toks) (o:=.lst (my xs lo hi)) (λb ob q=>E5 _ q) (l5 _) ?_,rfl,q _ (I.A7.fresh (l5 _))⟩
 exact⟨P4 (ud xs lo hi) hz,_,0,(r.drop (HT.E4 xs.length 0 lo)).take (HT.E4 xs.length xs.length hi-HT.E4 xs.length 0 lo),S7 _ rfl⟩
def bw:V->Bool
 | .non=>true
 | .bl _=>true
 | .int _=>true
 | .str _=>true
 |_=>false
def wu:V->V->Bool
 | .non,.non=>true
 | .bl a,.bl b=>a==b
 | .bl a,.int b=>(if a then 1 else 0)==b
 | .int a,.bl b=>a==(if b then 1 else 0)
 | .int a,.int b=>a==b
 | .str a,.str b=>a==b
 |_,_=>false
theorem YC{A:A2}{s:h8}{x:V}(ry:RelV y u)(rx:RelV x v)(fy:bw y=true)(fx:bw x=true):CL A s u v (wu y x):=by
 cases y with
 |non =>
  cases ry;cases x with
  |non=>cases rx;exact SeqAt.EqAt.same _
  |bl b=>cases rx;exact SeqAt.EqAt.none_bool b
  |int b=>obtain⟨t,rfl⟩:=rx;exact SeqAt.EqAt.none_int b t
  |str b=>obtain⟨t,rfl⟩:=rx;exact SeqAt.EqAt.none_str b t
  |_=>exact absurd (show false=true from fx) Q9
 |bl a =>
  cases ry;cases x with
  |non=>cases rx;exact SeqAt.EqAt.bool_none a
  |bl b=>cases rx;exact SeqAt.EqAt.bool_bool a b
  |int b=>obtain⟨t,rfl⟩:=rx;exact SeqAt.EqAt.bool_int a b t
  |str b=>obtain⟨t,rfl⟩:=rx;exact SeqAt.EqAt.bool_str a b t
  |_=>exact absurd (show false=true from fx) Q9
 |int a =>
  obtain⟨t',rfl⟩:=ry;cases x with
  |non=>cases rx;exact SeqAt.EqAt.int_none a t'
  |bl b=>cases rx;exact SeqAt.EqAt.int_bool a t' b
  |int b=>obtain⟨t,rfl⟩:=rx;exact Nz a t' b t
  |str b=>obtain⟨t,rfl⟩:=rx;exact NB a t' b t
  |_=>exact absurd (show false=true from fx) Q9
 |str a =>
  obtain⟨t',rfl⟩:=ry;cases x with
  |non=>cases rx;exact SeqAt.EqAt.str_none a t'
  |bl b=>cases rx;exact SeqAt.EqAt.str_bool a t' b
  |int b=>obtain⟨t,rfl⟩:=rx;exact NA a t' b t
  |str b=>obtain⟨t,rfl⟩:=rx;exact SeqAt.EqAt.str_str a t' b t
  |_=>exact absurd (show false=true from fx) Q9
 |_=>exact absurd (show false=true from fy) Q9
def mf(x:V)(u:c8):Bool:=match u with
 | .none=>wu .non x
 | .bool b=>wu (.bl b) x
 | .int i _=>wu (.int i) x
 | .str z _=>wu (.str z) x
 |_=>false
theorem Me{x:V}(r:RelV y u)(f:bw y=true):mf x u=wu y x:=by
 cases y with
 |non=>cases r;rfl
 |bl b=>cases r;rfl
 |int i=>obtain⟨t,rfl⟩:=r;rfl
 |str z=>obtain⟨t,rfl⟩:=r;rfl
 |_=>exact absurd (show false=true from f) Q9
theorem oR{x:V}:∀{xs:List V} {us:List c8},Vals xs us->xs.all bw=true->us.any (mf x)=xs.any λy=>wu y x
 |_,_,.nil,_=>rfl
 |y::xs,u::us,.cons r t,f=>by rw[fK,ek]at f;rw[rZ,rZ,Me r f.1,oR t f.2]
theorem lX{A:A2}{s:h8}{x:V}{v:c8}(rx:RelV x v)(fx:bw x=true):∀{xs:List V} {us:List c8},Vals xs us->xs.all bw=true->∀u∈us,CL A s u v (mf x u)
 |_,_,.nil,_=>λu hu=>by cases hu
 |y::xs,u::us,.cons r t,f=>λu' hu=>by
  rw[fK,ek]at f;rcases List.mem_cons.mp hu with rfl|hu
  . rw[Me r f.1];exact YC r rx f.1 fx
  . exact lX rx fx t f.2 u' hu
def vU(x:V)(xs:List V):Bool:=xs.any λy=>wu y x
def FN(K:i5)(neg:Bool):R2:=λx y H Q=>∃p xs,y=.ref p/\(D9 K H p xs\/N6 K H p xs)/\bw x=true/\xs.all bw=true/\Q (.bl (if neg then !vU x xs else vU x xs)) H
theorem KL:R8 X (V5 .In) (FN X.K false):=by
 intro pins s σ H x y v u Q I rx ry h;obtain⟨p,xs,rfl,hq,fx,fs,q⟩:=h;cases ry;rcases hq with hq|hq
 . obtain⟨its,r,pl,hz⟩:=I.list hq;refine SeqAt.in_listAt (mf x) pl.isList (λw hw=>lX rx fx r fs w (by simpa using hw)) ⟨.bl _,H,I,rfl,?_⟩
   rw[show its.toArray.any (mf x)=its.any (mf x) by simp,oR r fs]
   exact q
 . obtain⟨its,r,pl,hz⟩:=I.tuple hq;refine SeqAt.in_tupleAt (mf x) pl (λw hw=>lX rx fx r fs w (by simpa using hw)) ⟨.bl _,H,I,rfl,?_⟩
   rw[show its.toArray.any (mf x)=its.any (mf x) by simp,oR r fs]
   exact q
theorem Bl:R8 X (V5 .NotIn) (FN X.K true):=by
 intro pins s σ H x y v u Q I rx ry h;obtain⟨p,xs,rfl,hq,fx,fs,q⟩:=h;cases ry;rcases hq with hq|hq
 . obtain⟨its,r,pl,hz⟩:=I.list hq;refine SeqAt.notIn_listAt (mf x) pl.isList (λw hw=>lX rx fx r fs w (by simpa using hw)) ⟨.bl _,H,I,rfl,?_⟩
   rw[show its.toArray.any (mf x)=its.any (mf x) by simp,oR r fs]
   exact q
 . obtain⟨its,r,pl,hz⟩:=I.tuple hq;refine SeqAt.notIn_tupleAt (mf x) pl (λw hw=>lX rx fx r fs w (by simpa using hw)) ⟨.bl _,H,I,rfl,?_⟩
   rw[show its.toArray.any (mf x)=its.any (mf x) by simp,oR r fs]
   exact q
theorem Cy:T9 X (.builtin "len") (λxs H Q=>∃p ys,xs=[.ref p]/\(D9 X.K H p ys\/N6 X.K H p ys)/\Q (.int ys.length) H):=by
 intro pins s σ H xs us Q I r h;obtain⟨p,ys,rfl,hq,q⟩:=h;obtain⟨u,rfl,rx⟩:=vals1 r;cases rx;have hn:=oG;rcases hq with hq|hq
 . obtain⟨its,r',pl,hz⟩:=I.list hq;have hlen:=r'.length;exact Calls.call_len_list pl.isList (by simp only[L4]<;>lia) ⟨.int ys.length,H,I.tok _,⟨s.toks+1,by rw[L4,hlen]⟩,q⟩
 . obtain⟨its,r',pl,hz⟩:=I.tuple hq;have hlen:=r'.length;exact len_tuple pl (by simp only[L4]<;>lia) ⟨.int ys.length,H,I.tok _,⟨s.toks+1,by rw[L4,hlen]⟩,q⟩
theorem Cw:T9 X (.builtin "len") (λxs H Q=>∃z,xs=[.str z]/\z.length<=B2/\Q (.int z.length) H):=by intro pins s σ H xs us Q I r h;obtain⟨z,rfl,hz,q⟩:=h;obtain⟨u,rfl,t,rfl⟩:=vals1 r;have hn:=oG;exact len_str (by lia) ⟨.int z.length,H,I.tok _,⟨_,rfl⟩,q⟩
theorem T9.or{f:c8}{r r':List V->Hp->VK->Prop}(h:T9 X f r)(h':T9 X f r'):T9 X f (λxs H Q=>r xs H Q\/r' xs H Q):=by
 intro pins s σ H xs us Q I rs q;rcases q with q|q
 . exact h pins s σ H xs us Q I rs q
 . exact h' pins s σ H xs us Q I rs q
theorem Cu:T9 X (.type "list") (λxs H Q=>∃p ys,xs=[.ref p]/\(D9 X.K H p ys\/N6 X.K H p ys)/\∀l,H l=none->Q (.ref l) (upd H l (.lst ys))):=by
 intro pins s σ H xs us Q I r h;obtain⟨p,ys,rfl,hq,q⟩:=h;obtain⟨u,rfl,rx⟩:=vals1 r;cases rx;have fin:∀(its:List c8),Vals ys its->ys.length<=B2->∀(h':Heap) (c':Nat),(∀b o',s.heap.get? b=some o'->h'.get? b=some o') ->
   h'.get? s.heap.objs.size=some {cls:=.type "list",dict:=none,data:=.seq its.toArray c',slots:=#[]}->EP X pins σ Q (.ref s.heap.objs.size) {s with heap:=h'}:=λits r' hz h' c' kp e =>
  ⟨.ref s.heap.objs.size,_,I.laid (t':=s.toks) kp (l5 _) (show V3 X.prog X.w _ h' _ (.lst ys)from⟨hz,its,c',r',e⟩),rfl,q _ (I.A7.fresh (l5 _))⟩
 rcases hq with hq|hq
 . obtain⟨its,r',pl,hz⟩:=I.list hq;have hlen:=r'.length;obtain⟨o,ho,hc,n,hd⟩:=pl.isList;exact call_list_seq p (.inl rfl) ho hc hd (λh' c' kp e=>fin its r' hz h' c' kp e) (by simp only[L4]<;>lia)
 . obtain⟨its,r',pl,hz⟩:=I.tuple hq;have hlen:=r'.length;obtain⟨o,ho,hc,n,hd⟩:=pl;exact call_list_seq p (.inr rfl) ho hc hd (λh' c' kp e=>fin its r' hz h' c' kp e) (by simp only[L4]<;>lia)
theorem zZ:T9 X (.type "tuple") (λxs H Q=>∃p ys,xs=[.ref p]/\((D9 X.K H p ys/\∀l,H l=none->Q (.ref l) (upd H l (.tup ys)))\/(N6 X.K H p ys/\Q (.ref p) H))):=by
 intro pins s σ H xs us Q I r h;obtain⟨p,ys,rfl,h⟩:=h;obtain⟨u,rfl,rx⟩:=vals1 r;cases rx;rcases h with ⟨hq,q⟩|⟨hq,q⟩
 . obtain⟨its,r',pl,hz⟩:=I.list hq;have hlen:=r'.length;refine call_tuple_list pl.isList (λh' kp=>?_) (by simp only[L4]<;>lia)
   have I1:Inv X pins σ H {s with heap:=h'}:=I.kept (t':=s.toks) kp
   have I2:Inv X pins σ (upd H h'.objs.size (.tup ys)) {s with heap:=h'.push {cls:=.type "tuple",data:=.seq its.toArray}} :=
    I1.laid (t':=s.toks) (λb o e=>E5 _ e) (l5 _) (show V3 X.prog X.w _ _ _ (.tup ys)from⟨hz,its,r',CH _ _⟩)
   exact⟨.ref h'.objs.size,_,I2,rfl,q _ (I1.A7.fresh (l5 _))⟩
 . obtain⟨its,r',pl,hz⟩:=I.tuple hq;exact call_tuple_same pl ⟨.ref p,H,I,rfl,q⟩
def Si(K:i5)(T:String)(x:V)(H:Hp):Prop:=match x with
 | .str _=>T = "str"
 | .int _=>T = "int"
 | .ref p=>(T = "list"/\∃xs,D9 K H p xs)\/(T = "tuple"/\∃o,K.lookup p=some o/\o.cls=.type "tuple"/\o.dict=none) \/
   (T = "dict"/\((∃kvs,H p=some (.dK kvs))\/∃kvs,H p=some (.dT kvs)))\/(T = "set"/\∃S n,H p=some (.set S n))
 |_=>False
theorem JE{s:h8}{T:String}{x:V}(I:Inv X pins σ H s)(r:RelV x v)(ty:Si X.K T x H):
  s.TypeIs v T/\∀a,v=.ref a->∃ob,s.heap.get? a=some ob/\ob.dict=none:=by
 cases x with
 |str z =>
  obtain⟨t,rfl⟩:=r;cases(show T = "str" from ty)
  exact⟨typeIs_str s z t,λ_ e=>nomatch e⟩
 |int i =>
  obtain⟨t,rfl⟩:=r;cases(show T = "int" from ty)
  exact⟨typeIs_int s i t,λ_ e=>nomatch e⟩
 |ref p =>
  cases r;rcases ty with ⟨rfl,xs,hq⟩|⟨rfl,o,hk,hc,hd⟩|⟨rfl,hk⟩|⟨rfl,S,n,hk⟩
  . obtain⟨its,_,pl,_⟩:=I.list hq;refine⟨pl.isList.typeIs,λa e=>?_⟩
    cases e;obtain⟨o,n,e,c,hd,_⟩:=pl;exact⟨o,e,hd⟩
  . refine⟨⟨o,I.fB p o hk,hc⟩,λa e=>?_⟩
    cases e;exact⟨o,I.fB _ o hk,hd⟩
  . have z:∃o,s.heap.get? p=some o/\o.ExactDict:=by
      rcases hk with ⟨kvs,hk⟩|⟨kvs,hk⟩
      . obtain⟨_,_,_,_,o,_,_,e,ex,_⟩:=I.A7 p _ hk;exact⟨o,e,ex⟩
      . obtain⟨_,_,_,_,o,_,_,e,ex,_⟩:=I.A7 p _ hk;exact⟨o,e,ex⟩
    obtain⟨o,e,ex⟩:=z;refine⟨⟨o,e,ex.1⟩,λa e2=>?_⟩
    cases e2;exact⟨o,e,ex.2.1⟩
  . obtain⟨o,_,_,_,e,ex,_⟩:=I.A7 p _ hk;refine⟨⟨o,e,ex.1⟩,λa e2=>?_⟩
    cases e2;exact⟨o,e,ex.2.1⟩
 |_=>exact bM ty
def OU(K:i5)(T:String)(r:V->List V->Hp->VK->Prop)(to:TE):TE:=λσ H Q=>to σ H λx H1=>Si K T x H1/\r x [] H1 Q
def Fq(K:i5)(T:String)(r:V->List V->Hp->VK->Prop)(to:TE)(t:TA):TE:=λσ H Q=>to σ H λx H1=>Si K T x H1/\t σ H1 λxs H2=>r x xs H2 Q
variable{o e:Expr}{es:List Expr}{to:TE}{t:TA}{name:Str}{apos cpos:Pos}{T id:String}{r:V->List V->Hp->VK->Prop}
theorem KC(pa:PlainAttrs T)(slot:Slot T name id)(hty:typeOf (.builtin id)=pure (.type "method_descriptor"))(hm:TV X id r)(ho:PE X o to)(hbase:V8 o name X.env (eval o X.env)=eval o X.env:=by rfl)(hline:(apos.endLine==cpos.line)=true:=by rfl):PE X (.Call (.Attribute o name apos) [] [] cpos) (OU X.K T r to):=by
 intro pins s σ H Q I h;refine wpAny_Call_method0_late hbase hline (C4 (ho pins s σ H _ I h) λv s1 ⟨x,H1,I1,r1,ty,q1⟩=>?_)
 obtain⟨h1,h2⟩:=JE I1 r1 ty;exact⟨T,id,pa,slot,hty,h1,h2,NV rfl (PySem.evalArgs_none (hm pins s1 σ H1 x [] v [] Q I1 r1 .nil q1))⟩
theorem Ae (pa:PlainAttrs T) (slot:Slot T name id) (hty:typeOf (.builtin id)=pure (.type "method_descriptor")) (hm:TV X id r) (ho:PE X o to) (ha:PA X (e::es) t) (hbase:V8 o name X.env (eval o X.env)=eval o X.env:=by rfl) (hfew:((A9 cpos (j4 (e::es) X.env)).all (λx=>!x.1)&&(aw cpos (cq [] X.env)).all (λx=>x.1.isSome)
   && decide ((e::es).length+([]:List W8).length+(if ([]:List W8).isEmpty then 0 else 1)<30))=true:=by rfl)
  (hline:(apos.endLine==cpos.line)=true:=by rfl) (hs:j4 (e::es) X.env=(false,eval e X.env)::j4 es X.env:=by rfl) (hplain:(A9 cpos (j4 es X.env)).any (·.1)=false:=by rfl) :
  PE X (.Call (.Attribute o name apos) (e::es) [] cpos) (Fq X.K T r to t):=by
 intro pins s σ H Q I h;refine wpAny_Call_method_late hbase hfew hline rfl (C4 (ho pins s σ H _ I h) λv s1 ⟨x,H1,I1,r1,ty,q1⟩=>?_)
 obtain⟨h1,h2⟩:=JE I1 r1 ty;refine⟨T,id,pa,slot,hty,h1,h2,?_⟩;have hA:=ha cpos pins s1 σ H1 _ I1 q1;rw[hs]at hA ⊢;refine NV (by show(false||(A9 cpos (j4 es X.env)).any (·.1))=false;rw[hplain]<;>rfl) (Calls.evalArgs_plain ?_)
 exact C4 hA λus s2 ⟨vs,H2,I2,r2,q2⟩=>hm pins s2 σ H2 x vs v us Q I2 r1 r2 q2
/- xs.append(e),list.index on a module's tuple .. are TV facts of 06m -/
end
end
section
variable{its its':List c8}{t':Nat}
def YO(X:Cx)(id:String)(r:V->List V->Hp->VK->Prop):Prop :=
 ∀(pins:List (Addr×Obj)) (s:h8) (σ:St) (H:Hp) (x:V) (xs:List V) (v:c8) (us:List c8) (Q:VK),Inv X pins σ H s->RelV x v->Vals xs us->r x xs H Q ->
  wpAny (model X.prog X.w) X.A (call (.builtin id) (v::us)) (EP X pins σ Q) X.xe s
theorem Vals.one:∀{x:V} {us:List c8},Vals [x] us->∃u,us=[u]/\RelV x u
 |_,_,.cons r .nil=>⟨_,rfl,r⟩
theorem Vals.zero:∀{us:List c8},Vals [] us->us=[]
 |_,.nil=>rfl
section
variable{X:Cx}{pins:List (Addr×Obj)}{σ:St}{H:Hp}{s:h8}{l b:Addr}{xs ys zs:List V}
theorem Inv.QO{n:Nat}{f:Array c8->Array c8}(I:Inv X pins σ H s)(hH:H l=some (.lst xs))(e:s.heap.get? l=some {cls:=.type "list",data:=.seq its.toArray n})(hf:f its.toArray=its'.toArray)(hv:Vals ys its')(hz:ys.length<=B2):
  Inv X pins σ (upd H l (.lst ys)) {s with heap:=s.heap.update l (dB f),toks:=t'}:=by
 have q:=PySem.IsL.update e f;rw[hf]at q;refine I.write (x:=l) (e:=l) (by rw[hH];exact trivial) (.inl rfl) (λb' u hb hu=>(NW s.heap (dB f) (ie hb)).trans hu) ⟨_,q⟩ ?_
 exact⟨hz,its',_,hv,q⟩
theorem Inv.Ya(I:Inv X pins σ H s)(hv:Vals ys its)(hz:ys.length<=B2):
  Inv X pins σ (upd H s.heap.objs.size (.lst ys)) {s with heap:=s.heap.push {cls:=.type "list",data:=.seq its.toArray},toks:=t'} :=
 I.laid (λ_ _ q=>E5 _ q) (l5 _) ⟨hz,its,0,hv,S7 _ rfl⟩
theorem Inv.fresh(I:Inv X pins σ H s):H s.heap.objs.size=none:=I.A7.fresh (l5 _)
theorem Inv.IB(I:Inv X pins σ H s)(hH:H l=some (.lst xs)):xs.length<=B2/\∃(its:List c8) (n:Nat),Vals xs its/\xs.length=its.length/\s.heap.get? l=some {cls:=.type "list",data:=.seq its.toArray n}:=by obtain⟨z,its,n,r,e⟩:=I.A7 l _ hH;exact⟨z,its,n,r,r.length,e⟩
theorem QB{n:Nat}(h:n<=B2):xF n=false:=by delta xF;exact fQ (by lia)
end
section
variable{X:Cx}
def xY:V->List V->Hp->VK->Prop:=λx vs H Q=>∃l xs y,x=.ref l/\vs=[y]/\H l=some (.lst xs)/\xs.length<B2/\Q .non (upd H l (.lst (xs++[y])))
theorem ze:YO X "list.append" xY:=by
 intro pins s σ H x vs v us Q I rx rv h;obtain⟨l,xs,y,rfl,rfl,hH,hz,q⟩:=h;cases rx;obtain⟨u,rfl,ru⟩:=rv.one;obtain⟨z,its,n,r,hl,e⟩:=I.IB hH;refine oY F.slot_list_append ⟨_,e,rfl⟩ F.entry_list_append (F.args_list_append_2 _ _) (PySem.list_append l its.toArray n u (by rw[L4];lia)) ⟨e,?_⟩
 refine⟨.non,_,I.QO (its':=its++[u]) hH e (by simp) (r.append (.cons ru .nil)) ?_,rfl,q⟩
 rw[hW,DZ]
 lia
def FP:V->List V->Hp->VK->Prop:=λx vs H Q=>∃l b xs zs,x=.ref l/\vs=[.ref b]/\H l=some (.lst xs)/\H b=some (.lst zs)/\xs.length+zs.length<=B2/\Q .non (upd H l (.lst (xs++zs)))
theorem Ln:YO X "list.extend" FP:=by
 intro pins s σ H x vs v us Q I rx rv h;obtain⟨l,b,xs,zs,rfl,rfl,hH,hB,hz,q⟩:=h;cases rx;obtain⟨u,rfl,ru⟩:=rv.one;cases ru;obtain⟨z,its,n,r,hl,e⟩:=I.IB hH;obtain⟨z2,its2,n2,r2,hl2,e2⟩:=I.IB hB;have hsz:its.toArray.size+its2.toArray.size<=B2:=by rw[L4,L4];lia
 have hlong:¬(!its.toArray.isEmpty&&xF (its.toArray.size+its2.toArray.size))=true:=by rw[QB hsz,Dp];exact Q9
 refine oY F.slot_list_extend ⟨_,e,rfl⟩ F.entry_list_extend (F.args_list_extend_2 _ _)
  (AutoSeq1.list_extend_list_list_0 l its.toArray n b its2.toArray n2 hlong (by rw[L4];lia) (by lia)) ⟨e,e2,?_⟩
 refine⟨.non,_,I.QO (its':=its++its2) hH e (by simp) (r.append r2) ?_,rfl,q⟩
 rw[hW]
 lia
def vA:V->List V->Hp->VK->Prop:=λx vs H Q=>∃l xs,x=.ref l/\vs=[]/\H l=some (.lst xs)/\Q .non (upd H l (.lst []))
theorem Bx:YO X "list.clear" vA:=by
 intro pins s σ H x vs v us Q I rx rv h;obtain⟨l,xs,rfl,rfl,hH,q⟩:=h;cases rx;have hus:=rv.zero;subst hus;obtain⟨z,its,n,r,hl,e⟩:=I.IB hH;refine oY F.slot_list_clear ⟨_,e,rfl⟩ F.entry_list_clear (F.args_list_clear_1 _) (AutoSeq1.list_clear_list_0 l its.toArray n (by rw[L4];lia)) ⟨e,?_⟩
 exact⟨.non,_,I.QO (its':=[]) (ys:=[]) hH e rfl .nil (bN _),rfl,q⟩
end
section
variable{prog:B1}{w:t9}{A:A2}{E:c8->h8->Prop}{s:h8}
end
section
variable{X:Cx}
end
end
end L2
namespace Att
open PySem PySem.W PySem.Calls PyProof.Rows
theorem vT{P:Params}{h:Heap}:∀(ns:List Int) (vs:List c8),WellAll P h vs (ns.map WData.int)->S8 vs ns:=by
 intro ns;induction ns with
 |nil =>
  intro vs w;rw[P2]at w;cases w;exact .nil
 |cons n ns ih =>
  intro vs w;rw[o5]at w;cases w with
  |cons a b =>
   cases a;exact .cons _ _ (ih _ b)
theorem JW{l:OpenLaw}{n:Nat}(hn:l.most=some n){P:Params}{h:Heap}{args:List WData}{vals:List c8}(hpre:l.row.toRowW.claim.pre args=true)(hwl:WellAll P h vals args):
  ∃a vs ns,vals=[aL a]/\args=[WData.list (ns.map WData.int)]/\h.get? a=some {cls:=.type "list",data:=.seq vs.toArray}/\S8 vs ns/\ns.length<=n:=by
 have hsh:WShape.hasAll [] args [.list .int]=true:=(pre_splitW hpre).1;have hc:l.pre.holds [] {args:=args}=true:=(pre_splitW hpre).2;obtain⟨d,r,rfl,h1,h2⟩:=hasAllW_cons hsh;obtain rfl:=hasAllW_nil h2;obtain⟨xs,rfl,h3⟩:=hasW_list h1;obtain⟨ns,rfl⟩:=items_int h3;have hlen:ns.length<=n:=by
  unfold OpenLaw.pre at hc;have h4:(WTm.not (.lt (.lit (.int (n:Int))) (.len (.arg 0)))).holds [] {args:=[.list (ns.map .int)]}=true:=by have h4:=(holds_andW hc).1;rw[hn]at h4;exact h4
  have h5:=condW_of h4 (w_not (w_lt w_lit (w_len_list (w_arg rfl))));rw[F9]at h5;refine Nc λq=>?_
  have q':(n:Int)<((ns.length:Nat):Int):=by lia
  first
   |(rw[decide_eq_true q']at h5;exact absurd h5 (by decide))
   |(simp at h5;lia)
 cases hwl with
 |cons w1 w2 =>
  cases w2;cases w1 with
  |list ho hall=>exact⟨_,_,ns,rfl,rfl,ho,vT ns _ hall,hlen⟩
theorem Kr(l:OpenLaw)(args:List WData):l.row.toRowW.claim.post args (.bool true) args=true :=
 postW_of (r:=l.row.toRowW) (X:=(true==true))
  (show WShape.has [] (.bool true) .bool=true by first|rfl|decide|simp[WShape.has,WShape.arms,WShape.armsAll])
  (show(WTm.eq .res (.lit (.bool true))).value [] {args:=args,res:=some (.bool true),after:=args}=some (.bool (true==true))from w_eq_bool (w_res rfl) w_lit) rfl
theorem ET {l:OpenLaw} {n:Nat} {q:B1} {loose:List Str} {XP:(Str->Option c8)->Heap->Prop} {YP:t9->Heap->Prop} {d:DefRec} (hn:l.most=some n) (hdf:d.params.defaults=[]) (call:∀(w:t9) (O5 s₁:h8) (mg mb:Str->Option c8) (fa:Addr) (o:Obj) (pm cd doc:c8) (a:Addr) (vs:List c8) (ns:List Int),
   Ground q loose [] XP w O5 mg mb s₁.heap->YP w s₁.heap ->
   s₁.heap.get? fa=some o->o.data=.func (docDef d.name d.params d.body d.scope pm cd doc)->s₁.heap.CodeRec cd d.name->mg d.name=some (.ref fa) ->
   s₁.heap.get? a=some {cls:=.type "list",data:=.seq vs.toArray}->S8 vs ns->ns.length<=n->s₁.gens = #[] ->
   codeAny (model l.prog w) jX (.call (.ref fa) ⟨[.ref a],[]⟩) (λr s'=>r=.ok (.ret (.bool true))/\OldK s₁.heap s'.heap/\s'.os=s₁.os/\ig s'.gens) s₁) :
  WalkO q loose XP YP l.row.toRowW d [] (λf vs=>CK f vs):=by
 intro w O5 s₁ mg mb G Y fa o pm cd doc dV kV ho hd hcd hD hmg hg args vals as hpre hlay hrd hwl hlo;obtain rfl:dV=.none:=Dflts.none hD hdf;obtain rfl:kV=.none:=Dflts.noKw hD;obtain⟨a,vs,ns,rfl,rfl,hobj,hints,hlen⟩:=JW hn hpre hwl;refine enter_call (wU (call w O5 s₁ mg mb fa o pm cd doc a vs ns G Y ho (fd_plain hd) hcd hmg hobj hints hlen hg) λr s' hq=>?_)
 obtain⟨rfl,h2,h3,h4⟩:=hq;exact⟨.inl ⟨.bool true,.bool true,[],rfl,λ_=>rfl,.bool true,Kr l _,λ_=>⟨List.Pairwise.nil,λ_ hm=>(nomatch hm)⟩⟩,h2,h3,h4⟩
section
variable{prog:B1}{w:t9}{A:A2}{E:c8->h8->Prop}{s:h8}{K:Frag}
end
end Att
namespace L2
open PySem PySem.Spec PyProof.Rows
theorem yL:∀{vs:List c8} {ns:List Int},S8 vs ns->Vals (ns.map V.int) vs
 |_,_,.nil=>.nil
 |_,_,.cons n t h=>.cons ⟨t,rfl⟩ (yL h)
def RW(H:Hp):Prop:=∀b,H b=none\/∃o xs,H b=some (.U0 o (.lst xs))
theorem QS{P:B1}{w:t9}{K:i5}{mg mb:Str->Option c8}{CX:nV}{k:Nat}{fa a:Addr}{fd:O0}{x:Str}{sp:Sp}{s₁:h8}{vs:List c8}{ns:List Int}(KX:K.In s₁.heap)(hns:s₁.heap.Ns T8 mg)(hb:s₁.heap.Ns builtinsNs mb)(hbb:∀x:Str,x ≠ "__name__"->mb x=ej x)(hlim:s₁.heap.NoLimit)(hg:s₁.gens = #[])(ha:s₁.heap.get? a=some {cls:=.type "list",data:=.seq vs.toArray})(hi:S8 vs ns)(hl:ns.length<=B2)(hr:J2 k jX)(F:∀base:Heap,K.In base->base.Ns T8 mg->Z5 P w K mg base CX k fa fd [x] sp)(hbind:∀(s:h8) (u:c8),mE s fd ⟨[u],[]⟩ [(x,u)])(hsp:∀H:Hp,RW H->D9 K H a (ns.map V.int)->sp [.ref a] H (λv _=>v=.bl true) λ_ _ _=>False)(hCX:∀H e s',CX [] H s₁ (λ_ _ _=>False) e s'->False):
  codeAny (model P w) jX (.call (.ref fa) ⟨[.ref a],[]⟩) (λr s'=>r=.ok (.ret (.bool true))/\OldK s₁.heap s'.heap/\s'.os=s₁.os/\ig s'.gens) s₁:=by
 have rv:=yL hi;have lenV:=hi.length;have core:∀H:Hp,RW H->D9 K H a (ns.map V.int)->bV P w H s₁.heap->(∀b,H b≠none->b=a)->(H a≠none->K.lookup a=none) ->
   codeAny (model P w) jX (.call (.ref fa) ⟨[.ref a],[]⟩) (λr s'=>r=.ok (.ret (.bool true))/\OldK s₁.heap s'.heap/\s'.os=s₁.os/\ig s'.gens) s₁:=by
  intro H hO hS A7 hA hK;have base_of:∀{b:Addr} {o:Obj},s₁.heap.get? b=some o->H b=none->(qj s₁.heap H).get? b=some o:=λe n=>Ra e n
  have noA:∀{b:Addr} {o:Obj} {es:Array DictEntry} {ep:Nat},s₁.heap.get? b=some o->o.data=.dict es ep->H b=none:=λ{b o es ep} e d=>by
   cases q:H b with
   |none=>rfl
   |some u =>
    have e':b=a:=hA b (by rw[q];simp)
    subst e';rw[ha]at e;cases e;have d':Data.seq vs.toArray _=Data.dict es ep:=d;cases d'
  have nsK:∀{b:Addr} {m:Str->Option c8},s₁.heap.Ns b m->(qj s₁.heap H).Ns b m:=λ{b m} ⟨o,es,ep,e,d,r⟩=>⟨o,es,ep,base_of e (noA e d),d,r⟩
  have hKb:K.In (qj s₁.heap H):=λb o e=>base_of (KX b o e) (by
   cases q:H b with
   |none=>rfl
   |some u =>
    have e':b=a:=hA b (by rw[q];simp)
    subst e';rw[hK (by rw[q];simp)]at e;cases e)
  have hM:Mod K mg (qj s₁.heap H):=⟨hKb,nsK hns,⟨mb,nsK hb,hbb⟩,let ⟨mc,h1,h2⟩:=hlim;⟨mc,nsK h1,h2⟩⟩;have e0:vf P w K mg (qj s₁.heap H) jX [] s₁ H:=⟨rfl,hM,λb o e=>Vw e,wV (LN _ _),trivial,λb hb=>absurd (show b∈([]:List Addr)from hb) (by simp),A7,.of_eq hg⟩
  refine wU ((F _ hKb (nsK hns)).run jX [] s₁ H ⟨[.ref a],[]⟩ [.ref a] [.ref a] _ _ hr e0 (hbind s₁ (.ref a)) (.cons rfl .nil) (hsp H hO hS)) λr s' h=>?_
  cases r with
  |error e=>exact(hCX H e s' h).elim
  |ok fl =>
   cases fl with
   |next=>exact bM h
   |brk=>exact bM h
   |cont=>exact bM h
   |ret u =>
    obtain⟨v,H',os,bare,un,hok',r',q⟩:=h;have q':v=.bl true:=q;subst q';obtain rfl:u=mG true:=r';refine⟨rfl,OldK.of_keep λb o e=>?_,os,bare⟩
    cases q:H b with
    |none=>exact un.keep b o e q (by intro z;exact absurd (show b∈([]:List Addr)from z) (by simp)) (by simp)
    |some u =>
     rcases hO b with z|⟨ob,xs,z⟩
     . rw[q]at z;cases z
     . have z2:=un.ql b ob _ z;obtain⟨e1,_⟩:=A7 b _ z;obtain⟨e2,_⟩:=hok' b _ z2;rw[e]at e1;cases e1;exact e2
 cases hk:K.lookup a with
 |some o =>
  have e:=KX a o hk;rw[ha]at e;cases e;refine core (λ_=>none) (λ_=>.inl rfl) (.inr ⟨_,vs.toArray,_,hk,rfl,rfl,rfl,by rw[L4,lenV];exact hl,by simpa using rv⟩) (λb u z=>by have z':(none:Option HO)=some u:=z;cases z') (λb z=>absurd rfl z) λz=>absurd rfl z
 |none =>
  refine core (λb=>if b=a then some (.U0 {cls:=.type "list",data:=.seq vs.toArray} (.lst (ns.map V.int)))else none) (λb=>?_) (.inl (.inr ⟨{cls:=.type "list",data:=.seq vs.toArray},c7 rfl⟩)) (λb u z=>?_) (λb z=>?_) λ_=>hk
  . by_cases hb:b=a
    . exact .inr ⟨_,_,c7 hb⟩
    . exact .inl (c9 hb)
  . by_cases hb:b=a
    . have z':=(c7 hb).symm.trans z;cases z';subst hb;exact⟨ha,by rw[F9];exact hl,vs,_,rv,ha⟩
    . have z':=(c9 hb).symm.trans z;cases z'
  . by_cases hb:b=a
    . exact hb
    . exact absurd (c9 hb) z
abbrev ZY{K:i5}{h:Heap}(_:K.In h):i5:=K
theorem Ff {l:Dx} {n k:Nat} {q:B1} {loose:List Str} {XP:(Str->Option c8)->Heap->Prop} {YP:t9->Heap->Prop} {d:DefRec} {K:Params->i5} {CX:t9->nV} {sp:t9->Sp} {x:Str} (hn:l.most=some n) (hn2:n<=B2) (hdf:d.params.defaults=[]) (hr:J2 k jX) (hY:∀(w:t9) (h:Heap),YP w h->(K w.params).In h) (F:∀(w:t9) (mg:Str->Option c8) (fa:Addr) (h:Heap),(K w.params).In h->h.Ns T8 mg->mg d.name=some (.ref fa) ->
   ∃fd:O0,(∀(s:h8) (u:c8),mE s fd ⟨[u],[]⟩ [(x,u)]) /\
    ∀base:Heap,(K w.params).In base->base.Ns T8 mg->Z5 l.prog w (K w.params) mg base (CX w) k fa fd [x] (sp w))
  (hsp:∀(w:t9) (H:Hp) (a:Addr) (ns:List Int),ns.length<=n->RW H->D9 (K w.params) H a (ns.map V.int)->sp w [.ref a] H (λv _=>v=.bl true) λ_ _ _=>False)
  (hCX:∀(w:t9) (H:Hp) (s:h8) (e:c8) (s':h8),CX w [] H s (λ_ _ _=>False) e s'->False) :
  PySem.W.WalkO q loose XP YP l.row.toRowW d [] (λf vs=>CK f vs):=by
 refine Att.ET hn hdf λw O5 s₁ mg mb fa o pm cd doc a vs ns G Y ho hd hcd hmg hobj hints hlen hg=>?_
 have KX:=hY w _ Y;obtain⟨fd,hb,hF⟩:=F w mg fa _ KX G.T.g hmg;exact QS KX G.T.g G.T.b G.T.builtins G.T.nolimit hg hobj hints (P4 hlen hn2) hr hF hb (λH hO hS=>hsp w H a ns hlen hO hS) λH e s'=>hCX w H s₁ e s'
end L2
/- THE LAST THEOREM (shape; LID, My.* are yours):
   My.Adr: a structure of the addresses that your layer names (classes,functions);My.Txt K t: a structure (Prop) of the equations over K;
   My.txt_mk:{K} {implicit addresses ..} (e1:nsIn K T8 "law" = some (some (.ref f))) (e2:K.lookup f=some ⟨oc,od,.func (fnOf "law" "law" params body scope dV kV doc pm an cdv ct),sl⟩) (e3:codeIn K cdv "law" = true) .. : ∃t,My.Txt K t
set_option maxRecDepth 100000 in
set_option maxHeartbeats 0 in
theorem PySem.Challenge.cw_LID_holds : PySem.Challenge.rw_LID.Holds := by
 w_on;o_law;k_head;(case hw=>w_witness2)
 k_fill
 refine L2.Ff (l:=PySem.Challenge.rw_LID) (n:=63) (k:=40) (x:="script") (CX:=λw=>..) (sp:=λ_=>My.sp_law) rfl (by decide) rfl ⟨rfl,by decide,by decide⟩ (λw h Y=>PySem.W.kIn_of Y) ?F ?S ?C
 case F =>
  intro w mg fa h KX G hmg;have T:∃t,My.Txt (L2.ZY KX) t:=by
   dsimp only[L2.ZY]                          -- K must stand as «<heap const> w.params» for k_is
   refine' My.txt_mk ?e1 ?e2 ?e3 ..
   (case e1=>PySem.W.k_is)                    -- in the order: a name->its address->its object->its parts
   (case e2=>PySem.W.k_is)
   ..
  obtain⟨t,T⟩:=T;have e0:=hmg.symm.trans (wZ KX G T.law);cases e0                                       -- fa is the law's own address
  exact⟨_,λs u=>.of_eq rfl,λbase kb nb=>My.law_fn T kb nb⟩     -- if «.of_eq rfl» comes too early: refine'⟨_,?b,λbase kb nb=>My.law_fn T kb nb⟩;exact λs u=>.of_eq rfl
 case S=>exact λw H a ns hl hO hS=>..
 case C=>exact ..
(the tactic k_is has no namespace: write k_is) -/
namespace L2
open PySem PySem.Spec PyProof.Rows
section
variable{qual:Str}{st:Stmt}{f a:Addr}{fd:O0}{N ps:List Str}{oc doc pm cdv ct:c8}{H H1 H2 H':Hp}
def inClass(s:Stmt)(j:Nat):Stmt:=match s with
 | .ClassDef _ _ _ body _ _ _ _ _ _ _=>body.getD j (.Pass ⟨0,0,0,0⟩)
 |_=>.Pass ⟨0,0,0,0⟩
def ji(s:Stmt):Arguments:=match s with
 | .FunctionDef _ a _ _ _ _ _ _ _ _=>a
 |_=>{posonlyargs:=[],args:=[],vararg:=none,kwonlyargs:=[],kw_defaults:=[],kwarg:=none,defaults:=[]}
def aF(s:Stmt):List Stmt:=match s with
 | .FunctionDef _ _ b _ _ _ _ _ _ _=>b
 |_=>[]
def D7(s:Stmt):Y4:=match s with
 | .FunctionDef _ _ _ _ _ _ sc _ _ _=>sc
 |_=>{kind:=.function,names:=[],isGenerator:=false,isCoroutine:=false}
abbrev pL:nV:=λ_ _ _ _ _ _=>False
abbrev E0:XK:=λ_ _ _=>False
theorem dM{X:Cx}:Passes pL X E0:=λ_ _ _ _ _ _ _ h=>h.elim
structure sG(K:i5)(x qual:Str)(st:Stmt)(f:Addr)(fd:O0):Prop where
 ex:∃(oc:c8) (od:Option Addr) (kV doc pm:c8) (an:Option Addr) (cdv ct:c8) (osl:Array (Option c8)),
  fd=iw x qual (ji st) (aF st) (D7 st) .none kV doc pm an cdv ct/\K.lookup f=some ⟨oc,od,.func fd,osl⟩/\xc K cdv qual=true
 kp:fL K (.ref f)=true
section
variable{P:B1}{w:t9}{K:i5}{mg:Str->Option c8}{base:Heap}
theorem sG.ok {x:Str} {k:Nat} {sp:Sp} (F:sG K x qual st f fd) (S:jl N ps (D7 st)) (len:∀vs H Q E,sp vs H Q E->vs.length=ps.length) (hbody:∀(cdv:c8) (A:A2) (outer:List Env) (s:h8) (H:Hp) (vs:List V) (Q:VK) (E:XK),J2 k (A.deeper (dz qual (D7 st) s.heap.objs.size f cdv))->sp vs H Q E ->
   ∃t,nS (mw pL P w K mg base N qual (D7 st) f cdv A outer s H E).vF (aF st) t/\t {nx:=λ_ H'=>Q .non H',rt:=Q} (start N vs) H):Z5 P w K mg base pL (k+1) f fd ps sp:=by
 obtain⟨oc,od,kV,doc,pm,an,cdv,ct,osl,rfl,lk,hcd⟩:=F.ex;refine Zy lk hcd S len λA outer s H vs Q E hr hsp=>?_
 obtain⟨t,h,q⟩:=hbody cdv A outer s H vs Q E hr hsp;exact⟨t,h.vF,q⟩
theorem sG.binds{x:Str}(F:sG K x qual st f fd)(h:∀(kV doc pm:c8) (an:Option Addr) (cdv ct:c8) (us:List c8),us.length=ps.length->bindArgs (iw x qual (ji st) (aF st) (D7 st) .none kV doc pm an cdv ct) ⟨us,[]⟩=pure (ps.zip us)):Binds K fd ps []:=by obtain⟨oc,od,kV,doc,pm,an,cdv,ct,osl,rfl,lk,hcd⟩:=F.ex;exact .all (h kV doc pm an cdv ct)
theorem Yv{x:Str}{od an:Option Addr}{osl:Array (Option c8)}{kV:c8}(l:K.lookup f=some ⟨oc,od,.func (iw x qual (ji st) (aF st) (D7 st) .none kV doc pm an cdv ct),osl⟩)(c:xc K cdv qual=true)(k:fL K (.ref f)=true):sG K x qual st f (iw x qual (ji st) (aF st) (D7 st) .none kV doc pm an cdv ct):=⟨⟨oc,od,kV,doc,pm,an,cdv,ct,osl,rfl,l,c⟩,k⟩
end
section
variable{X:Cx}
theorem pv(i:Nat){x:Str}{pos:Pos}(hN:X.N[i]? = some x:=by rfl)(hv:TL X.env.scope x:=by first|exact Or.inl rfl|exact Or.inr (Or.inl rfl)|exact Or.inr (Or.inr rfl))(hd:(x==("__debug__" : Str))=false:=by decide)(hcd:(x==("__classdict__" : Str))=false:=by decide):PE X (.Name x pos) (E9 i):=Xv hN hv hd hcd
end
def i0(H H':Hp):Prop:=∀b o,H b=some o->H' b=some o
theorem i0.refl(H:Hp):i0 H H:=λ_ _ h=>h
theorem i0.trans(a:i0 H H1)(b:i0 H1 H2):i0 H H2:=λc o h=>b c o (a c o h)
theorem i0.free(e:i0 H H'){l:Addr}(h:H' l=Option.none):H l=Option.none:=by
 cases q:H l with
 |none=>rfl
 |some o =>
  rw[e l o q]at h;cases h
theorem i0.seq{K:i5}{xs:List V}(e:i0 H H')(h:D9 K H a xs):D9 K H' a xs:=by
 rcases h with (h|⟨o,h⟩)|h
 . exact .inl (.inl (e _ _ h))
 . exact .inl (.inr ⟨o,e _ _ h⟩)
 . exact .inr h
end
section
variable{κ:Type}[DecidableEq κ]
theorem KV.length{kvs:List (κ×V)}{vs:List (κ×c8)}(r:KV kvs vs):kvs.length=vs.length:=Paired.length r
end
abbrev KT(H:Hp):List (List Key×V)->List (List Key×Addr×c8)->Prop:=Paired λp q=>p.1=q.1/\H q.2.1=some (.tup (p.1.map kV))/\RelV p.2 q.2.2
section
variable{P:B1}{w:t9}{H:Hp}{h:Heap}{a:Addr}
end
section
variable{X:Cx}{pins:List (Addr×Obj)}{σ:St}{H:Hp}{s:h8}{a:Addr}{y v:V}{u r:c8}{o:Option V}{A:A2}{E:c8->h8->Prop}
end
section
variable{X:Cx}{pins:List (Addr×Obj)}{σ:St}{H:Hp}{s:h8}{a:Addr}{kvs:List (Key×V)}{k:Key}{u:c8}{A:A2}{E:c8->h8->Prop}
end
section
variable{X:Cx}{o i e value:Expr}{pos pos' tpos:Pos}{td ty tv:TE}
end
section
variable{X:Cx}{pos:Pos}
end
structure M1(X:Cx)(o:Expr)(m:Str)(apos:Pos)(e:Expr)(cpos:Pos):Prop where
 base:V8 o m X.env (eval o X.env)=eval o X.env
 Ts:((A9 cpos (j4 [e] X.env)).all (λx=>!x.1)&&(aw cpos (cq [] X.env)).all (λx=>x.1.isSome)
  && decide (([e]:List Expr).length+([]:List W8).length+(if ([]:List W8).isEmpty then 0 else 1)<30))=true
 line:(apos.endLine==cpos.line)=true
 trees:A9 cpos (j4 [e] X.env)=[(false,eval e X.env)]
structure M2(X:Cx)(o:Expr)(m:Str)(apos:Pos)(e f:Expr)(cpos:Pos):Prop where
 base:V8 o m X.env (eval o X.env)=eval o X.env
 Ts:((A9 cpos (j4 [e,f] X.env)).all (λx=>!x.1)&&(aw cpos (cq [] X.env)).all (λx=>x.1.isSome)
  && decide (([e,f]:List Expr).length+([]:List W8).length+(if ([]:List W8).isEmpty then 0 else 1)<30))=true
 line:(apos.endLine==cpos.line)=true
 trees:A9 cpos (j4 [e,f] X.env)=[(false,eval e X.env),(false,eval f X.env)]
section
variable{X:Cx}{pins:List (Addr×Obj)}{σ:St}{H:Hp}{s:h8}{a:Addr}{y d:V}{u r:c8}{o:Option V}{A:A2}{E:c8->h8->Prop}
end
section
variable{X:Cx}{o e f:Expr}{apos cpos:Pos}{td ty tx:TE}
end
section
variable{X:Cx}{pins:List (Addr×Obj)}{σ:St}{H:Hp}{s:h8}{a:Addr}{kvs:List (Key×V)}{A:A2}{E:c8->h8->Prop}
end
section
variable{X:Cx}{pins:List (Addr×Obj)}{σ:St}{H:Hp}{s:h8}{a:Addr}{y:V}{u:c8}{A:A2}{E:c8->h8->Prop}
end
section
variable{scope:Y4}{env:Env}{X:Cx}{D globals bi:Addr}{elt target iter tg:Expr}{ifs:List Expr}{it acc u:c8}{E R:c8->h8->Prop}{wi:TI}{g:TG}{tt:TT}{te:TE}
theorem qt(env:Env):∀(names:List (Str×ik)) (acc:List (Str×Addr)),(∀y∈names,y.2=.free->∃c,env.cells.lookup y.1=some c)->(∀x c,acc.lookup x=some c->env.cells.lookup x=some c) ->
  ∃cl,(forIn names acc λy (cs:List (Str×Addr))=>if (y.2==.free)=true then(do let c <- cellOf env y.1;pure (kj ((y.1,c)::cs)))else pure (kj cs):Sem (List (Str×Addr)))=pure cl /\
   (∀x c,cl.lookup x=some c->env.cells.lookup x=some c)/\(∀y∈names,y.2=.free->(cl.lookup y.1).isSome=true)/\(∀x,(acc.lookup x).isSome=true->(cl.lookup x).isSome=true)
 | [],acc,_,ha=>⟨acc,by simp only[xb],ha,(λ_ h=>nomatch h),(λ_ h=>h)⟩
 |(n,k)::r,acc,h,ha=>by
  have hr:∀y∈r,y.2=.free->∃c,env.cells.lookup y.1=some c:=λy hy=>h y (A0 _ hy)
  by_cases hk:k=.free
  . subst hk;obtain⟨c,hc⟩:=h (n,.free) B7 rfl;have ha':∀x c',((n,c)::acc).lookup x=some c'->env.cells.lookup x=some c':=λx c' e=>by
     rw[ko]at e;cases hx:x==n with
     |true =>
      rw[hx]at e;cases e;rw[wK hx];exact hc
     |false =>
      rw[hx]at e;exact ha x c' e
    obtain⟨cl,e1,e2,e3,e4⟩:=qt env r ((n,c)::acc) hr ha';have up:∀x,(((n,c)::acc).lookup x).isSome=true->(cl.lookup x).isSome=true:=e4;refine⟨cl,?_,e2,λy hy hf=>?_,λx hx=>up x ?_⟩
    . rw[xm];have ec:cellOf env n=pure c:=by delta cellOf;rw[hc]
      simp only[beq_self_eq_true,w9,ec];exact e1
    . rcases List.mem_cons.mp hy with rfl|hy
      . exact up n (by rw[ko];simp)
      . exact e3 y hy hf
    . rw[ko];cases x==n<;>simp[hx]
  . obtain⟨cl,e1,e2,e3,e4⟩:=qt env r acc hr ha;refine⟨cl,?_,e2,λy hy hf=>?_,e4⟩
    . rw[xm];have hb:(k==cV)=false:=by simpa using hk
      simp only[hb,aB,N9];exact e1
    . rcases List.mem_cons.mp hy with rfl|hy
      . exact absurd hf hk
      . exact e3 y hy hf
theorem Jj(h:∀y∈scope.names,y.2=.free->∃c,env.cells.lookup y.1=some c):
  ∃cl,closureFor scope env=pure cl/\(∀x c,cl.lookup x=some c->env.cells.lookup x=some c)/\(∀y∈scope.names,y.2=.free->(cl.lookup y.1).isSome=true):=by
 obtain⟨cl,e1,e2,e3,_⟩:=qt env scope.names [] h (λx c e=>by simp at e)
 refine⟨cl,?_,e2,e3⟩;show((forIn scope.names [] λy (cs:List (Str×Addr))=>if (y.2==.free)=true then(do let c <- cellOf env y.1;pure (kj ((y.1,c)::cs)))else pure (kj cs):Sem (List (Str×Addr))) >>= pure)=_
 rw[e1];rfl
theorem lS{env:Env}:∀{names:List (Str×ik)} {x:Str},
  ((names.map λ(n,k)=>if (k==cV&&env.scope.kind==.function&&env.kindOf n==some .cell)then(n,V7)else(n,k)).lookup x=some .cell \/
   (names.map λ(n,k)=>if (k==cV&&env.scope.kind==.function&&env.kindOf n==some .cell)then(n,V7)else(n,k)).lookup x=some .free) ->
  (x,cV)∈names\/(x,V7)∈names
 | [],_,h=>by simp at h
 |(n,k)::r,x,h=>by
  have ih:=@lS env r x;by_cases hx:(x==n)=true
  . have e:x=n:=wK hx;subst e;by_cases hf:k=.free
    . subst hf;exact .inl B7
    . right;have hb:(k==cV)=false:=by simpa using hf
      simp only[o5,hb,xh,aB,N9,ko,beq_self_eq_true]at h;rcases h with h|h
      . have:=aA h;subst this;exact B7
      . exact absurd (aA h) hf
  . have hx':(x==n)=false:=by simpa using hx
    refine(ih ?_).imp (A0 _) (A0 _);rw[o5]at h;have hd:∀(k':ik) (l:List (Str×ik)),dC x ((n,k')::l)=dC x l:=λk' l=>by rw[ko,hx']
    by_cases hc2:(k==cV&&env.scope.kind==.function&&env.kindOf n==some .cell)=true
    . have e:(if (k==cV&&env.scope.kind==.function&&env.kindOf n==some .cell)=true then(n,V7)else(n,k))=(n,V7):=c7 hc2
      simp only[e,hd]at h;exact h
    . have e:(if (k==cV&&env.scope.kind==.function&&env.kindOf n==some .cell)=true then(n,V7)else(n,k))=(n,k):=c9 hc2
      simp only[e,hd]at h;exact h
def X4(X:Cx)(bs nb:List Str)(scope:Y4)(cl:List (Str×Addr))(C:Addr)(fp:List Addr)(s:h8)(H:Hp)(pins:List (Addr×Obj)):Cx where
 prog:=X.prog
 w:=X.w
 K:=X.K
 mg:=X.mg
 base:=X.base
 A:=X.A
 N:=bs++nb
 O5:=s
 e8:=H
 env:=oU scope cl C X.env
 outer:=X.stack
 stack:=X.stack
 ex:=fp
 fn:=λy=>decide (scope.names.lookup y=some .cell)
 calm:=X.calm
 pn:=X.pn++pins
 xe:=λ_ _=>False
structure lG(X:Cx)(bs nb:List Str)(scope:Y4):Prop where
 kind:scope.kind=.function
 names:∀y∈scope.names,y.2=.local->scope.names.lookup y.1=some .local
 U9:∀y∈scope.names,y.2=.free->X.env.scope.names.lookup y.1=some .cell\/X.env.scope.names.lookup y.1=some .free
 apart:∀x∈nb,∀y∈scope.names,y.1=x->y.2≠.local/\y.2≠.cell
 len:nb.length=X.N.length
 nms:∀(j:Nat) (x:Str),nb[j]? = some x->X.N[j]? = some x\/∀y∈scope.names,y.1≠x
def gZ(N nb:List Str)(fsc sc:Y4):Bool :=
 (decide (nb.length=N.length)&&(nb.zip N).all λp=>decide (p.1=p.2)||sc.names.all λy=>!decide (y.1=p.1))&&(decide (sc.kind=.function)&&(sc.names.all λy=>!decide (y.2=.local)||decide (sc.names.lookup y.1=some .local)) &&
  (sc.names.all λy=>!decide (y.2=.free)||(decide (fsc.names.lookup y.1=some .cell)||decide (fsc.names.lookup y.1=some .free)))&&nb.all λx=>sc.names.all λy=>!decide (y.1=x)||!decide (y.2=.local\/y.2=.cell))
theorem Cz{bs nb:List Str}(h:gZ X.N nb X.env.scope scope=true):lG X bs nb scope:=by
 unfold gZ at h;simp only[ek,List.all_eq_true,MQ,DK,sk,qw]at h;obtain⟨⟨h6,h7⟩,⟨⟨h1,h3⟩,h4⟩,h5⟩:=h;refine⟨h1,λy hy e=>?_,λy hy e=>?_,λx hx y hy e1=>?_,h6,λj x hj=>?_⟩
 . rcases h3 y hy with q|q
   . exact absurd e q
   . exact q
 . rcases h4 y hy with q|q
   . exact absurd e q
   . exact q
 . rcases h5 x hx y hy with q|q
   . exact absurd e1 q
   . exact⟨λz=>q (.inl z),λz=>q (.inr z)⟩
 . have hl:j<nb.length:=(List.getElem?_eq_some_iff.mp hj).1;have hN:X.N[j]? = some (X.N[j]'(by lia)):=G0 _
   have hz:(nb.zip X.N)[j]? = some (x,X.N[j]'(by lia)):=List.getElem?_zip_eq_some.mpr ⟨hj,hN⟩
   rcases h7 _ (sA hz)with q|q
   . left;rw[hN];exact E6 some q.symm
   . right;exact q
theorem Jk(lo:Nat)(P:Str->Addr->Prop):∀(names:List (Str×ik)) (h:Heap) (acc:List (Str×Addr)) (D:Str->Prop),lo<=h.objs.size ->
  (∀x c,acc.lookup x=some c->c<h.objs.size/\((P x c/\¬D x)\/(D x/\lo<=c/\h.IsCell c none)))->(∀x y c,acc.lookup x=some c->acc.lookup y=some c->x=y)->(∀x,D x->(acc.lookup x).isSome=true) ->
  (∀x c,(fI h.objs.size names acc).lookup x=some c->(P x c/\¬(D x\/(x,V7)∈names))\/((D x\/(x,V7)∈names)/\lo<=c/\(oV h names).IsCell c none)) /\
  (∀x y c,(fI h.objs.size names acc).lookup x=some c->(fI h.objs.size names acc).lookup y=some c->x=y)/\(∀x,(D x\/(x,V7)∈names)\/(acc.lookup x).isSome=true->((fI h.objs.size names acc).lookup x).isSome=true)
 | [],h,acc,D,hlo,h1,h2,h3=>by
  refine⟨λx c e=>?_,h2,λx hx=>?_⟩
  . rcases(h1 x c e).2 with ⟨z1,z2⟩|⟨z1,z2,z3⟩
    . exact .inl ⟨z1,λz=>z.elim z2 (by simp)⟩
    . exact .inr ⟨.inl z1,z2,z3⟩
  . rcases hx with (hx|hx)|hx
    . exact h3 x hx
    . simp at hx
    . exact hx
 |(n,k)::r,h,acc,D,hlo,h1,h2,h3=>by
  unfold oV fI;by_cases hk:k=.cell
  . subst hk;simp only[beq_self_eq_true,w9];have lk:∀x,((n,h.objs.size)::acc).lookup x=if x=n then some h.objs.size else acc.lookup x:=λx=>by
     rw[ko];by_cases c:x=n
     . subst c;simp
     . have:(x==n)=false:=by simpa using c
       rw[this,c9 c]
    have sz:(h.push {cls:=.type "cell",data:=.cell none}).objs.size=h.objs.size+1:=hU ..;obtain⟨i1,i2,i3⟩:=Jk lo P r (h.push {cls:=.type "cell",data:=.cell none}) ((n,h.objs.size)::acc) (λx=>D x\/x=n) (by omega) (λx c e=>by
      rw[lk]at e;split at e
      . rename_i hx;cases e;exact⟨by rw[sz];exact sh _,.inr ⟨.inr hx,hlo,_,S7 _ rfl,rfl⟩⟩
      . rename_i hx;obtain⟨z,q⟩:=h1 x c e;refine⟨by rw[sz];exact Nl z,?_⟩
        rcases q with ⟨q1,q2⟩|⟨q1,q2,q3⟩
        . exact .inl ⟨q1,λy=>y.elim q2 hx⟩
        . exact .inr ⟨.inl q1,q2,q3.keeps λb o e=>E5 _ e⟩) (λx y c e1 e2=>by
      rw[lk]at e1 e2;split at e1
      . split at e2
        . rename_i a b;rw[a,b]
        . cases e1;exact absurd (h1 y _ e2).1 (X6 _)
      . split at e2
        . cases e2;exact absurd (h1 x _ e1).1 (X6 _)
        . exact h2 x y c e1 e2) (λx hx=>by
      rw[lk];split
      . rfl
      . rename_i hn;exact h3 x (hx.resolve_right hn))
    rw[sz]at i1 i2 i3;have me:∀x,((D x\/x=n)\/(x,V7)∈r)↔(D x\/(x,V7)∈(n,V7)::r):=λx=>by
     rw[mM];constructor
     . rintro((z|z)|z)
       . exact .inl z
       . exact .inr (.inl (by rw[z]))
       . exact .inr (.inr z)
     . rintro(z|z|z)
       . exact .inl (.inl z)
       . exact .inl (.inr (E6 Prod.fst z))
       . exact .inr z
    refine⟨λx c e=>?_,i2,λx hx=>i3 x ?_⟩
    . rw[<-me];exact i1 x c e
    . rw[<-me]at hx;refine hx.imp id λz=>?_
      rw[lk];split
      . rfl
      . exact z
  . have hb:(k==V7)=false:=by simpa using hk
    simp only[hb,aB,N9];obtain⟨i1,i2,i3⟩:=Jk lo P r h acc D hlo h1 h2 h3;have me:∀x,(x,V7)∈r↔(x,V7)∈(n,k)::r:=λx=>by rw[mM];exact⟨.inr,λz=>z.resolve_left λy=>hk (E6 Prod.snd y).symm⟩
    refine⟨λx c e=>?_,i2,λx hx=>i3 x ?_⟩
    . rw[<-me];exact i1 x c e
    . rw[<-me]at hx;exact hx
structure RY(X:Cx)(scope:Y4)(cl:List (Str×Addr))(n:Nat):Prop where
 c1:∀x c,cl.lookup x=some c->(X.env.cells.lookup x=some c/\¬(x,V7)∈scope.names)\/((x,V7)∈scope.names/\n<=c)
 c2:∀x,(x,cV)∈scope.names\/(x,V7)∈scope.names->(cl.lookup x).isSome=true
 c3:∀x y c,cl.lookup x=some c->cl.lookup y=some c->x=y
section
variable{X:Cx}{bs nb:List Str}{scope:Y4}{cl:List (Str×Addr)}{C:Addr}{fp:List Addr}{pins:List (Addr×Obj)}{σ:St}{H:Hp}{s:h8}
theorem YG(I:Inv X pins σ H s)(B:lG X bs nb scope)(L:RY X scope cl s.heap.objs.size)(hC:s.heap.objs.size<=C)(hf:∀b∈fp,kR X pins H b)(hlt:∀b∈fp,b<s.heap.objs.size):(X4 X bs nb scope cl C fp s H pins).Ok where
 mod:=I.ok.mod
 kind:=B.kind
 glob:=I.ok.glob
 blt:=I.ok.blt
 above:=hC
 inj:=L.c3
 has:=λx hx=>by exact Option.isSome_iff_exists.mp (L.c2 x (lS (env:=X.env) hx))
 Hf:=λx c h e=>by
  rcases L.c1 x c e with z|z
  . exact absurd (kz (pE h)) z.2
  . exact z.2
 hd:=I.ok.hd
 frames:=I.ok.frames
 JQ:=.inl rfl
 Tu:=λb hb=>⟨X5 (M8 (hlt b hb) hC),λx c e=>(L.c1 x c e).elim (λz=>(hf b hb).2.2.2.2.1 x c z.1) λz=>mL (M8 (hlt b hb) z.2)⟩
 bs:=I.bs
 qH:=P4 I.ok.qH I.sz
 uF:=λb o e hb=>by
  rcases(hf b hb).2.2.2.1 with z|z
  . exact I.ok.uF b o e z
  . exact absurd (M8 (B4 e) (P4 I.ok.qH z)) (X6 _)
 yx:=λb hb hs=>by
  rcases List.mem_cons.mp (I.qO b hs)with z|z
  . exact(hf b hb).2.1 z
  . exact(hf b hb).2.2.1 z
 jf:=I.stack
 zz:=I.Fw
def dX(bs:List Str)(σ:St):St:=v5 bs.length none++σ
theorem VT{h':Heap}{t':Nat}{m:Str->Option c8}(I:Inv X pins σ H s)(B:lG X bs nb scope)(L:RY X scope cl s.heap.objs.size)(hce:∀x c,cl.lookup x=some c->s.heap.objs.size<=c->h'.IsCell c none)(hC:s.heap.objs.size<=C)(hf:∀b∈fp,kR X pins H b)(hlt:∀b∈fp,b<s.heap.objs.size)(k:∀b u,s.heap.get? b=some u->h'.get? b=some u)(hn:h'.Ns C m):Inv (X4 X bs nb scope cl C fp s H pins) [] (dX bs σ) H {s with heap:=h',toks:=t'}:=by
 refine⟨YG I B L hC hf hlt,rfl,I.bare,Un.kept k,⟨m,hn,λi x v e1 e2 e3=>?_⟩,λx c e=>?_,I.A7.fresh hC,λx c e=>(L.c1 x c e).elim (λz=>I.gS x c z.1) λz=>I.A7.fresh z.2,λp hp=>?_,I.A7.kept k,?_⟩
 . have e1':(bs++nb)[i]? = some x:=e1;unfold dX at e2;by_cases hi:i<bs.length
   . rw[sD (by simpa using hi),Ef,c7 hi]at e2
     cases e2
   . rw[sF (by simpa using hi),xC]at e2
     rw[sF (by simpa using hi)]at e1'
     have hxN:x∈nb:=sA e1';have hm:(x,cV)∈scope.names:=by
      rcases e3 with e3|e3
      . exfalso;have e3':((scope.names.map λ(n,k)=>if (k==cV&&X.env.scope.kind==.function&&X.env.kindOf n==some .cell)then(n,V7)else(n,k))).lookup x=some .local:=e3
        obtain⟨⟨n,kd⟩,hy,he⟩:=mem_map.mp (kz e3');by_cases hcc:(kd==cV&&X.env.scope.kind==.function&&X.env.kindOf n==some .cell)=true
        . simp only[hcc,w9]at he;cases he
        . simp only[hcc,N9]at he;cases he;exact(B.apart x hxN (x,.local) hy rfl).1 rfl
      . exact(lS (env:=X.env) e3).resolve_right λz=>(B.apart x hxN _ z rfl).2 rfl
     have hv:TL X.env.scope x:=.inr (B.U9 _ hm rfl);have e1':X.N[i-bs.length]? = some x:=(B.nms _ x e1').resolve_right λz=>z _ hm rfl
     obtain⟨m0,_,hl⟩:=I.loc;obtain⟨u,r,l⟩:=hl _ x v e1' e2 hv;refine⟨u,r,?_⟩;have hkx:(X4 X bs nb scope cl C fp s H pins).env.kindOf x=some .cell\/(X4 X bs nb scope cl C fp s H pins).env.kindOf x=some .free:=by
      rcases e3 with e3|e3
      . exfalso;have e3':((scope.names.map λ(n,k)=>if (k==cV&&X.env.scope.kind==.function&&X.env.kindOf n==some .cell)then(n,V7)else(n,k))).lookup x=some .local:=e3
        obtain⟨⟨n,kd⟩,hy,he⟩:=mem_map.mp (kz e3');by_cases hcc:(kd==cV&&X.env.scope.kind==.function&&X.env.kindOf n==some .cell)=true
        . simp only[hcc,w9]at he;cases he
        . simp only[hcc,N9]at he;cases he;exact(B.apart x hxN (x,.local) hy rfl).1 rfl
      . exact e3
     rcases l with ⟨hk,_⟩|⟨_,c,hc,hcell⟩
     . exfalso;have hk':X.env.scope.names.lookup x=some .local:=hk;rcases B.U9 _ hm rfl with z|z
       . rw[show X.env.scope.names.lookup x=some .cell from z]at hk';cases hk'
       . rw[show X.env.scope.names.lookup x=some .free from z]at hk';cases hk'
     . obtain⟨c',hc'⟩:=Option.isSome_iff_exists.mp (L.c2 _ (.inl hm));have:c'=c:=by
        rcases L.c1 _ _ hc' with z|z
        . exact aA (z.1.symm.trans hc)
        . exact absurd rfl (B.apart x hxN _ z.1 rfl).2
       subst this;obtain⟨o,ho,hd⟩:=hcell;exact .inr ⟨hkx,c',hc',o,k _ _ ho,hd⟩
 . rcases L.c1 x c e with z|z
   . obtain⟨v,o,ho,hd⟩:=I.cell x c z.1;exact⟨v,o,k _ _ ho,hd⟩
   . exact⟨_,hce x c e z.2⟩
 . have hp':p∈X.pn++pins:=by simpa [X4]using hp
   obtain⟨e,n,ne,nf,d⟩:=I.pin p hp';refine⟨k _ _ e,n,X5 (M8 (B4 e) hC),λz=>?_,d⟩
   rcases List.mem_cons.mp (I.qO _ z)with z|z
   . exact ne z
   . exact nf z
 . delta dX;show _=(bs++nb).length
   rw[hW,hW,xC,I.len,B.len]
theorem Inv.Hw{o:HO}(I:Inv X pins σ H s)(hn:H D=none)(hL:D≠X.env.locals)(h1:D∈X.ex\/X.O5.heap.objs.size<=D)(h2:∀x c,X.env.cells.lookup x=some c->c≠D)(h3:∀p∈X.pn++pins,p.1≠D)(new:V3 X.prog X.w (upd H D o) s.heap D o):Inv X pins σ (upd H D o) s:=by
 have hup:∀b u,H b=some u->upd H D o b=some u:=λb u e=>by rw[A3 (Y7 e hn)];exact e
 have:=I.step (H':=upd H D o) (h':=s.heap) (g':=s.gens) (d':=s.drawn) (t':=s.toks) (ch:=[D]) (λb hb=>?_) (λb ob _ _ _ e _=>e) (λb ob _ _ _ e _=>⟨ob.slots,e⟩) (λb ob hc e n=>?_) (λb ob _ e=>⟨ob,e⟩)
  (λb xs e=>hup b _ e) (λb ob u e=>hup b _ e) (λb ps e=>⟨#[],by rw[hup b _ e];simp⟩) (λm hm=>hm) (λb u e=>?_) I.bare
 . exact this
 . have e:b=D:=by simpa using hb
   subst e;exact⟨h1,hL,h2,h3⟩
 . rw[A3 (by simpa using hc)];exact n
 . by_cases hb:b=D
   . subst hb;rw[E8]at e;cases e;exact new
   . rw[A3 hb]at e;exact(I.A7 b u e).qP (λ_ _ _ q=>q) (λc q=>hup c _ q) λc xs q=>hup c _ q
end
def vd(X:Cx)(ifs:List Expr)(t:TT):Prop :=
 ∀(pins:List (Addr×Obj)) (s:h8) (σ:St) (H:Hp) (Q:Bool->Hp->Prop) (E:c8->h8->Prop),(∀e s',X.xe e s'->E e s')->Inv X pins σ H s->t σ H Q ->
  wpAny (model X.prog X.w) X.A (forIn ifs true λc r=>if r=true then do let ok <- isTrue c X.env (eval c X.env);pure (kj ok)else pure (kj r)) (TP X pins σ Q) E s
def Sv:TT:=λ_ H Q=>Q true H
theorem Qj:vd X [] Sv:=λ_ _ _ H _ _ _ I h=>wpAny_tests_nil ⟨H,I,h⟩
theorem Qi{c:Expr}{t:TT}(h:PT X c t):vd X [c] t:=λpins s σ H Q E hE I q=>wpAny_tests_one (cG (h pins s σ H Q I q) (λ_ _ z=>z) hE)
section
variable{prog:B1}{w:t9}{A:A2}{R:Result->h8->Prop}{s:h8}
theorem ES {pos:Pos} (I:Nat->h8->Prop) (turn:∀n s,I n s->wpAny (model prog w) A (jW it) (λr s₁=>match r with
   |none=>R (.ok .next) s₁
   |some v=>wpAny (model prog w) A (xn target it v) (λ_ O5=>wpAny (model prog w) A (assign target env v) (λ_ s₂ =>
     wpAny (model prog w) A (forIn ifs true λc r=>if r=true then do let ok <- isTrue c env (eval c env);pure (kj ok)else pure (kj r)) (λok s₃ =>
      if ok=true then wpAny (model prog w) A (eval elt env) (λx s₄ =>
       wpAny (model prog w) A (call (.builtin "list.append") [acc,x]) (λ_ s₅=>∃m,m<n/\I m s₅) (ic (model prog w) A env λe s'=>R (.error e) s') s₄) (ic (model prog w) A env λe s'=>R (.error e) s') s₃
      else ∃m,m<n/\I m s₃) (ic (model prog w) A env λe s'=>R (.error e) s') s₂) (ic (model prog w) A env λe s'=>R (.error e) s') O5) (ic (model prog w) A env λe s'=>R (.error e) s') s₁) (ic (model prog w) A env λe s'=>R (.error e) s') s)
  (n:Nat) (h:I n s) :
  codeAny (model prog w) A (.compLoop (.ListComp elt [⟨target,iter,ifs,0⟩] scope pos) 0 it acc env) R s:=by
 refine codeAny_loop rfl I (λn s hI=>?_) n h
 show wpAny _ A ((compTurn (.ListComp elt [⟨target,iter,ifs,0⟩] scope pos) 0 it acc env).onRaise (λx=>do noteFrame x env;theTreesLotGoes x)) _ _ s
 refine wpAny_noted ?_;rw[compTurn_list];refine wpAny_bind (Dl (wpAny_bind (cG (turn n s hI) (λr s₁ h₁=>?_) λ_ _ h'=>h')))
 cases r with
 |none=>exact n9 h₁
 |some v =>
  refine wpAny_bind (cG h₁ (λ_ O5 h₀=>?_) λ_ _ h'=>h')
  refine wpAny_bind (cG h₀ (λ_ s₂ h₂=>wpAny_bind (cG h₂ (λok s₃ h₃=>?_) λ_ _ h'=>h')) λ_ _ h'=>h')
  cases ok with
  |false=>exact n9 ⟨rfl,h₃⟩
  |true =>
   exact wpAny_bind (wpAny_bind (cG h₃ (λx s₄ h₄=>wpAny_bind (cG h₄ (λ_ s₅ h₅=>n9 (n9 ⟨rfl,h₅⟩)) λ_ _ h'=>h')) λ_ _ h'=>h'))
end
def nc(n:Nat)(g:TG):Prop:=∀x σ H Q,g x σ H Q->g x σ H λσ2 H2=>Q σ2 H2/\σ2.length=σ.length/\∀j,n<=j->σ2[j]? = σ[j]?
def Ak(n:Nat)(g:qI):Prop:=∀x σ H Q,g x σ H Q->g x σ H λσ2 H2=>Q σ2 H2/\σ2.length=σ.length/\∀j,n<=j->σ2[j]? = σ[j]?
theorem LQ{n i:Nat}(h:i<n:=by decide):nc n (Y8 i):=λx σ H Q q=>⟨q,by simp,λj hj=>by rw[aD (by lia)]⟩
theorem LP{n:Nat}:Ak n IV:=λx σ H Q q=>⟨q.1,q.2,rfl,λ_ _=>rfl⟩
theorem vW{n i:Nat}{u:qI}(hu:Ak n u)(h:i<n:=by decide):Ak n (tF (Y8 i) u):=λx σ H Q q=>by
 obtain⟨v,r,e,q⟩:=q;refine⟨v,r,e,?_⟩;have z:=hu r (σ.set i (some v)) H Q q;have e1:∀σ2:St,(σ2.length=(σ.set i (some v)).length/\∀j,n<=j->σ2[j]? = (σ.set i (some v))[j]?)->σ2.length=σ.length/\∀j,n<=j->σ2[j]? = σ[j]?:=λσ2 ⟨a,b⟩=>by
  refine⟨by simpa using a,λj hj=>?_⟩
  have:=b j hj
  rwa [aD (by lia)]at this
 show u r (σ.set i (some v)) H λσ2 H2=>Q σ2 H2/\σ2.length=σ.length/\∀j,n<=j->σ2[j]? = σ[j]?
 have ef:(λ(σ2:St) (H2:Hp)=>Q σ2 H2/\σ2.length=(σ.set i (some v)).length/\∀j,n<=j->σ2[j]? = (σ.set i (some v))[j]?)=λσ2 H2=>Q σ2 H2/\σ2.length=σ.length/\∀j,n<=j->σ2[j]? = σ[j]?:=by
  funext σ2 H2
  apply propext;constructor
  . rintro⟨a,b⟩;exact⟨a,e1 σ2 b⟩
  . rintro⟨a,b,c⟩;refine⟨a,by simpa using b,λj hj=>?_⟩
    rw[aD (by lia)]
    exact c j hj
 rw[<-ef];exact z
theorem Rb{n:Nat}{K:i5}{m:Nat}{t:qI}(h:Ak n t):nc n (BQ K m t):=λx σ H Q q=>by obtain⟨a,xs,e,hs,hl,q⟩:=q;exact⟨a,xs,e,hs,hl,h xs σ H Q q⟩
def ZG(J:It)(bs:List Str)(g:TG)(tt:TT)(te:TE)(σ:St)(Q:VK)(H1:Hp):Prop:=∃(n:Nat) (W:Nat->List V->Hp->Prop),n<=B2/\W 0 [] H1/\∀i ys H,W i ys H ->
 ((J.stop i H/\∀p,H p=none->Q (.ref p) (upd H p (.lst ys)))\/(J.go i H/\i<n/\∀x H',J.Jv i H x H'->g x (dX bs σ) H' λσ2 H2=>tt σ2 H2 λb H3=>if b=true then te σ2 H3 (λy H4=>W (i+1) (ys++[y]) H4)else W (i+1) ys H3))
def lg(bs:List Str)(wi:TI)(g:TG)(tt:TT)(te:TE):TE:=λσ H Q=>wi σ H λJ H1=>ZG J bs g tt te σ Q H1
theorem Vals.snoc{xs:List V}{us:List c8}{x:V}(r:Vals xs us)(h:RelV x u):Vals (xs++[x]) (us++[u]):=r.append (.cons h .nil)
theorem Uc{M:Model}{A:A2}{s:h8}{cl:List (Str×Addr)}{qual:Str}{Q:Env->h8->Prop}(hQ:Q (newEnv scope s.heap.objs.size globals (fI (s.heap.objs.size+1) scope.names cl) qual none .none (some env) bi) {s with heap:=oV (s.heap.push {cls:=.type "dict",data:=.dict #[]}) scope.names}):
  wpAny M A (newFunctionEnv scope globals cl [] qual none .none (some env) bi) Q E s:=by
 simp only[newFunctionEnv,Option.isSome_some,w9];refine wpAny_bind (wpAny_alloc ?_);refine wpAny_bind (wpAny_layCells _ (λname kind cells=>by cases hkc:kind==V7<;>simp[hkc]) _ _ _ _ ?_)
 rw[show({s with heap:=s.heap.push {cls:=.type "dict",data:=.dict #[]}}:h8).heap.objs.size=s.heap.objs.size+1 from hU ..]
 refine wpAny_bind ?_;rw[xb];exact n9 (n9 hQ)
theorem EW{bs nb:List Str}{pos:Pos}{use:Option (c8->Sem Unit)}(hc:X.calm=true)(B:lG X bs nb scope)(hi:PI X tg iter wi)(go:nc bs.length g)(hg:∀cl C fp s H pins,PG (X4 X bs nb scope cl C fp s H pins) tg g)(ht:∀cl C fp s H pins,vd (X4 X bs nb scope cl C fp s H pins) ifs tt)(he:∀cl C fp s H pins,PE (X4 X bs nb scope cl C fp s H pins) elt te)(hs:∀x,eu iter X.env x=pure x)(pins:List (Addr×Obj))(s:h8)(σ:St)(H:Hp)(Q:VK)(I:Inv X pins σ H s)(h:lg bs wi g tt te σ H Q)(hfin:∀(D C:Addr) (s':h8) (H':Hp) (f:Flow),Inv X pins σ H' s'->Q (.ref D) H'->kR X pins H' C->(∃m,s'.heap.Ns C m)->rS (model X.prog X.w) X.A X.xe use R (.ref D) C (.ok f) s'):
  wpAny (model X.prog X.w) X.A (comprehension (.ListComp elt [⟨tg,iter,ifs,0⟩] scope pos) scope X.env (firstIterPos [⟨tg,iter,ifs,0⟩] pos) (newList []) (firstAsync [⟨tg,iter,ifs,0⟩]) (firstIter [⟨tg,iter,ifs,0⟩] X.env) use) R X.xe s:=by
 obtain⟨cl0,hcl,c1,c2⟩:=Jj (scope:=scope) (env:=X.env) (λy hy hf=>I.ok.has y.1 (B.U9 y hy hf))
 refine wpAny_comprehension_free (use:=use) rfl hs hcl B.kind B.names (C4 (hi pins s σ H _ I h) λv s1 h1=>C4 h1 λitv s2 h2=>?_)
 obtain⟨it,fp,tn,J,H2,e,I2,T,st2,f2,n,W,hn,w0,turn⟩:=h2;subst e;have hlt:∀b∈fp,b<s2.heap.objs.size:=λb hb=>by obtain⟨o,e,_⟩:=T.obj _ _ st2 b hb;exact B4 e
 refine mX (Uc ?_);dsimp only;generalize hH2:s2.heap.push {cls:=.type "list",dict:=none,data:=.seq ([]:List c8).toArray}=G2;have hCs:G2.objs.size=s2.heap.objs.size+1:=by rw[<-hH2,hU]
 have hDC:s2.heap.objs.size≠G2.objs.size:=by rw[hCs];exact X5 (sh _)
 have hCle:s2.heap.objs.size<=G2.objs.size:=by rw[hCs];exact wO _
 have sz3:(G2.push {cls:=.type "dict",data:=.dict #[]}).objs.size=G2.objs.size+1:=hU ..;obtain⟨f1,f3,f4⟩:=Jk s2.heap.objs.size (λx c=>X.env.cells.lookup x=some c) scope.names (G2.push {cls:=.type "dict",data:=.dict #[]}) cl0 (λ_=>False) (by lia)
  (λx c e=>⟨by obtain⟨v,q⟩:=I2.cell x c (c1 x c e);rw[sz3];exact Nl (M8 q.lt hCle),.inl ⟨c1 x c e,λz=>z⟩⟩) (λx y c e1 e2=>I2.ok.inj x y c (c1 x c e1) (c1 y c e2)) λx z=>z.elim
 rw[sz3]at f1 f3 f4;generalize hcl':fI (G2.objs.size+1) scope.names cl0=cl at f1 f3 f4 ⊢;have hns₁:(oV (G2.push {cls:=.type "dict",data:=.dict #[]}) scope.names).Ns G2.objs.size (λ_=>none):=(Heap.Ns.new G2 (.type "dict")).keeps (pushCells_keeps _ _)
 have old0:∀b o,G2.get? b=some o->(oV (G2.push {cls:=.type "dict",data:=.dict #[]}) scope.names).get? b=some o:=λb o e=>pushCells_keeps _ _ b o (E5 _ e)
 generalize oV (G2.push {cls:=.type "dict",data:=.dict #[]}) scope.names=h₁ at f1 hns₁ old0 ⊢;have old:∀b o,s2.heap.get? b=some o->h₁.get? b=some o:=λb o e=>old0 b o (hH2▸E5 _ e)
 have hacc:h₁.get? s2.heap.objs.size=some {cls:=.type "list",data:=.seq ([]:List c8).toArray 0}:=old0 _ _ (hH2▸S7 _ rfl);have hDn:∀b∈fp,b≠s2.heap.objs.size:=λb hb=>X5 (hlt b hb)
 have L:RY X scope cl s2.heap.objs.size:=⟨λx c e=>(f1 x c e).imp (λz=>⟨z.1,λy=>z.2 (.inr y)⟩) λz=>⟨z.1.resolve_left λy=>y,z.2.1⟩,λx z=>f4 x (z.elim (λz=>.inr (c2 _ z rfl)) λz=>.inl (.inr z)),f3⟩
 have nD:∀x c,cl.lookup x=some c->c≠s2.heap.objs.size:=λx c e z=>by
  rcases f1 x c e with ⟨y,_⟩|⟨_,_,o,y,yd⟩
  . obtain⟨v,q⟩:=I2.cell x c y;exact absurd q.lt (by rw[z];exact X6 _)
  . rw[z,hacc]at y;cases y;cases yd
 have J0:=VT (bs:=bs) (t':=s2.toks) I2 B L (λx c e z=>(f1 x c e).elim (λy=>by obtain⟨v,q⟩:=I2.cell x c y.1;exact absurd q.lt (Nat.not_lt.mpr z)) λy=>y.2.2) hCle f2 hlt old hns₁
 generalize hX:X4 X bs nb scope cl G2.objs.size fp s2 H2 pins=X' at J0;have fpB:∀{H':Hp} {pl:List (Addr×Obj)},(∀b∈fp,H' b=none)->(∀p∈pl,p.1∉fp)->∀b∈fp,kR X' pl H' b:=λ{H' pl} hz hp b hb=>by
  subst hX;refine⟨hz b hb,X5 (M8 (hlt b hb) hCle),J0.ok.yx b hb,.inl hb,J0.ok.Tu b hb |>.2,λp hq=>?_⟩
  rcases List.mem_append.mp hq with z|z
  . exact(f2 b hb).2.2.2.2.2 p z
  . intro e;exact hp p z (e▸hb)
 have Dfs:s2.heap.objs.size∉X'.fs:=λhb=>by
  subst hX;rcases List.mem_cons.mp (I2.qO _ hb)with z|z
  . exact absurd I2.lt (by rw[<-z];exact X6 _)
  . exact I2.QD (l5 _) z
 have Dcell:∀x c,X.env.cells.lookup x=some c->c≠s2.heap.objs.size:=λx c e z=>by obtain⟨v,q⟩:=I2.cell x c e;exact absurd q.lt (by rw[z];exact X6 _)
 have Dpin:∀p∈X.pn++pins,p.1≠s2.heap.objs.size:=λp hp=>X5 (B4 (I2.pin p hp).1)
 have Dloc:s2.heap.objs.size≠X'.env.locals:=λz=>hDC (z.trans (E6 (·.env.locals) hX).symm)
 have pinD:∀{σ':St} {H':Hp} {s':h8} {o:Obj},Inv X' [] σ' H' s'->s'.heap.get? s2.heap.objs.size=some o->H' s2.heap.objs.size=none->(∀v,o.data≠.cell v)->Inv X' [(s2.heap.objs.size,o)] σ' H' s':=λ{σ' H' s' o} I' e hz hd =>
  I'.ja λp hp=>by
   have ep:p=(s2.heap.objs.size,o):=by simpa using hp
   subst ep;exact⟨e,hz,Dloc,Dfs,hd⟩
 have loop:∀s₃:h8,s₃={s2 with heap:=h₁,toks:=s2.toks} ->
   codeAny (model X.prog X.w) X.A (.compLoop (.ListComp elt [⟨tg,iter,ifs,0⟩] scope pos) 0 (.ref it) (.ref s2.heap.objs.size) (oU scope cl G2.objs.size X.env))
    (rS (model X.prog X.w) X.A X.xe use R (.ref s2.heap.objs.size) G2.objs.size) s₃:=by
  rintro s₃ rfl;refine ES (λk s'=>∃(i:Nat) (ys:List V) (us:List c8) (z:Nat) (H':Hp),k=n-i+1/\i<=n/\us.length<=i/\Vals ys us/\Inv X' [(s2.heap.objs.size,{cls:=.type "list",data:=.seq us.toArray z})] (dX bs σ) H' s'/\tn i s'.heap/\(∀b∈fp,H' b=none)/\W i ys H') ?_ (n-0+1)
   ⟨0,[],[],0,H2,rfl,bN _,l5 _,.nil,pinD J0 hacc (I2.A7.fresh (l5 _)) (λv z=>by cases z),T.keep _ _ _ st2 λb _ o e=>old b o e,λb hb=>(f2 b hb).1,w0⟩
  rintro k s3 ⟨i,ys,us,z,H3,rfl,hin,hul,rv,I3,st3,fr3,w3⟩;have npl:∀p∈([(s2.heap.objs.size,{cls:=.type "list",data:=.seq us.toArray z})]:List (Addr×Obj)),p.1∉fp:=λp hp hm=>by
   have ep:p=(s2.heap.objs.size,{cls:=.type "list",data:=.seq us.toArray z}):=by simpa using hp
   subst ep;exact hDn _ hm rfl
  have eP:X'.prog=X.prog:=(E6 (·.prog) hX).symm;have eW:X'.w=X.w:=(E6 (·.w) hX).symm;have eK:X'.K=X.K:=(E6 (·.K) hX).symm;have eA:X'.A=X.A:=(E6 (·.A) hX).symm;have eC:X'.calm=true:=(E6 (·.calm) hX).symm.trans hc;rcases turn i ys H3 w3 with ⟨stop,fin⟩|⟨gon,hlt',step⟩
  . have hd:=T.done X' eP eW eK eC i _ s3 (dX bs σ) H3 (ic (model X.prog X.w) X.A (oU scope cl G2.objs.size X.env) λe s'=>rS (model X.prog X.w) X.A X.xe use R (.ref s2.heap.objs.size) G2.objs.size (.error e) s') I3 (fpB fr3 npl) st3 stop
    rw[eA]at hd;refine C4 hd λr s4 ⟨hr,I4⟩=>?_
    subst hr;obtain⟨m,hm,_⟩:=I4.loc;have pD:=I4.pin (s2.heap.objs.size,{cls:=.type "list",data:=.seq us.toArray z}) (M9 _ (mem_singleton.mpr rfl));have hCl:X'.env.locals=G2.objs.size:=(E6 (·.env.locals) hX).symm;have hm':s4.heap.Ns G2.objs.size m:=hCl▸hm;have hC0:H3 G2.objs.size=none:=hCl▸I4.free;have I5:Inv X pins σ H3 s4:=by
     have hos:s4.os=s2.os:=I4.os.trans (E6 (·.O5.os) hX).symm;have hun:Un (N5 X.stack) fp H2 H3 s2.heap s4.heap:=by have z:=I4.base;rw[<-hX]at z;exact z
     have hhk:bV X.prog X.w H3 s4.heap:=(E6 (λY:Cx=>bV Y.prog Y.w H3 s4.heap) hX).mpr I4.A7
     exact I2.ZF hos hun hhk I4.bare λb hb=>⟨(f2 b hb).2.2.2.1,(f2 b hb).2.1,(f2 b hb).2.2.2.2.1,(f2 b hb).2.2.2.2.2⟩
    have hys:ys.length<=B2:=by rw[rv.length];lia
    refine hfin s2.heap.objs.size G2.objs.size s4 _ _ (I5.Hw (o:=.lst ys) pD.2.1 (mL I2.lt) (.inr I2.sz) Dcell Dpin ⟨hys,us,z,rv,pD.1⟩) (fin _ pD.2.1) ⟨?_,mL (M8 I2.lt hCle),I2.QD hCle,.inr (P4 I2.sz hCle),λx c e q=>?_,λp hp q=>?_⟩ ⟨m,hm'⟩
    . rw[A3 (ie hDC)];exact hC0
    . obtain⟨v,q2⟩:=I2.cell x c e;exact absurd (M8 q2.lt (by rw[q];exact hCle)) (X6 _)
    . exact absurd (M8 (B4 (I2.pin p hp).1) (by rw[q];exact hCle)) (X6 _)
  . have hd:=T.item X' eP eW eK eC i _ s3 (dX bs σ) H3 (ic (model X.prog X.w) X.A (oU scope cl G2.objs.size X.env) λe s'=>rS (model X.prog X.w) X.A X.xe use R (.ref s2.heap.objs.size) G2.objs.size (.error e) s') I3 (fpB fr3 npl) st3 gon
    rw[eA]at hd;refine C4 hd λr s4 ⟨u,hr,h4⟩=>?_
    subst hr;refine C4 h4 λ_ s5 ⟨x,H5,I5,r5,y5,st5,fr5⟩=>?_
    have I5':=I5.pinned (fpB fr5 npl) (T.obj _ _ st5);have hq5:=go x (dX bs σ) H5 _ (step x H5 y5);have hgx:PG X' tg g:=hX▸hg _ _ _ _ _ _;have htx:vd X' ifs tt:=hX▸ht _ _ _ _ _ _;have hex:PE X' elt te:=hX▸he _ _ _ _ _ _;have hxe:∀e s',X'.xe e s'->False:=λe s' q=>(congrFun (congrFun (E6 (·.xe) hX) e) s').mpr q
    have eE:X'.env=oU scope cl G2.objs.size X.env:=(E6 (·.env) hX).symm;have w6:=hgx _ s5 (dX bs σ) H5 x u _ I5' r5 hq5;rw[eP,eW,eA,eE]at w6;refine cG w6 (λ_ s6 ⟨σ6,H6,I6,q6,l6,e6⟩=>?_) λ_ _ q=>(hxe _ _ q).elim
    have w7:=htx _ s6 σ6 H6 _ (ic (model X.prog X.w) X.A (oU scope cl G2.objs.size X.env) λe s'=>rS (model X.prog X.w) X.A X.xe use R (.ref s2.heap.objs.size) G2.objs.size (.error e) s') (λ_ _ q=>(hxe _ _ q).elim) I6 q6
    rw[eP,eW,eA,eE]at w7;refine C4 w7 λok s7 ⟨H7,I7,q7⟩=>?_
    have weak:∀{pl:List (Addr×Obj)} {H':Hp} {s':h8},Inv X' pl σ6 H' s'->Inv X' pl (dX bs σ) H' s':=λ{pl H' s'} I'=>I'.weak l6.symm λj v hj=>by
     by_cases hjn:j<bs.length
     . unfold dX at hj;rw[sD (by simpa using hjn),Ef,c7 hjn]at hj
       cases hj
     . rw[e6 j (Nc hjn)];exact hj
    have unp:∀{σ':St} {H':Hp} {s':h8},Inv X' ([(s2.heap.objs.size,({cls:=.type "list",data:=.seq us.toArray z}:Obj))]++qV fp s5.heap) σ' H' s' ->
      (∀b∈fp,∀o,s5.heap.get? b=some o->s'.heap.get? b=some o)/\(∀b∈fp,H' b=none)/\s'.heap.get? s2.heap.objs.size=some {cls:=.type "list",data:=.seq us.toArray z}/\H' s2.heap.objs.size=none:=λ{σ' H' s'} I'=>by
     refine⟨λb hb o e=>(I'.pin (b,o) (M9 _ (M9 _ (ll hb e)))).1,λb hb=>?_,?_,?_⟩
     . obtain⟨o,e,d⟩:=T.obj _ _ st5 b hb;exact(I'.pin (b,o) (M9 _ (M9 _ (ll hb e)))).2.1
     . exact(I'.pin (s2.heap.objs.size,{cls:=.type "list",data:=.seq us.toArray z}) (M9 _ (ia _ (mem_singleton.mpr rfl)))).1
     . exact(I'.pin (s2.heap.objs.size,{cls:=.type "list",data:=.seq us.toArray z}) (M9 _ (ia _ (mem_singleton.mpr rfl)))).2.1
    cases ok with
    |false =>
     obtain⟨k1,k2,k3,k4⟩:=unp I7;refine⟨n-(i+1)+1,by lia,i+1,ys,us,z,H7,rfl,hlt',by lia,rv,pinD (weak (I7.ja λp hp=>nomatch hp)) k3 k4 (λv q=>by cases q),T.keep _ _ _ st5 k1,k2,?_⟩
     simpa using q7
    |true =>
     have q7':te σ6 H7 λy H4=>W (i+1) (ys++[y]) H4:=by simpa using q7
     have w8:=hex _ s7 σ6 H7 _ I7 q7';rw[eP,eW,eA,eE]at w8;refine cG w8 (λuy s8 ⟨y,H8,I8,r8,q8⟩=>?_) λ_ _ q=>(hxe _ _ q).elim
     obtain⟨k1,k2,k3,k4⟩:=unp I8;refine append_at (hsz:=by rw[L4];lia) k3 λh9 sb9 g9=>?_
     have I8':Inv X' [] (dX bs σ) H8 s8:=weak (I8.ja λp hp=>nomatch hp)
     have eS:X'.O5=s2:=(E6 (·.O5) hX).symm;have ePn:X'.pn=X.pn++pins:=(E6 (·.pn) hX).symm;have eCl:X'.env.cells=cl:=(E6 (·.env.cells) hX).symm;have I9:Inv X' [] (dX bs σ) H8 {s8 with heap:=h9}:=I8'.turned (t':=s8.toks) (it:=s2.heap.objs.size) (λb o hb e=>sb9.extBut b o hb e) k4 Dloc (.inr (by rw[eS];exact l5 _))
      (λx c e=>nD x c (by rw[<-eCl];exact e)) (λp hp=>Dpin p (by rw[ePn]at hp;simpa using hp))
     refine⟨n-(i+1)+1,by lia,i+1,ys++[y],us++[uy],z+1,H8,rfl,hlt',by rw[hW,DZ];lia,rv.snoc r8,pinD I9 ?_ k4 (λv q=>by cases q),T.keep _ _ _ st5 λb hb o e=>?_,k2,q8⟩
     . rw[g9,List.push_toArray]
     . exact sb9.extBut b o (hDn b hb) (k1 b hb o e)
 exact codeAny_compStart_list (loop _ rfl) (T.self _ 0 _ _ _ (T.keep _ _ _ st2 λb _ o e=>old b o e) (loop _ rfl))
theorem Vj{bs nb:List Str}{pos:Pos}(hc:X.calm=true)(B:lG X bs nb scope)(hi:PI X tg iter wi)(go:nc bs.length g)(hg:∀cl C fp s H pins,PG (X4 X bs nb scope cl C fp s H pins) tg g)(ht:∀cl C fp s H pins,vd (X4 X bs nb scope cl C fp s H pins) ifs tt)(he:∀cl C fp s H pins,PE (X4 X bs nb scope cl C fp s H pins) elt te)(hs:∀x,eu iter X.env x=pure x:=by intro _;rfl):PE X (.ListComp elt [⟨tg,iter,ifs,0⟩] scope pos) (lg bs wi g tt te):=by
 intro pins s σ H Q I h;rw[eval_ListComp];refine EW (use:=none) hc B hi go hg ht he hs pins s σ H Q I h λD C s' H' f I' q fc ⟨m,hm⟩=>⟨m,hm,λh'' sb=>?_⟩
 exact⟨.ref D,H',I'.turned (t':=s'.toks) (it:=C) (λb o hb e=>sb.extBut b o hb e) fc.1 fc.2.1 fc.2.2.2.1 fc.2.2.2.2.1 fc.2.2.2.2.2,rfl,q⟩
theorem FW{bs nb:List Str}{cpos pos pos':Pos}{i:Nat}{x:Str}(hN:X.N.Nodup)(hi':X.N[i]? = some x)(hx:Loc X.env.scope x)(hc:X.calm=true)(B:lG X bs nb scope)(hi:PI X tg iter wi)(go:nc bs.length g)(hg:∀cl C fp s H pins,PG (X4 X bs nb scope cl C fp s H pins) tg g)(ht:∀cl C fp s H pins,vd (X4 X bs nb scope cl C fp s H pins) ifs tt)(he:∀cl C fp s H pins,PE (X4 X bs nb scope cl C fp s H pins) elt te)(hsw:aK (.ListComp elt [⟨tg,iter,ifs,0⟩] scope cpos) (some (.Name x pos')) pos.line X.env=pure true:=by rfl)(hf:X.fn x=true\/X.env.scope.names.lookup x=some .local:=by first|exact .inl rfl|exact .inr rfl|assumption)(hs:∀x,eu iter X.env x=pure x:=by intro _;rfl):PS X (.Assign [.Name x pos'] (.ListComp elt [⟨tg,iter,ifs,0⟩] scope cpos) pos) (lO (lg bs wi g tt te) (Y8 i)):=by
 intro pins s σ H D I h;rw[exec_Assign_Name_used _ _ _ _ hsw];refine wpAny_bind (Dl ?_);rw[arm_evalThenUse_ListComp];refine wpAny_bind (wpAny_bind (C4 (EW (R:=λ_ s'=>SP X pins D .next s') (use:=some (assign (.Name x pos') X.env)) hc B hi go hg ht he hs pins s σ H _ I h λD' C s' H' f I' q fc ⟨m,hm⟩=>?_) λ_ s' hsp=>n9 (n9 hsp)))
 obtain⟨oC,es,ep,ho,hd,hr⟩:=id hm;have I2:Inv X ((C,oC)::pins) σ H' s':=I'.ja λp hp=>by
  rcases List.mem_cons.mp hp with rfl|hp
  . exact⟨ho,fc.1,fc.2.1,fc.2.2.1,λv z=>by rw[hd]at z;cases z⟩
  . exact I'.pin p (M9 _ hp)
 refine C4 (FY (pos:=pos') hN hi' hx hf ((C,oC)::pins) s' σ H' (.ref D') (.ref D') D.nx I2 rfl q) λ_ s'' ⟨σ',H'',I3,q3⟩=>?_
 have pC:=I3.pin (C,oC) (M9 _ B7);have I4:Inv X pins σ' H'' s'':=I3.ja λp hp=>I3.pin p (M9 _ (A0 _ hp))
 refine⟨m,⟨oC,es,ep,pC.1,hd,hr⟩,λh'' sb=>⟨σ',H'',?_,q3⟩⟩
 exact I4.turned (t':=s''.toks) (it:=C) (λb o hb e=>sb.extBut b o hb e) pC.2.1 fc.2.1 fc.2.2.2.1 fc.2.2.2.2.1 fc.2.2.2.2.2
end
section
variable{kd k1 k2:Bool}{h h':Heap}{k t':Nat}{xs ys:Array c8}{it t z i1 i2 l1 l2 a:Addr}{Q:c8->h8->Prop}{X:Cx}{pins:List (Addr×Obj)}{σ:St}{H:Hp}{K:i5}
section
variable{prog:B1}{w:t9}{A:A2}{E:c8->h8->Prop}{s:h8}
def iT(kd:Bool)(h:Heap)(i l:Addr)(k:Nat):Prop:=match kd with
 |true=>h.IsTupleIter i l k
 |false=>h.IsListIter i l k
def kY(kd:Bool)(h:Heap)(i l:Addr)(k:Nat)(xs:Array c8):Prop:=match kd with
 |true=>h.IsTupleIter i l k/\h.IsTuple l xs
 |false=>h.IsListIter i l k/\h.IsList l xs
theorem iT.at{kd:Bool}{h h':Heap}{i l:Addr}{k:Nat}(x:iT kd h i l k)(e:∀o,h.get? i=some o->h'.get? i=some o):iT kd h' i l k:=by
 cases kd
 . exact Heap.IsListIter.at (show h.IsListIter i l k from x) e
 . exact Heap.IsTupleIter.at (show h.IsTupleIter i l k from x) e
theorem iT.obj{i l:Addr}(x:iT kd h i l k):∃o,h.get? i=some o/\∀v,o.data≠.cell v:=by
 cases kd
 . obtain⟨o,e,_,d⟩:=(show h.IsListIter i l k from x)
   exact⟨o,e,λv z=>by rw[d]at z;cases z⟩
 . obtain⟨o,e,_,d⟩:=(show h.IsTupleIter i l k from x)
   exact⟨o,e,λv z=>by rw[d]at z;cases z⟩
theorem kY.kept{i l:Addr}(x:kY kd h i l k xs)(e:∀b o,b=i\/b=l->h.get? b=some o->h'.get? b=some o):kY kd h' i l k xs:=by
 cases kd
 . obtain⟨x,⟨o,eo,r⟩⟩:=(show h.IsListIter i l k/\h.IsList l xs from x)
   exact⟨x.at λo q=>e i o (.inl rfl) q,⟨o,e l o (.inr rfl) eo,r⟩⟩
 . obtain⟨x,⟨o,eo,r⟩⟩:=(show h.IsTupleIter i l k/\h.IsTuple l xs from x)
   exact⟨x.at λo q=>e i o (.inl rfl) q,⟨o,e l o (.inr rfl) eo,r⟩⟩
theorem Iq{i:Nat}{x:c8}(hit:s.heap.IsTupleIter it t i)(ht:s.heap.IsTuple t xs)(hx:xs[i]? = some x)(hQ:∀h',h'.IsTupleIter it t (i+1)->rX it s.heap h'->Q x {s with heap:=h'}):wpAny (model prog w) A (jB (.ref it)) Q E s:=by
 obtain⟨oi,ei,ci,di⟩:=id hit;obtain⟨ot,et,_,n,dt⟩:=ht;delta jB;refine wpAny_bind (qx (name:=dG "__next__") hit.typeIs xK
  (kq xK hit.typeIs Ov ?_ (Ow _)))
 show wpAny _ _ (field (.ref it) 0 >>= _) _ _ s
 refine wpAny_bind (bx ei di (x:=.ref t) rfl ?_);show wpAny _ _ (if (aL t==fJ)=true then _ else _) _ _ s
 rw[c9 (show ¬((aL t==fJ)=true)from Q9)]
 show wpAny _ _ (field (.ref it) 1 >>= _) _ _ s
 refine wpAny_bind (bx ei di (x:=.int i 0) rfl ?_);show wpAny _ _ (seqItems? (.ref t) >>= _) _ _ s
 refine wpAny_bind (ki et dt ?_);simp only[Q8,hx];refine wpAny_bind (wpAny_setField ei di (by simp) (n9 ⟨x,rfl,n9 (hQ _ ?_ (NF ..))⟩))
 refine⟨_,NQ _ ei (Obj.isFreed_of_fields (Nx di _)),(Obj.cls_mapFields ..).trans ci,?_⟩;rw[Nx di];simp[jV]
theorem Lm{i:Nat}(hh:A.handled=none)(hit:s.heap.IsTupleIter it t i)(ht:s.heap.IsTuple t xs)(hx:xs[i]? = none)(hE:∀h' e,Heap.ExtBut it s.heap h'->(∃o,h'.get? e=some o/\o.cls=.type "StopIteration")->E (.ref e) {s with heap:=h'}):wpAny (model prog w) A (jB (.ref it)) Q E s:=by
 obtain⟨oi,ei,ci,di⟩:=id hit;obtain⟨ot,et,_,n,dt⟩:=ht;delta jB;refine wpAny_bind (qx (name:=dG "__next__") hit.typeIs xK
  (kq xK hit.typeIs Ov ?_ (Ow _)))
 show wpAny _ _ (field (.ref it) 0 >>= _) _ _ s
 refine wpAny_bind (bx ei di (x:=.ref t) rfl ?_);show wpAny _ _ (if (aL t==fJ)=true then _ else _) _ _ s
 rw[c9 (show ¬((aL t==fJ)=true)from Q9)]
 show wpAny _ _ (field (.ref it) 1 >>= _) _ _ s
 refine wpAny_bind (bx ei di (x:=.int i 0) rfl ?_);show wpAny _ _ (seqItems? (.ref t) >>= _) _ _ s
 refine wpAny_bind (ki et dt ?_);simp only[Q8,hx];refine wpAny_bind (oX (wpAny_bind (wpAny_setField ei di (by simp) ?_)))
 show wpAny _ _ (newExc (.type "StopIteration") [] >>= _) _ _ _
 refine wpAny_bind ?_;simp only[newExc,newTuple];refine wpAny_bind (mX ?_ (by size_fits))
 refine wpAny_bind (m:=firstArgMember _ _) (wpAny_of_eq (a:=fJ) (by first|rfl|(simp only[firstArgMember];rfl)) ?_)
 refine mX ?_ (by size_fits)
 simp only[raiseNew];refine wpAny_bind (wpAny_handled ?_);rw[hh];refine wpAny_throw (hE _ _ (λb o hb e=>?_) ⟨_,S7 _ rfl,rfl⟩)
 exact E5 _ (E5 _ ((NF ..).extBut b o hb e))
theorem lj{l:Addr}{i:Nat}{x:c8}(h:kY kd s.heap it l i xs)(hne:l≠it)(hx:xs[i]? = some x)(hQ:∀h',iT kd h' it l (i+1)->rX it s.heap h'->Q x {s with heap:=h'}):wpAny (model prog w) A (jB (.ref it)) Q E s:=by
 cases kd
 . exact wpAny_nextOf_list_item h.1 h.2 hx λh' a' sb=>hQ h' a' sb
 . exact Iq h.1 h.2 hx λh' a' sb=>hQ h' a' sb
theorem nH{l:Addr}{i:Nat}(hh:A.handled=none)(h:kY kd s.heap it l i xs)(hx:xs[i]? = none)(hE:∀h' e,Heap.ExtBut it s.heap h'->(∃o,h'.get? e=some o/\o.cls=.type "StopIteration")->E (.ref e) {s with heap:=h'}):wpAny (model prog w) A (jB (.ref it)) Q E s:=by
 cases kd
 . exact wpAny_nextOf_list_end hh h.1 h.2 hx hE
 . exact Lm hh h.1 h.2 hx hE
theorem Ju {TI TO:Addr} {x y a b:c8} {Q:Option c8->h8->Prop} (D:ZipApart z TI TO i1 i2 l1 l2) (hz:cC s.heap z TI TO .none) (tW:aP s.heap TI (.ref i1) (.ref i2)) (zx:aP s.heap TO a b) (h1:kY k1 s.heap i1 l1 k xs) (h2:kY k2 s.heap i2 l2 k ys) (hx:xs[k]? = some x) (hy:ys[k]? = some y) (hQ:∀h',cC h' z TI TO (jV s.heap.objs.size)->aP h' TO x y->iT k1 h' i1 l1 (k + 1)->iT k2 h' i2 l2 (k + 1)->aP h' s.heap.objs.size x y ->
   (∀c o,c≠z->c≠TO->c≠i1->c≠i2->s.heap.get? c=some o->h'.get? c=some o)->Q (some (.ref s.heap.objs.size)) {s with heap:=h'}) :
  wpAny (model prog w) A (jW (.ref z)) Q E s:=by
 have hT:s.TypeIs (.ref z) "zip":=⟨_,hz,rfl⟩;delta jW;refine wpAny_bind (wY (qx (name:=dG "__next__") hT xl (kq xl hT F.entry_zip_next ?_ (F.args_zip_next_1 _))));show wpAny _ _ (field (.ref z) 2 >>= _) _ _ _
 refine wpAny_bind (bx hz rfl (x:=.bool false) rfl ?_);show wpAny _ _ (field (.ref z) 3 >>= _) _ _ _
 refine wpAny_bind (bx hz rfl (x:=.ref TI) rfl (wpAny_bind (ki tW rfl ?_)));show wpAny _ _ (xO (.ref z) >>= _) _ _ _
 refine wpAny_bind ?_;delta xO;refine wpAny_bind (bx hz rfl (x:=.none) rfl (n9 ?_));simp only[w9];refine wpAny_bind (oX (wpAny_bind (bx hz rfl (x:=.ref TO) rfl (wpAny_bind (pG hz (by simp) λg1 z1 b1=>?_)))))
 replace z1:cC g1 z TI TO .ellipsis:=z1;refine wpAny_bind ?_;simp only[Nb,MP,xm,xb];refine wpAny_bind (wpAny_bind (wX ?_));show wpAny _ _ (jB (.ref i1) >>= _) _ _ _
 have q1:kY k1 g1 i1 l1 k xs:=h1.kept λc o hc e=>b1.extBut c o (by rcases hc with rfl|rfl;exact D.i1z;exact D.l1z) e
 refine wpAny_bind (lj q1 D.l1i1 hx λg2 p1 b2=>n9 ?_)
 have t2:aP g2 TO a b:=b2.extBut _ _ D.TOi1 (b1.extBut _ _ D.TOz zx);refine wpAny_bind (ki t2 rfl (wpAny_bind (DX t2 λg3 t3 b3=>?_)))
 replace t3:aP g3 TO x b:=t3;refine wpAny_bind (wpAny_letGo (n9 ?_));refine wpAny_bind (wpAny_bind (wX ?_));show wpAny _ _ (jB (.ref i2) >>= _) _ _ _
 have q2:kY k2 g3 i2 l2 k ys:=h2.kept λc o hc e=>by
  have n1:c≠z:=by rcases hc with rfl|rfl;exact D.i2z;exact D.l2z
  have n2:c≠i1:=by rcases hc with rfl|rfl;exact D.i12.symm;exact D.l2i1
  have n3:c≠TO:=by rcases hc with rfl|rfl;exact D.TOi2.symm;exact D.l2TO
  exact b3.extBut c o n3 (b2.extBut c o n2 (b1.extBut c o n1 e))
 refine wpAny_bind (lj q2 D.l2i2 hy λg4 p2 b4=>n9 ?_)
 have t4:aP g4 TO x b:=b4.extBut _ _ D.TOi2 t3;refine wpAny_bind (ki t4 rfl (wpAny_bind (DX t4 λg5 t5 b5=>?_)))
 replace t5:aP g5 TO x y:=t5;refine wpAny_bind (wpAny_letGo (n9 (n9 (wpAny_bind (ki t5 rfl (wpAny_bind (wpAny_newTuple ?_)))))));have sz:g5.objs.size=s.heap.objs.size:=by rw[b5.1,b4.1,b3.1,b2.1,b1.1]
 have z5:cC g5 z TI TO .ellipsis:=b5.extBut _ _ D.TOz.symm (b4.extBut _ _ D.i2z.symm (b3.extBut _ _ D.TOz.symm (b2.extBut _ _ D.i1z.symm z1)));have k5:∀c o,c≠z->c≠TO->c≠i1->c≠i2->s.heap.get? c=some o->g5.get? c=some o:=λc o c1 c2 c3 c4 e =>
  b5.extBut _ _ c2 (b4.extBut _ _ c4 (b3.extBut _ _ c2 (b2.extBut _ _ c3 (b1.extBut _ _ c1 e))))
 have p1':iT k1 g5 i1 l1 (k+1):=p1.at λo e=>b5.extBut _ _ D.TOi1.symm (b4.extBut _ _ D.i12 (b3.extBut _ _ D.TOi1.symm e))
 have p2':iT k2 g5 i2 l2 (k+1):=p2.at λo e=>b5.extBut _ _ D.TOi2.symm e
 show wpAny _ _ (Oy (.ref z) (.ref g5.objs.size) >>= _) _ _ _
 refine wpAny_bind ?_;delta Oy;have z6:cC (g5.push {cls:=.type "tuple",data:=.seq #[x,y]}) z TI TO .ellipsis:=E5 _ z5;refine wpAny_bind (pG z6 (by simp) λg7 z7 b7=>?_)
 replace z7:cC g7 z TI TO (jV g5.objs.size):=z7;refine pG z7 (by simp) λg8 z8 b8=>?_
 replace z8:cC g8 z TI TO (jV g5.objs.size):=z8;have up:∀c o,c≠z->g5.get? c=some o->g8.get? c=some o:=λc o c1 e=>b8.extBut _ _ c1 (b7.extBut _ _ c1 (E5 _ e))
 have nz:g5.objs.size≠z:=mL (B4 z5);have t8:aP g8 g5.objs.size x y:=b8.extBut _ _ nz (b7.extBut _ _ nz (S7 _ rfl));rw[sz]at z8 t8;refine n9 ⟨_,rfl,n9 ?_⟩;show Q (some (.ref g5.objs.size)) _
 rw[sz];exact hQ g8 z8 (up _ _ D.TOz t5) (p1'.at λo e=>up _ o D.i1z e) (p2'.at λo e=>up _ o D.i2z e) t8 λc o c1 c2 c3 c4 e=>up c o c1 (k5 c o c1 c2 c3 c4 e)
theorem OB{TI TO:Addr}{a b:c8}{Q:Option c8->h8->Prop}(hh:A.handled=none)(D:ZipApart z TI TO i1 i2 l1 l2)(hz:cC s.heap z TI TO .none)(tW:aP s.heap TI (.ref i1) (.ref i2))(zx:aP s.heap TO a b)(h1:kY k1 s.heap i1 l1 k xs)(h2:kY k2 s.heap i2 l2 k ys)(hend:xs[k]? = none\/ys[k]? = none)(hQ:∀h',(∀c o,c≠z->c≠TO->c≠i1->c≠i2->s.heap.get? c=some o->h'.get? c=some o)->Q none {s with heap:=h'}):
  wpAny (model prog w) A (jW (.ref z)) Q E s:=by
 have hT:s.TypeIs (.ref z) "zip":=⟨_,hz,rfl⟩;delta jW;refine wpAny_bind (wY (qx (name:=dG "__next__") hT xl (kq xl hT F.entry_zip_next ?_ (F.args_zip_next_1 _))));have fin:∀(g:Heap) (e:Addr),(∀c o,c≠z->c≠TO->c≠i1->c≠i2->s.heap.get? c=some o->g.get? c=some o)->(∃o,g.get? e=some o/\o.cls=.type "StopIteration") ->
   wpAny (model prog w) A (do if <- isInstance (.ref e) (.type "StopIteration")then pure none else throw (.ref e)) Q E {s with heap:=g}:=λg e hk ⟨o,ho,hc⟩ =>
  wpAny_bind (wpAny_isInstance (T:="StopIteration") (b:=true) ⟨o,ho,hc⟩ isSubtype_stop (n9 (hQ _ hk)))
 show wpAny _ _ (field (.ref z) 2 >>= _) _ _ _
 refine wpAny_bind (bx hz rfl (x:=.bool false) rfl ?_);show wpAny _ _ (field (.ref z) 3 >>= _) _ _ _
 refine wpAny_bind (bx hz rfl (x:=.ref TI) rfl (wpAny_bind (ki tW rfl ?_)));show wpAny _ _ (xO (.ref z) >>= _) _ _ _
 refine wpAny_bind ?_;delta xO;refine wpAny_bind (bx hz rfl (x:=.none) rfl (n9 ?_));simp only[w9];refine wpAny_bind (oX (wpAny_bind (bx hz rfl (x:=.ref TO) rfl (wpAny_bind (pG hz (by simp) λg1 z1 b1=>?_)))))
 replace z1:cC g1 z TI TO .ellipsis:=z1;refine wpAny_bind ?_;simp only[Nb,MP,xm,xb];refine wpAny_bind (wpAny_bind (wX ?_));show wpAny _ _ (jB (.ref i1) >>= _) _ _ _
 have q1:kY k1 g1 i1 l1 k xs:=h1.kept λc o hc e=>b1.extBut c o (by rcases hc with rfl|rfl;exact D.i1z;exact D.l1z) e
 cases hx:xs[k]? with
 |none =>
  refine wpAny_bind (nH hh q1 hx λg2 e b2 he=>?_)
  obtain⟨oe,eo,ce⟩:=he;have z2:cC g2 z TI TO .ellipsis:=b2 _ _ D.i1z.symm z1;have ne:e≠z:=λq=>by subst q;rw[z2]at eo;cases eo;simp at ce
  refine pG z2 (by simp) λg3 _ b3=>fin g3 e (λc o c1 _ c3 _ q=>b3.extBut _ _ c1 (b2 _ _ c3 (b1.extBut _ _ c1 q))) ⟨oe,b3.extBut _ _ ne eo,ce⟩
 |some x =>
  have hy:ys[k]? = none:=by
   rcases hend with h|h
   . rw[hx]at h;cases h
   . exact h
  refine wpAny_bind (lj q1 D.l1i1 hx λg2 p1 b2=>n9 ?_)
  have t2:aP g2 TO a b:=b2.extBut _ _ D.TOi1 (b1.extBut _ _ D.TOz zx);refine wpAny_bind (ki t2 rfl (wpAny_bind (DX t2 λg3 t3 b3=>?_)))
  refine wpAny_bind (wpAny_letGo (n9 ?_));refine wpAny_bind (wpAny_bind (wX ?_));show wpAny _ _ (jB (.ref i2) >>= _) _ _ _
  have q2:kY k2 g3 i2 l2 k ys:=h2.kept λc o hc e=>by
   have n1:c≠z:=by rcases hc with rfl|rfl;exact D.i2z;exact D.l2z
   have n2:c≠i1:=by rcases hc with rfl|rfl;exact D.i12.symm;exact D.l2i1
   have n3:c≠TO:=by rcases hc with rfl|rfl;exact D.TOi2.symm;exact D.l2TO
   exact b3.extBut c o n3 (b2.extBut c o n2 (b1.extBut c o n1 e))
  refine wpAny_bind (nH hh q2 hy λg4 e b4 he=>?_)
  obtain⟨oe,eo,ce⟩:=he;have z4:cC g4 z TI TO .ellipsis:=b4 _ _ D.i2z.symm (b3.extBut _ _ D.TOz.symm (b2.extBut _ _ D.i1z.symm z1));have ne:e≠z:=λq=>by subst q;rw[z4]at eo;cases eo;simp at ce
  refine pG z4 (by simp) λg5 _ b5=>fin g5 e (λc o c1 c2 c3 c4 q=>b5.extBut _ _ c1 (b4 _ _ c4 (b3.extBut _ _ c2 (b2.extBut _ _ c3 (b1.extBut _ _ c1 q))))) ⟨oe,b5.extBut _ _ ne eo,ce⟩
end
def MI(K:i5)(H:Hp)(a:Addr)(xs:List V):Prop:=D9 K H a xs\/N6 K H a xs
theorem MI.ne{s:h8}{b:Addr}{xs:List V}(I:Inv X pins σ H s)(h:MI X.K H a xs)(f:kR X pins H b):a≠b:=by
 have tr:∀{u:HO},Rd H a u->a≠b:=λ{u} r=>by
  rcases r with r|⟨o,r⟩
  . exact Y7 r f.1
  . exact Y7 r f.1
 have kk:∀{o:Obj},X.K.lookup a=some o->a≠b:=λ{o} e z=>by
  have eb:X.base.get? a=some o:=I.ok.mod.GA a o e;rcases f.2.2.2.1 with q|q
  . exact I.ok.uF a o eb (z▸q)
  . exact absurd (M8 (B4 eb) (P4 I.ok.qH (by rw[z];exact q))) (X6 _)
 rcases h with (r|⟨o,_,_,e,_⟩)|(r|⟨o,_,_,e,_⟩)
 . exact tr r
 . exact kk e
 . exact tr r
 . exact kk e
theorem Gg(h1:h.IsList a xs)(h2:h.IsTuple a ys):False:=by obtain⟨o,e,c,_⟩:=h1;obtain⟨o',e',c',_⟩:=h2;rw[e]at e';cases e';rw[c]at c';exact absurd c' (by decide)
theorem Inv.Pc{s:h8}{xs ys:List V}(I:Inv X pins σ H s)(h:MI X.K H a xs)(h':MI X.K H a ys):xs=ys:=by
 rcases h with h|h<;>rcases h' with h'|h'
 . exact I.BA h h'
 . obtain⟨_,_,p,_⟩:=I.list h;obtain⟨_,_,q,_⟩:=I.tuple h';exact(Gg p.isList q).elim
 . obtain⟨_,_,p,_⟩:=I.list h';obtain⟨_,_,q,_⟩:=I.tuple h;exact(Gg p.isList q).elim
 . exact I.yN h h'
theorem Inv.sJ{s:h8}{ch:List Addr}(I:Inv X pins σ H s)(k:∀b o,b∉ch->s.heap.get? b=some o->h'.get? b=some o)(hn:∀b∈ch,kR X pins H b):Inv X pins σ H {s with heap:=h',toks:=t'}:=by
 have nit:∀b u,H b=some u->b∉ch:=λb u e z=>by rw[(hn b z).1]at e;cases e
 refine I.step (g':=s.gens) (d':=s.drawn) (ch:=ch) (λb hb=>?_) (λb o _ _ hc e _=>k b o hc e) (λb o _ _ hc e _=>⟨o.slots,k b o hc e⟩) (λ_ _ _ _ n=>n)
  (λb o hc e=>⟨o,k b o hc e⟩) (λ_ _ e=>e) (λ_ _ _ e=>e) (λb ps e=>⟨#[],by rw[e];simp⟩) (λm hm=>?_) (λb u e=>?_) I.bare
 . obtain⟨_,f1,_,f3,f4,f5⟩:=hn b hb;exact⟨f3,f1,f4,f5⟩
 . obtain⟨o,es,ep,ho,r⟩:=hm;exact⟨o,es,ep,k _ o (λz=>(hn _ z).2.1 rfl) ho,r⟩
 . refine(I.A7 b u e).qP (λc v hc q=>k c v ?_ q) (λ_ q=>q) λ_ _ q=>q
   rcases hc with z|z
   . rw[z];exact nit b u e
   . exact nit c _ z
def cA(kd:Bool)(K:i5)(H:Hp)(a:Addr)(xs:List V):Prop:=match kd with
 |true=>N6 K H a xs
 |false=>D9 K H a xs
theorem cA.x{xs:List V}(h:cA kd K H a xs):MI K H a xs:=by
 cases kd
 . exact .inl h
 . exact .inr h
theorem Inv.Fy{s:h8}{i:Addr}{xs:List V}(I:Inv X pins σ H s)(h:cA kd X.K H a xs)(it:iT kd s.heap i a k):∃its:List c8,Vals xs its/\kY kd s.heap i a k its.toArray:=by
 cases kd
 . obtain⟨its,rv,p,hz⟩:=I.list h;exact⟨its,rv,it,p.isList⟩
 . obtain⟨its,rv,p,hz⟩:=I.tuple h;exact⟨its,rv,it,p⟩
def ZZ(k1 k2:Bool)(K:i5)(a b:Addr):It :=
 ⟨λi H=>∃xs ys x y,cA k1 K H a xs/\cA k2 K H b ys/\xs[i]? = some x/\ys[i]? = some y,
  λi H v H'=>∃p,v=.ref p/\H p=none/\∃x y,H'=upd H p (.tup [x,y])/\∀xs ys,cA k1 K H a xs->cA k2 K H b ys->xs[i]? = some x/\ys[i]? = some y,
  λi H=>∃xs ys,cA k1 K H a xs/\cA k2 K H b ys/\(xs.length<=i\/ys.length<=i)⟩
structure TK(k1 k2:Bool)(z TI TO i1 i2 a b:Addr)(i:Nat)(h:Heap):Prop where
 hz:cC h z TI TO .none
 tW:aP h TI (.ref i1) (.ref i2)
 zx:∃x y,aP h TO x y
 h1:iT k1 h i1 a i
 h2:iT k2 h i2 b i
structure YJ(z TI TO i1 i2:Addr):Prop where
 TIz:TI≠z
 TOz:TO≠z
 i1z:i1≠z
 i2z:i2≠z
 TITO:TI≠TO
 TIi1:TI≠i1
 TIi2:TI≠i2
 TOi1:TO≠i1
 TOi2:TO≠i2
 i12:i1≠i2
theorem cA.inj{s:h8}{xs ys:List V}(I:Inv X pins σ H s)(h:cA kd X.K H a xs)(h':cA kd X.K H a ys):xs=ys:=I.Pc h.x h'.x
theorem OJ{P:B1}{w:t9}{es:List Expr}{pos:Pos}{TI TO b:Addr}(D:YJ z TI TO i1 i2):
  Turn P w K (.Tuple es k pos) (ZZ k1 k2 K a b) [z,TI,TO,i1,i2] z (λi h=>TK k1 k2 z TI TO i1 i2 a b i h) where
 mem:=by simp
 obj:=λi h st c hc=>by
  have hc':c=z\/c=TI\/c=TO\/c=i1\/c=i2:=by simpa using hc
  rcases hc' with rfl|rfl|rfl|rfl|rfl
  . exact⟨_,st.hz,λv q=>by cases q⟩
  . exact⟨_,st.tW,λv q=>by cases q⟩
  . obtain⟨x,y,e⟩:=st.zx;exact⟨_,e,λv q=>by cases q⟩
  . exact st.h1.obj
  . exact st.h2.obj
 keep:=λi h h' st kk=>by obtain⟨x,y,e⟩:=st.zx;exact⟨kk z (by simp) _ st.hz,kk TI (by simp) _ st.tW,⟨x,y,kk TO (by simp) _ e⟩,st.h1.at λo q=>kk i1 (by simp) o q,st.h2.at λo q=>kk i2 (by simp) o q⟩
 item:=by
  intro X hP hw hK hc i pins s σ H E I hf st hg;subst hP hw hK;obtain⟨xs,ys,x,y,sx,sy,ex,ey⟩:=hg;obtain⟨us,rx,ox⟩:=I.Fy sx st.h1;obtain⟨vs,ry,oy⟩:=I.Fy sy st.h2;obtain⟨u,hu,ru⟩:=rx.get ex;obtain⟨v,hv,rvv⟩:=ry.get ey;obtain⟨x0,y0,eTO⟩:=st.zx;have fz:=hf z (by simp)
  have fTO:=hf TO (by simp)
  have f1:=hf i1 (by simp)
  have f2:=hf i2 (by simp)
  have ZA:ZipApart z TI TO i1 i2 a b:=⟨D.TIz,D.TOz,D.i1z,D.i2z,D.TITO,D.TIi1,D.TIi2,D.TOi1,D.TOi2,D.i12,sx.x.ne I fz,sx.x.ne I fTO,sx.x.ne I f1,sx.x.ne I f2,sy.x.ne I fz,sy.x.ne I fTO,sy.x.ne I f1,sy.x.ne I f2⟩;refine Ju ZA st.hz st.tW eTO ox oy (x:=u) (y:=v) (by simpa using hu) (by simpa using hv) λh' g1 g2 g3 g4 g5 g6=>?_
  have hT:H s.heap.objs.size=none:=I.A7.fresh (l5 _);have I1:Inv X pins σ H {s with heap:=h'}:=I.sJ (t':=s.toks) (ch:=[z,TO,i1,i2]) (λc o hc e=>g6 c o (λq=>hc (by simp[q])) (λq=>hc (by simp[q])) (λq=>hc (by simp[q])) (λq=>hc (by simp[q])) e)
   (λc hc=>hf c (by
    have hc':c=z\/c=TO\/c=i1\/c=i2:=by simpa using hc
    rcases hc' with rfl|rfl|rfl|rfl<;>simp))
  have hTloc:s.heap.objs.size≠X.env.locals:=mL I.lt;have I2:Inv X pins σ (upd H s.heap.objs.size (.tup [x,y])) {s with heap:=h'}:=I1.Hw hT hTloc (.inr I.sz)
   (λn c e q=>by obtain⟨vv,q2⟩:=I.cell n c e;exact absurd q2.lt (by rw[q];exact X6 _))
   (λp hp q=>absurd (B4 (I.pin p hp).1) (by rw[q];exact X6 _))
   ⟨by show 2<=B2;rw[iu];decide,[u,v],.cons ru (.cons rvv .nil),⟨_,g5,rfl,_,rfl⟩⟩
  refine⟨_,rfl,wpAny_letOwnedTupleGo_zip g1 λh2 z2 b2=>?_⟩
  have zl:z<s.heap.objs.size:=B4 st.hz;have uz:∀c,c∈[z,TI,TO,i1,i2]->(upd H s.heap.objs.size (.tup [x,y])) c=none:=λc hc=>by
   have hlt:c<s.heap.objs.size:=by
    have hc':c=z\/c=TI\/c=TO\/c=i1\/c=i2:=by simpa using hc
    rcases hc' with rfl|rfl|rfl|rfl|rfl
    . exact zl
    . exact B4 st.tW
    . exact B4 eTO
    . obtain⟨o,e,_⟩:=st.h1.obj;exact B4 e
    . obtain⟨o,e,_⟩:=st.h2.obj;exact B4 e
   rw[A3 (X5 hlt)];exact(hf c hc).1
  have I3:Inv X pins σ (upd H s.heap.objs.size (.tup [x,y])) {s with heap:=h2}:=Inv.turned (s:={s with heap:=h'}) I2 (t':=s.toks) (it:=z) (λc o hc e=>b2.extBut c o hc e) (uz z (by simp)) fz.2.1 fz.2.2.2.1 fz.2.2.2.2.1 fz.2.2.2.2.2
  refine⟨.ref s.heap.objs.size,_,I3,rfl,⟨_,rfl,hT,x,y,rfl,λxs' ys' hx' hy'=>?_⟩,⟨z2,b2.extBut _ _ D.TIz (g6 _ _ D.TIz D.TITO D.TIi1 D.TIi2 st.tW),⟨_,_,b2.extBut _ _ D.TOz g2⟩,?_,?_⟩,uz⟩
  . rw[hx'.inj I sx,hy'.inj I sy];exact⟨ex,ey⟩
  . exact g3.at λo q=>b2.extBut _ _ D.i1z q
  . exact g4.at λo q=>b2.extBut _ _ D.i2z q
 done:=by
  intro X hP hw hK hc i pins s σ H E I hf st hg;subst hP hw hK;obtain⟨xs,ys,sx,sy,hend⟩:=hg;obtain⟨us,rx,ox⟩:=I.Fy sx st.h1;obtain⟨vs,ry,oy⟩:=I.Fy sy st.h2;obtain⟨x0,y0,eTO⟩:=st.zx;have fz:=hf z (by simp)
  have fTO:=hf TO (by simp)
  have f1:=hf i1 (by simp)
  have f2:=hf i2 (by simp)
  have ZA:ZipApart z TI TO i1 i2 a b:=⟨D.TIz,D.TOz,D.i1z,D.i2z,D.TITO,D.TIi1,D.TIi2,D.TOi1,D.TOi2,D.i12,sx.x.ne I fz,sx.x.ne I fTO,sx.x.ne I f1,sx.x.ne I f2,sy.x.ne I fz,sy.x.ne I fTO,sy.x.ne I f1,sy.x.ne I f2⟩;have lx:=rx.length;have ly:=ry.length;refine OB (I.ok.hd hc) ZA st.hz st.tW eTO ox oy ?_ λh' g6=>⟨rfl,?_⟩
  . rcases hend with q|q
    . exact .inl (by simp;lia)
    . exact .inr (by simp;lia)
  . exact I.sJ (t':=s.toks) (ch:=[z,TO,i1,i2]) (λc o hc e=>g6 c o (λq=>hc (by simp[q])) (λq=>hc (by simp[q])) (λq=>hc (by simp[q])) (λq=>hc (by simp[q])) e)
      (λc hc=>hf c (by
       have hc':c=z\/c=TO\/c=i1\/c=i2:=by simpa using hc
       rcases hc' with rfl|rfl|rfl|rfl<;>simp))
 self:=λ_ _ _ _ _ st h=>wpAny_pyIter_zip st.hz h
end
section
variable{tk:Tok}
def ExcAt(e C dx:Addr)(h:Heap):Prop:=∃vs,h.get? e=some {cls:=.ref C,dict:=some dx,data:=.fields vs}
def ZI(e C:Addr)(dx:Option Addr)(h:Heap):Prop:=∃t,h.get? e=some {cls:=.ref C,dict:=dx,data:=.fields #[.ref t,.none,.none,.none,.bool false,.none]}
def yy(C:Addr)(fld:Str)(d:c5):c5:=.dict [(.tuple [.int (C:Nat),.str fld],d)]
structure sH(K:i5)(C:Addr):Prop where
 ga:az K (.ref C) "__getattribute__" = some (some (.builtin "BaseException.__getattribute__"))
 gt:az K (.ref C) "__getattr__" = some none
 hd:sr K C=true
 be:Di K C (.type "BaseException")=some true
 cl:az K (.ref C) "__class__" = some (some (.builtin "object.__class__"))
 cg:DM K (.builtin "object.__class__") "__get__" = some (some (.builtin "getset_descriptor.__get__"))
 ct:MR K (.builtin "object.__class__")=some true
 ob:Di K C (.type "object")=some true
 n1:mN K (.ref C) (.type "tuple")=some false
 n2:mN K (.ref C) (.type "list")=some false
 n3:mN K (.ref C) (.type "bool")=some false
 n4:mN K (.ref C) (.type "int")=some false
 n5:mN K (.ref C) (.type "str")=some false
def jg(n:String):Prop:=n = "tuple"\/n = "list"\/n = "bool"\/n = "int"\/n = "str"
theorem sH.jg{K:i5}{C:Addr}(T:sH K C){n:String}(h:L2.jg n):mN K (.ref C) (.type n)=some false:=by
 rcases h with rfl|rfl|rfl|rfl|rfl
 . exact T.n1
 . exact T.n2
 . exact T.n3
 . exact T.n4
 . exact T.n5
section
variable{prog:B1}{w:t9}{A:A2}{E:c8->h8->Prop}{s:h8}{K:i5}{x C:Addr}{ox:Obj}{od:Option Obj}{name:Str}
theorem Md{R:Result->h8->Prop}(T:sH K C)(X:K.In s.heap)(I:xf s.heap x ox C od)(hf:Dw K C od "__class__" = some (.bind (.builtin "getset_descriptor.__get__") (.builtin "object.__class__")))(h:R (.ok (.ret (.ref C))) s):
  codeAny (model prog w) A (.call (.builtin "BaseException.__getattribute__") ⟨[.ref x,.str "__class__" tk],[]⟩) R s:=by
 obtain⟨hh,g,d,t,os⟩:=s;refine codeAny_call_builtin F.excAttr_ValueError.ga.plain F.entry_bexc_ga ?_;have L0:=I.type (M:=model prog w);have L1:=PySem.W.looks_find (M:=model prog w) X I hf;have L2:=PySem.W.looks_mroIn (M:=model prog w) X T.be;have hk:builtinKind "BaseException.__getattribute__" = some .slot:=by decide +kernel
 have hsplit:splitId "BaseException.__getattribute__" = some ("BaseException","__getattribute__"):=by decide +kernel
 have ha:=F.args_bexc_ga (.ref x) (.str "__class__" tk);simp only[checkBuiltinCall,hk,hsplit];refine wpAny_bind ?_;delta isInstance;refine wpAny_bind (L0.at (L2.at ?_));repeat (first|wp_step)
 refine wpAny_loadPart_at I.at_ ?_;rw[I.cls];refine n9 (wpAny_bind (L1.at ?_));dsimp only;repeat (any_goals (first|assumption|wp_step))
 refine PySem.W.class_get (s:=⟨hh,g,d,t,os⟩) X I T.ob ?_;repeat (any_goals (first|assumption|wp_step))
theorem VI{fill expr:Bool}{Q:c8->h8->Prop}(T:sH K C)(X:K.In s.heap)(I:xf s.heap x ox C od)(hf:Dw K C od "__class__" = some (.bind (.builtin "getset_descriptor.__get__") (.builtin "object.__class__")))(h:Q (.ref C) s):
  wpAny (model prog w) A (getAttrBy (.ref x) (.str "__class__" tk) fill expr) Q E s:=by
 obtain⟨hp,g,d,t,os⟩:=s;have L0:=I.type (M:=model prog w);have L1:=DY (M:=model prog w) X T.ga;have L2:=DY (M:=model prog w) X T.gt;have f3:=F.excAttr_ValueError.ga.bind (.ref x);have hx0:(expr&&onTheHeap (rY "BaseException.__getattribute__"))=false:=by cases expr<;>rfl
 have hx2:(rY "BaseException.__getattribute__"==rY "object.__getattribute__")=false:=by decide +kernel
 have hx1:(onTheHeap (aL C)&&rY "BaseException.__getattribute__"==rY "object.__getattribute__")=false:=by rw[hx2];rfl
 delta getAttrBy;refine kh (wpAny_bind (L0.at (wpAny_bind (L1.at ?_))));dsimp only;rw[c9 (by rw[hx1];decide)]
 delta getAttrByItsOwn;repeat (any_goals (first|assumption|(with_reducible refine L2.at ?_)|wp_step))
 refine Md (s:=⟨hp,g,d,t,os⟩) T X I hf ?_;dsimp only;rw[PySem.W.handedOut_of rfl];exact n9 h
theorem Mc{Q:Option c8->h8->Prop}{o:Obj}(T:sH K C)(X:K.In s.heap)(I:xf s.heap x ox C (some o))(h:Q (some (.ref C)) {s with toks:=s.toks+1}):wpAny (model prog w) A (getAttr? (.ref x) "__class__") Q E s:=by
 have hf:Dw K C (some o) "__class__" = some (.bind (.builtin "getset_descriptor.__get__") (.builtin "object.__class__")):=PySem.W.findObj_data (by obtain⟨cd,hc,_⟩:=xq T.hd;rw[hc];rfl) T.cl T.cg T.ct
 delta getAttr? getAttrBy?
 refine wpAny_bind (wpAny_mkText (wpAny_bind (wY (VI (s:={s with toks:=s.toks+1}) T X I hf ?_))))
 exact n9 h
theorem QX{dx:Addr}(T:sH K C):PySem.W.KitX K (.ref x) (.ref C) (λh=>ExcAt x C dx h/\∃o,h.get? dx=some o) where
 ty:=λ_ _ _ I=>by obtain⟨⟨vs,h1⟩,_⟩:=I;exact(PySem.W.Looks.ld h1).andThen .now
 it:=λ_ _ X _=>by
  obtain⟨cdD,hcD,_⟩:=xq T.hd;unfold PySem.W.clsIn at hcD;split at hcD
  . rename_i c' d' cd' sl' ho;intro A' Q' E' s' k q;delta isType loadHead;exact wpAny_bind (wpAny_loadPart (k _ _ (X _ _ ho)) (n9 q))
  . cases hcD
 ne:=λh tp dd its n sl X htp=>by
  obtain⟨cdD,hcD,_⟩:=xq T.hd;refine Bool.eq_false_iff.mpr λq=>?_
  have e:C=tp:=Value.ref.inj (beq_iff_eq.mp q);subst e;unfold PySem.W.clsIn at hcD;split at hcD
  . rename_i c' d' cd' sl' ho;have z:=(X _ _ ho).symm.trans htp;cases z
  . cases hcD
 ca:=λX I k=>by obtain⟨⟨vs,h1⟩,o,h2⟩:=I;exact Mc T X (ox:=_) (o:=o) ⟨h1,rfl,rfl,h2⟩ k
end
end
section
variable{kd k1 k2:Bool}{E Q:c8->h8->Prop}{xs ys:Array c8}{a p:Addr}{H H':Hp}{m:Nat}{j:Int}
def oI(kd:Bool)(l:Addr):Obj:=match kd with
 |true=>{cls:=.type "tuple_iterator",data:=.fields #[.ref l,.int 0 0]}
 |false=>{cls:=.type "list_iterator",data:=.fields #[.ref l,.int 0 0]}
def fW(kd:Bool)(h:Heap)(l:Addr)(xs:Array c8):Prop:=match kd with
 |true=>h.IsTuple l xs
 |false=>h.IsList l xs
theorem fW.push{kd:Bool}{h:Heap}{l:Addr}{xs:Array c8}(x:fW kd h l xs)(o:Obj):fW kd (h.push o) l xs:=by
 cases kd
 . exact Heap.IsList.push (show h.IsList l xs from x) o
 . exact Heap.IsTuple.push (show h.IsTuple l xs from x) o
theorem iT.new{h:Heap}{i l:Addr}(e:h.get? i=some (oI kd l)):iT kd h i l 0:=by
 cases kd
 . exact⟨_,e,rfl,rfl⟩
 . exact⟨_,e,rfl,rfl⟩
theorem tj{prog:B1}{w:t9}{A:A2}{s:h8}{l:Addr}(x:fW kd s.heap l xs)(hQ:Q (.ref s.heap.objs.size) {s with heap:=s.heap.push (oI kd l)}):wpAny (model prog w) A (pyIter (.ref l)) Q E s:=by
 cases kd
 . exact DJ (show s.heap.IsList l xs from x) hQ
 . exact wpAny_pyIter_tuple (show s.heap.IsTuple l xs from x) hQ
abbrev Sf(k1:Bool)(h:Heap)(a:Addr):Heap:=h.push (oI k1 a)
abbrev Se(k1 k2:Bool)(h:Heap)(a b:Addr):Heap:=(Sf k1 h a).push (oI k2 b)
abbrev Sd(k1 k2:Bool)(h:Heap)(a b:Addr):Heap:=(Se k1 k2 h a b).push {cls:=.type "tuple",data:=.seq #[.ref h.objs.size,.ref (Sf k1 h a).objs.size]}
abbrev Sa(k1 k2:Bool)(h:Heap)(a b:Addr):Heap:=(Sd k1 k2 h a b).push {cls:=.type "tuple",data:=.seq #[.none,.none]}
abbrev EU(k1 k2:Bool)(h:Heap)(a b:Addr):Heap:=(Sa k1 k2 h a b).push {cls:=.type "zip",data:=.fields #[.none,.bool false,.bool false,.ref (Se k1 k2 h a b).objs.size,.ref (Sd k1 k2 h a b).objs.size]}
theorem Iv(k1 k2:Bool)(a b:Addr)(xs ys:Array c8):
  Meets (Builtin.«zip.__new__» ⟨[.type "zip",.ref a,.ref b],[]⟩) (λ_ R s=>fW k1 s.heap a xs/\fW k2 s.heap b ys /\
   R (.ok (.ret (.ref (Sa k1 k2 s.heap a b).objs.size))) {s with heap:=EU k1 k2 s.heap a b}) :=
 .of_wp λprog w A R s h=>by
  obtain⟨hp,g,d,tk,os⟩:=s;obtain⟨x1,x2,h⟩:=h;have hsub:=sub_zip;have y1:fW k1 (CQ ⟨hp,g,d,tk,os⟩) a xs:=x1;have y2:fW k2 (CQ ⟨hp.push (oI k1 a),g,d,tk,os⟩) b ys:=fW.push x2 _
  wp_walk using tj y1,tj y2
  exact⟨_,rfl,h⟩
section
variable{prog:B1}{w:t9}{A:A2}{E:c8->h8->Prop}{s:h8}
theorem Mz {b:Addr} (x1:fW k1 s.heap a xs) (x2:fW k2 s.heap b ys) (h:∀h',TK k1 k2 (s.heap.objs.size + 4) (s.heap.objs.size + 2) (s.heap.objs.size + 3) s.heap.objs.size (s.heap.objs.size + 1) a b 0 h' ->
   (∀c o,s.heap.get? c=some o->h'.get? c=some o)->Q (.ref (s.heap.objs.size+4)) {s with heap:=h'}) :
  wpAny (model prog w) A (call (.type "zip") [.ref a,.ref b]) Q E s:=by
 refine callType_new F.called_zip (by decide) (F.typeCall_zip_2 _ _) (F.newCall_zip_2 _ _) (λobj=>F.args_object_init_3 obj _ _) F.entry_zip_new (Iv k1 k2 a b xs ys) ⟨x1,x2,?_⟩
 have z1:(Sf k1 s.heap a).objs.size=s.heap.objs.size+1:=hU ..;have z2:(Se k1 k2 s.heap a b).objs.size=s.heap.objs.size+2:=by rw[hU,z1]
 have z3:(Sd k1 k2 s.heap a b).objs.size=s.heap.objs.size+3:=by rw[hU,z2]
 have z4:(Sa k1 k2 s.heap a b).objs.size=s.heap.objs.size+4:=by rw[hU,z3]
 have g5:(EU k1 k2 s.heap a b).get? (Sa k1 k2 s.heap a b).objs.size=some _:=S7 _ rfl;have g4:(EU k1 k2 s.heap a b).get? (Sd k1 k2 s.heap a b).objs.size=some _:=E5 _ (S7 _ rfl);have g3:(EU k1 k2 s.heap a b).get? (Se k1 k2 s.heap a b).objs.size=some _:=E5 _ (E5 _ (S7 _ rfl));have f2:(oI k2 b).isFreed=false:=by cases k2<;>rfl
 have f1:(oI k1 a).isFreed=false:=by cases k1<;>rfl
 have g2:(EU k1 k2 s.heap a b).get? (Sf k1 s.heap a).objs.size=some _:=E5 _ (E5 _ (E5 _ (S7 _ f2)));have g1:(EU k1 k2 s.heap a b).get? s.heap.objs.size=some _:=E5 _ (E5 _ (E5 _ (E5 _ (S7 _ f1))));show _/\_
 rw[z2,z3,z4]at g5;rw[z1,z2]at g3;rw[z3]at g4;rw[z1]at g2;rw[z4];exact⟨⟨_,g5,rfl⟩,h _ ⟨g5,g3,⟨_,_,g4⟩,.new g1,.new g2⟩ λc o x =>
  E5 _ (E5 _ (E5 _ (E5 _ (E5 _ x))))⟩
end
theorem OC(n:Nat):YJ (n+4) (n+2) (n+3) n (n+1):=by constructor<;>(show @Ne Nat _ _)<;>lia
section
variable{X:Cx}{es:List Expr}{k:Nat}{tp:Pos}
theorem Inv.aq{pins:List (Addr×Obj)}{σ:St}{s:h8}{xs:List V}(I:Inv X pins σ H s)(h:cA kd X.K H a xs):∃its:List c8,fW kd s.heap a its.toArray:=by
 cases kd
 . obtain⟨its,_,p,_⟩:=I.list h;exact⟨its,p.isList⟩
 . obtain⟨its,_,p,_⟩:=I.tuple h;exact⟨its,p⟩
end
section
variable{bs:List Str}{g:TG}{te:TE}{σ:St}{H:Hp}{Q:VK}
end
section
variable{X:Cx}
theorem Ar:∀{bs:List Bool} {us:List c8},Vals (bs.map V.bl) us->us=bs.map mG
 | [],_,.nil=>rfl
 |b::r,_,.cons h t=>by rw[Ar t];cases h;rfl
theorem oz:∀(bs:List Bool) (d:Bool),(v8 bs.length).all (λi=>bs.getD i d)=bs.all id
 | [],_=>rfl
 |b::r,d=>by rw[O1,NU,fK,List.all_map,fK];have:=oz r d;simp only[List.getD_cons_zero,Function.comp_def,List.getD_cons_succ,id];rw[this]
theorem RP:T9 X (.builtin "all") (λxs H Q=>∃(p:Addr) (bs:List Bool),xs=[.ref p]/\D9 X.K H p (bs.map V.bl)/\X.A.handled=none/\Q (.bl (bs.all id)) H):=by
 intro pins s σ H xs us Q I r h;obtain⟨p,bs,rfl,hq,hh,q⟩:=h;obtain⟨u,rfl,ru⟩:=vals1 r;cases ru;obtain⟨its,rv,pl,hz⟩:=I.list hq;have ei:its=bs.map mG:=Ar rv;refine call_all_walk (DJ pl.isList ?_);have lt:p<s.heap.objs.size:=by obtain⟨o,e,_⟩:=pl.isList;exact B4 e
 refine⟨s.heap.objs.size,_,_,_,_,_,λi=>bs.getD i false,rfl,Walks.list (A:=X.A.in1) hh s.heap.objs.size p (X5 lt) its.toArray,⟨⟨_,S7 _ rfl,rfl,rfl⟩,pl.isList.push _⟩,?_,λh' tk kk=>?_⟩
 . intro i v s' Q' E' hv hq';have e:(bs.map mG)[i]? = some v:=by rw[<-ei];simpa using hv
   rw[P5]at e;cases eb:bs[i]? with
   |none=>rw[eb]at e;cases e
   |some b =>
    rw[eb]at e;cases e;have:bs.getD i false=b:=by rw[O2,eb];rfl
    have hq2:Q' b s':=by rw[<-this];exact hq'
    exact pF hq2
 . have el:its.toArray.size=bs.length:=by rw[ei];simp
   rw[el,oz];refine⟨.bl (bs.all id),H,?_,rfl,q⟩;have I1:Inv X pins σ H {s with heap:=s.heap.push {cls:=.type "list_iterator",data:=.fields #[.ref p,.int 0 0]}}:=I.kept (t':=s.toks) λb o e=>E5 _ e
   have f:=I.yt (l5 _) (I.A7.fresh (l5 s.heap.objs.size));exact Inv.turned (s:={s with heap:=s.heap.push {cls:=.type "list_iterator",data:=.fields #[.ref p,.int 0 0]}}) I1 (it:=s.heap.objs.size) (λb o hb e=>kk b o (by simpa using hb) e) f.1 f.2.1 f.2.2.2.1 f.2.2.2.2.1 f.2.2.2.2.2
end
structure Bt(m:Nat)(i:Int):Prop where
 lt:i.natAbs<2 ^ m
theorem Bt.mono{n:Nat}{i:Int}(h:Bt m i)(hl:m<=n):Bt n i:=⟨M8 h.lt (Nat.pow_le_pow_right (by decide) hl)⟩
theorem Bt.of_le{i:Int}(h:Bt m j)(hl:i.natAbs<=j.natAbs):Bt m i:=⟨DR hl h.lt⟩
theorem Bt.neg{i:Int}(h:Bt m i):Bt m (-i):=h.of_le (by lia)
theorem Bt.mul{n:Nat}{i:Int}(h:Bt m i)(h':Bt n j):Bt (m+n) (i*j):=⟨by
 rw[aN,CP];exact Nat.mul_lt_mul'' h.lt h'.lt⟩
theorem Bt.add{i:Int}(h:Bt m i)(h':Bt m j):Bt (m+1) (i+j):=⟨by
 rw[rW];have:=DI i j;have:=h.lt;have:=h'.lt
 lia⟩
theorem Bt.sub{i:Int}(h:Bt m i)(h':Bt m j):Bt (m+1) (i-j):=by rw[Int.sub_eq_add_neg];exact h.add h'.neg
theorem Bt.fdiv{m:Nat}{i j:Int}(h:Bt m i):Bt m (i.fdiv j):=h.of_le (NM i j)
theorem Bt.small{i:Int}(h1 : -(2 ^ 62)<i)(h2:i<2 ^ 62):Bt 62 i:=⟨by lia⟩
theorem Bt.Zw{n:Nat}{i:Int}(h:Bt m i)(h':Bt n j)(hm:m+n<=134217728):IntMulOk i j:=IntMulOk.of_le (intBits_le_iff.mpr h.lt) (intBits_le_iff.mpr h'.lt) hm
section
variable{X:Cx}
theorem Vp:R8 X (U1 .Mult) (rI (λi j=>Bt 60000 i/\Bt 60000 j) λi j=>.int (i*j)):=KO λi j _ _ _ _ _ hc q=>mul_int q (hc.1.Zw hc.2 (by decide))
theorem Qw:R8 X (U1 .FloorDiv) (rI (λ_ j=>j≠0/\Bt 8000 j) λi j=>.int (i.fdiv j)):=KO λi j _ _ _ _ _ hc q=>floordiv_int hc.1 q (.inl (PyProof.noPylong_of_log2 (by
 have h:=hc.2.lt;have h0:j.natAbs≠0:=by have:=hc.1;lia
 have:=(Nat.log2_lt h0).mpr h
 lia)))
def Tn(nm:Str):c5:=.dict [(.str nm,.none)]
def a0k:Str:=⟨#[0]⟩
def jw:c5->Bool
 | .dict [(.str _,.none)]=>true
 | .dict [(.tuple [.str _,.list _],.tuple _)]=>true
 | .dict [(.list _,.tuple _)]=>true
 |_=>false
def rC(nm:Str)(ns:List Str)(l:List c5):c5:=.dict [(.tuple [.str nm,.list (ns.map .str)],.tuple l)]
def yE(ks:List Str)(l:List c5):c5:=.dict [(.list (ks.map .str),.tuple l)]
mutual
inductive Dt(K:i5)(H:Hp):V->c5->Prop
 |non:Dt K H .non .none
 |bl (b):Dt K H (.bl b) (.bool b)
 |int (i):Dt K H (.int i) (.int i)
 |str (x):Dt K H (.str x) (.str x)
 |tup {a xs ds}:N6 K H a xs->o8 K H xs ds->Dt K H (.ref a) (.tuple ds)
 |lst {a xs ds}:D9 K H a xs->o8 K H xs ds->Dt K H (.ref a) (.list ds)
 |exc {ea C dx fld v d}:sH K C->az K (.ref C) fld=some none->H ea=some (.ext (ExcAt ea C dx))->H dx=some (.xd [(fld,v)])->Dt K H v d->Dt K H (.ref ea) (yy C fld d)
 |fn {f nm}:(dF K T8 nm=some (some (.ref f))\/nm=a0k)->Dt K H (.ref f) (Tn nm)
 |ins {a C dx fv nm ns vs l}:dF K T8 nm=some (some (.ref C))->H a=some (.ins C dx fv)->fv=ns.zip vs->o8 K H vs l->Dt K H (.ref a) (rC nm ns l)
 |dct {a kvs ks vs l}:H a=some (.dK kvs)->kvs=(ks.map ij).zip vs->o8 K H vs l->Dt K H (.ref a) (yE ks l)
inductive o8(K:i5)(H:Hp):List V->List c5->Prop
 |nil:o8 K H [] []
 |cons {x xs d ds}:Dt K H x d->o8 K H xs ds->o8 K H (x::xs) (d::ds)
end
theorem i0.cL{K:i5}{xs:List V}(e:i0 H H')(h:N6 K H a xs):N6 K H' a xs:=by
 rcases h with (h|⟨o,h⟩)|h
 . exact .inl (.inl (e _ _ h))
 . exact .inl (.inr ⟨o,e _ _ h⟩)
 . exact .inr h
theorem i0.new{o:HO}(h:H p=none):i0 H (upd H p o):=λb u e=>by rw[A3 (Y7 e h)];exact e
mutual
theorem Dt.same{K:i5}{H H':Hp}(e:i0 H H'){x:V}{d:c5}(h:Dt K H x d):Dt K H' x d:=by
 cases h with
 |non=>exact .non
 |bl b=>exact .bl b
 |int i=>exact .int i
 |str x=>exact .str x
 |tup h t=>exact .tup (e.cL h) (o8.same e t)
 |lst h t=>exact .lst (e.seq h) (o8.same e t)
 |exc c n h1 h2 t=>exact .exc c n (e _ _ h1) (e _ _ h2) (Dt.same e t)
 |fn h=>exact .fn h
 |ins h1 h2 h3 t=>exact .ins h1 (e _ _ h2) h3 (o8.same e t)
 |dct h1 h2 t=>exact .dct (e _ _ h1) h2 (o8.same e t)
theorem o8.same{K:i5}{H H':Hp}(e:i0 H H'){xs:List V}{ds:List c5}(h:o8 K H xs ds):o8 K H' xs ds:=by
 cases h with
 |nil=>exact .nil
 |cons h t=>exact .cons (Dt.same e h) (o8.same e t)
end
theorem o8.length{K:i5}{H:Hp}:∀{xs:List V} {ds:List c5},o8 K H xs ds->xs.length=ds.length
 |_,_,.nil=>rfl
 |_,_,.cons _ t=>by rw[O1,O1,o8.length t]
theorem o8.get{K:i5}{H:Hp}:∀{xs:List V} {ds:List c5} {i:Nat} {d:c5},o8 K H xs ds->ds[i]? = some d->∃x,xs[i]? = some x/\Dt K H x d
 |_,_,_,_,.nil,e=>by simp at e
 |_,_,0,_,.cons h _,e=>by simp at e;subst e;exact⟨_,rfl,h⟩
 |_,_,i+1,d,.cons _ t,e=>by
  obtain⟨x,h1,h2⟩:=o8.get (i:=i) (d:=d) t (by simpa using e)
  exact⟨x,by simpa using h1,h2⟩
mutual
theorem Inv.reads{pins:List (Addr×Obj)}{σ:St}{H:Hp}{s:h8}(I:Inv X pins σ H s){x:V}{u:c8}{d:c5}(h:Dt X.K H x d)(r:RelV x u)(hc:d.canLay0=true):∃as,Reads s.heap u d as:=by
 cases h with
 |non=>cases r;exact⟨_,.none⟩
 |bl b=>cases r;exact⟨_,.bool b⟩
 |int i=>obtain⟨t,rfl⟩:=r;exact⟨_,.int i t⟩
 |str y=>obtain⟨t,rfl⟩:=r;exact⟨_,.str y t⟩
 |tup h t =>
  cases r;obtain⟨its,rv,⟨o,e,c,n,dd⟩,_⟩:=I.tuple h;obtain⟨as,ra⟩:=Inv.readsAll I t rv (by rw[aM]at hc;exact hc)
  exact⟨_,.tuple e c dd (by simpa using ra)⟩
 |lst h t =>
  cases r;obtain⟨its,rv,pl,_⟩:=I.list h;obtain⟨o,e,c,n,dd⟩:=pl.isList;obtain⟨as,ra⟩:=Inv.readsAll I t rv (by rw[aM]at hc;exact hc)
  exact⟨_,.list e c dd (by simpa using ra)⟩
 |exc _ _ _ _ _=>rw[yy,aM]at hc;cases hc
 |fn _=>rw[Tn,aM]at hc;cases hc
 |ins _ _ _ _=>rw[rC,aM]at hc;cases hc
 |dct _ _ _=>rw[yE,aM]at hc;cases hc
theorem Inv.readsAll{pins:List (Addr×Obj)}{σ:St}{H:Hp}{s:h8}(I:Inv X pins σ H s){xs:List V}{us:List c8}{ds:List c5}(h:o8 X.K H xs ds)(r:Vals xs us)(hc:iC ds=true):∃as,ReadsAll s.heap us ds as:=by
 cases h with
 |nil=>cases r;exact⟨_,.nil⟩
 |cons h t =>
  cases r with
  |cons r rr =>
   rw[iC,ek]at hc;obtain⟨as,ra⟩:=Inv.reads I h r hc.1;obtain⟨bs,rb⟩:=Inv.readsAll I t rr hc.2;exact⟨_,.cons ra rb⟩
end
theorem XH(hu:X.A.units+64<cLine):R8 X (V5 .Eq) (λx y H Q=>∃d e,Dt X.K H x d/\Dt X.K H y e/\L3 d=true/\L3 e=true/\Q (.bl (Z3 d e)) H):=by intro pins s σ H x y v u Q I rx ry h;obtain⟨d,e,h1,h2,s1,s2,q⟩:=h;obtain⟨as,ra⟩:=I.reads h1 rx (xD s1);obtain⟨bs,rb⟩:=I.reads h2 ry (xD s2);exact eq_dataH ra rb s1 s2 hu ⟨.bl _,H,I,rfl,q⟩
theorem XE(hu:X.A.units+64<cLine):R8 X (V5 .NotEq) (λx y H Q=>∃d e,Dt X.K H x d/\Dt X.K H y e/\L3 d=true/\L3 e=true/\Q (.bl (!PyData.eqv d e)) H):=by intro pins s σ H x y v u Q I rx ry h;obtain⟨d,e,h1,h2,s1,s2,q⟩:=h;obtain⟨as,ra⟩:=I.reads h1 rx (xD s1);obtain⟨bs,rb⟩:=I.reads h2 ry (xD s2);exact ne_dataH ra rb s1 s2 hu ⟨.bl _,H,I,rfl,q⟩
end
end
section
variable{t sl:Addr}{Q:c8->h8->Prop}
def Hr:c5->String
 | .none=>"NoneType"
 | .bool _=>"bool"
 | .int _=>"int"
 | .str _=>"str"
 | .tuple _=>"tuple"
 | .list _=>"list"
 |_=>"dict"
def zu(d:c5)(n:String):Bool:=Hr d==n||(Hr d=="bool"&&n=="int")
theorem jd{K:i5}:∀{t n:String},(t = "NoneType"\/t = "bool"\/t = "int"\/t = "str"\/t = "tuple"\/t = "list")->jg n->mN K (.type t) (.type n)=some (t==n||(t=="bool"&&n=="int")):=by intro t n ht hn;rcases ht with rfl|rfl|rfl|rfl|rfl|rfl<;>rcases hn with rfl|rfl|rfl|rfl|rfl<;>first|rfl|decide +kernel
section
variable{X:Cx}
theorem RO:T9 X (.builtin "isinstance") (λxs H Q=>∃x n d,xs=[x,.ty n]/\Dt X.K H x d/\jw d=false/\jg n/\Q (.bl (zu d n)) H):=by
 intro pins s σ H xs us Q I r h;obtain⟨x,n,d,rfl,hd,hfn,hn,q⟩:=h;obtain⟨u,c,rfl,rx,rc⟩:=vals2 r;cases rc;have fin:∀tk,EP X pins σ Q (.bool (zu d n)) {s with toks:=tk}:=λtk=>⟨.bl _,H,I.tok tk,rfl,q⟩
 cases hd with
 |non=>cases rx;exact mP PySem.W.kitx_none I.fB cF (jd (by simp) hn) (λz=>nomatch z) fin
 |bl b=>cases rx;exact mP PySem.W.kitx_bool I.fB cF (jd (by simp) hn) (λz=>nomatch z) fin
 |int i=>obtain⟨t,rfl⟩:=rx;exact mP PySem.W.kitx_int I.fB cF (jd (by simp) hn) (λz=>nomatch z) fin
 |str y=>obtain⟨t,rfl⟩:=rx;exact mP PySem.W.kitx_str I.fB cF (jd (by simp) hn) (λz=>nomatch z) fin
 |tup h t =>
  cases rx;obtain⟨its,rv,⟨o,e,c,n,dd⟩,_⟩:=I.tuple h;exact mP PySem.W.kitx_tuple I.fB ⟨o,e,c⟩ (jd (by simp) hn) (λz=>nomatch z) fin
 |lst h t =>
  cases rx;obtain⟨its,rv,pl,_⟩:=I.list h;obtain⟨o,e,c,n,dd⟩:=pl.isList;exact mP PySem.W.kitx_list I.fB ⟨o,e,c⟩ (jd (by simp) hn) (λz=>nomatch z) fin
 |exc c nf h1 h2 t =>
  rename_i ea C dx fld v d;cases rx;obtain⟨mA,⟨ob,es,ep,ho,_⟩,_⟩:=I.A7 _ _ h2;have e0:zu (yy C fld d) n=false:=by rcases hn with rfl|rfl|rfl|rfl|rfl<;>rfl
  rw[e0]at fin;exact mP (QX c) I.fB ⟨(I.A7 _ _ h1).1,ob,ho⟩ (c.jg hn) (λz=>nomatch z) fin
 |fn _=>cases hfn
 |ins _ _ _ _=>cases hfn
 |dct _ _ _=>cases hfn
end
section
variable{prog:B1}{w:t9}{A:A2}{E:c8->h8->Prop}{s:h8}
theorem zX{items:Array c8}{vl vu:c8}{lo hi:Option Int}(ht:fG s.heap t items)(hs:s.heap.IsSliceOf sl vl vu .none)(pl:fH vl lo)(pu:fH vu hi)(hw:HT.E4 items.size 0 lo=0/\HT.E4 items.size items.size hi=items.size)(h:Q (.ref t) s):wpAny (model prog w) A (mD (.ref t) (.ref sl)) Q E s:=by
 obtain⟨os,hos,hcs,hds⟩:=id hs;have hTs:s.TypeIs (.ref sl) "slice":=⟨os,hos,hcs⟩;delta mD;try with_reducible refine kh ?_
 first|refine wpAny_bind (n9 ?_)|skip
 refine wpAny_bind (wpAny_sequenceKey ht.typeIs (by decide) ?_)
 refine wpAny_bind (qx (name:=dG "__getitem__") ht.typeIs xN (kq xN ht.typeIs entry_tuple_getitem ?_ (args_tuple_getitem _ _)));show wpAny _ _ (Oo (.ref t) >>= _) _ _ s
 refine wpAny_bind (tupleItemsOf_ ht (wpAny_bind (CV hTs ?_)));rw[c7 (by decide)]
 refine wpAny_bind (HT.lR hs pl pu ?_);rw[hw.1,hw.2];show wpAny _ _ (if ((((0:Nat):Int))==0&&(1:Int)==1&&(items.size-0)==items.size)=true then _ else _) _ _ s
 rw[c7 (by simp)]
 show wpAny _ _ (Om (.ref t) >>= _) _ _ s
 delta Om;refine wpAny_bind (wpAny_bind (CV ht.typeIs (n9 ?_)));rw[c7 (by decide)]
 first
  |exact wpAny_bind (oX (wpAny_bind (n9 ⟨_,rfl,n9 h⟩)))
  |exact wpAny_bind (oX (n9 ⟨_,rfl,n9 h⟩))
  |exact wpAny_bind (oX (wpAny_bind (n9 (n9 ⟨_,rfl,n9 h⟩))))
theorem VS{b:Addr}{vs ws:List c8}(ht:fG s.heap t vs.toArray)(hb:fG s.heap b ws.toArray)(hv:vs=[])(h:Q (.ref b) s):wpAny (model prog w) A (U1 .Add (.ref t) (.ref b)) Q E s:=by
 obtain⟨⟨cls,dd,data,sl⟩,ho,hc,n,hd⟩:=id ht;obtain⟨⟨cls2,dd2,data2,sl2⟩,ho2,hc2,n2,hd2⟩:=id hb;simp only at hc hd hc2 hd2;subst hc hd hc2 hd2;exact wR ⟨_,ho,rfl⟩ ⟨_,ho2,rfl⟩ DG Dh Ec Ee (Eh _ _)
  (tuple_addW0 t b vs.toArray ws.toArray n n2 dd dd2 sl sl2 (by simp[hv])) ⟨ho,ho2,h⟩
end
section
variable{X:Cx}
end
end
section
variable{H H' e8:Hp}{as as' vb va:As}{O O' rg rg' R:List Addr}{o a p f:Addr}{K:i5}{r:R2}{op:CmpOp}{vs:List V}{E:XK}
inductive PF where
 |dat (d:c5)
 |own (l:List c5)
 |dct (es:List (Str×c5))
inductive OD where
 |dct (es:List (Str×c5))
 |ins (nm:Str) (fs:List (Str×PF))
 |seq (b:Bool) (fs:List (Str×PF))
inductive PV where
 |dat (d:c5)
 |own (l:List c5)
 |ob (w:Option Addr) (c:OD)
def PF.d:PF->c5
 | .dat d=>d
 | .own l=>.list l
 | .dct es=>yE (es.map (·.1)) (es.map (·.2))
def OD.d:OD->c5
 | .dct es=>yE (es.map (·.1)) (es.map (·.2))
 | .ins nm fs=>rC nm (fs.map (·.1)) (fs.map λf=>f.2.d)
 | .seq true fs=>.list (fs.map λf=>f.2.d)
 | .seq false fs=>.tuple (fs.map λf=>f.2.d)
def PV.d:PV->c5
 | .dat d=>d
 | .own l=>.list l
 | .ob _ c=>c.d
@[simp] theorem PV.gX(d:c5):(PV.dat d).d=d:=rfl
@[simp] theorem PV.wx(l:List c5):(PV.own l).d=.list l:=rfl
abbrev Ds:=List (Option PV)
abbrev DV:=Ds->Option PV
abbrev DB:=Ds->Option Bool
abbrev DL:=Ds->Option (List c5)
abbrev FV:=List c5->Option PV
abbrev As:=List (Option Addr)
def m7(H:Hp)(as:As)(O:List Addr):Hp:=λb=>if b∈O\/some b∈as then none else H b
theorem F0{b:Addr}{o:HO}:m7 H as O b=some o↔(b∉O/\some b∉as/\H b=some o):=by
 delta m7;split
 . rename_i h;constructor
   . intro z;cases z
   . rintro⟨h1,h2,_⟩;exact(h.elim h1 h2).elim
 . rename_i h;constructor
   . intro z;exact⟨λq=>h (.inl q),λq=>h (.inr q),z⟩
   . rintro⟨_,_,z⟩;exact z
theorem cy(e:∀b o,b∉O->some b∉as->H b=some o->b∉O'/\some b∉as'/\H' b=some o):i0 (m7 H as O) (m7 H' as' O'):=λb o h=>by obtain⟨h1,h2,h3⟩:=F0.mp h;exact F0.mpr (e b o h1 h2 h3)
theorem L6(e:i0 H H'):i0 (m7 H as O) (m7 H' as O):=cy λb o h1 h2 h3=>⟨h1,h2,e b o h3⟩
theorem U6(e:i0 H H')(h:∀b,some b∈as'->some b∈as):i0 (m7 H as O) (m7 H' as' O):=cy λb o h1 h2 h3=>⟨h1,λz=>h2 (h b z),e b o h3⟩
theorem o6:i0 (m7 H as O) H:=λb o h=>(F0.mp h).2.2
theorem oJ{bs:As}:m7 H (bs++as) O=m7 H bs (O++as.filterMap id):=by
 funext b
 delta m7;have:(b∈O\/some b∈bs++as)↔(b∈O++as.filterMap id\/some b∈bs):=by
  simp only[iz,xt,id];constructor
  . rintro(h|h|h)
    . exact .inl (.inl h)
    . exact .inr h
    . exact .inl (.inr ⟨_,h,rfl⟩)
  . rintro((h|⟨x,h,e⟩)|h)
    . exact .inl h
    . subst e;exact .inr (.inr h)
    . exact .inr (.inl h)
 by_cases c:b∈O\/some b∈bs++as
 . rw[c7 c,c7 (this.mp c)]
 . rw[c9 c,c9 (λz=>c (this.mpr z))]
def Cell(u:HO):Prop:=(∃xs,u=.lst xs)\/(∃kvs,u=.dK kvs)\/∃C dx fv,u=.ins C dx fv
abbrev Cl:={u:HO // Cell u}
def Cl.l(xs:List V):Cl:=⟨.lst xs,.inl ⟨xs,rfl⟩⟩
def Cl.d(kvs:List (Key×V)):Cl:=⟨.dK kvs,.inr (.inl ⟨kvs,rfl⟩)⟩
def Cl.i(C dx:Addr)(fv:List (Str×V)):Cl:=⟨.ins C dx fv,.inr (.inr ⟨C,dx,fv,rfl⟩)⟩
def xP(K:i5)(Hv:Hp):List (Key×V)->List (Str×c5)->Prop:=Paired λ(p:Key×V) (q:Str×c5)=>p.1=.inr q.1/\Dt K Hv p.2 q.2
theorem xP.same{K:i5}{H H':Hp}{kvs:List (Key×V)}{es:List (Str×c5)}(e:i0 H H')(h:xP K H kvs es):xP K H' kvs es:=by
 unfold xP at *;induction h with
 |nil=>exact .nil
 |cons h t ih=>exact .cons ⟨h.1,h.2.same e⟩ ih
inductive M3(K:i5)(Hv H:Hp):List (Str×V)->List (Str×PF)->List Addr->Prop
 |nil:M3 K Hv H [] [] []
 |dat {n x d fv fs R}:Dt K Hv x d->M3 K Hv H fv fs R->M3 K Hv H ((n,x)::fv) ((n,.dat d)::fs) R
 |own {n a xs l fv fs R}:H a=some (.lst xs)->o8 K Hv xs l->a∉R->M3 K Hv H fv fs R->M3 K Hv H ((n,.ref a)::fv) ((n,.own l)::fs) (a::R)
 |dct {n a kvs es fv fs R}:H a=some (.dK kvs)->xP K Hv kvs es->a∉R->M3 K Hv H fv fs R->M3 K Hv H ((n,.ref a)::fv) ((n,.dct es)::fs) (a::R)
def kQ(K:i5)(Hv H:Hp)(v:Addr)(R:List Addr):OD->Prop
 | .dct es=>∃kvs,R=[v]/\H v=some (.dK kvs)/\xP K Hv kvs es
 | .ins nm fs=>∃C dx fv R',R=v::R'/\dF K T8 nm=some (some (.ref C))/\H v=some (.ins C dx fv)/\M3 K Hv H fv fs R'
 | .seq true fs=>∃fv R',R=v::R'/\v∉R'/\H v=some (.lst (fv.map (·.2)))/\M3 K Hv H fv fs R'
 | .seq false fs=>∃fv,Hv v=some (.tup (fv.map (·.2)))/\M3 K Hv H fv fs R
section
variable{K:i5}{Hv Hv' H H':Hp}{v:Addr}{R:List Addr}{c:OD}{fv:List (Str×V)}{fs:List (Str×PF)}
theorem M3.same(e:i0 Hv Hv')(h:M3 K Hv H fv fs R):(∀b∈R,∀o,H b=some o->H' b=some o)->M3 K Hv' H' fv fs R:=by
 induction h with
 |nil=>exact λ_=>.nil
 |dat hd t ih=>exact λe2=>.dat (hd.same e) (ih e2)
 |own h1 h2 h3 t ih=>exact λe2=>.own (e2 _ B7 _ h1) (h2.same e) h3 (ih λb hb=>e2 b (A0 _ hb))
 |dct h1 h2 h3 t ih=>exact λe2=>.dct (e2 _ B7 _ h1) (h2.same e) h3 (ih λb hb=>e2 b (A0 _ hb))
theorem M3.at(h:M3 K Hv H fv fs R):∀b∈R,∃u:HO,((∃xs,u=.lst xs)\/∃kvs,u=.dK kvs)/\H b=some u:=by
 induction h with
 |nil=>exact λb hb=>absurd hb (by simp)
 |dat hd t ih=>exact ih
 |own h1 h2 h3 t ih =>
  intro b hb;rcases List.mem_cons.mp hb with rfl|hb
  . exact⟨_,.inl ⟨_,rfl⟩,h1⟩
  . exact ih b hb
 |dct h1 h2 h3 t ih =>
  intro b hb;rcases List.mem_cons.mp hb with rfl|hb
  . exact⟨_,.inr ⟨_,rfl⟩,h1⟩
  . exact ih b hb
theorem kQ.same(e:i0 Hv Hv')(e2:∀b∈R,∀o,H b=some o->H' b=some o)(h:kQ K Hv H v R c):kQ K Hv' H' v R c:=by
 cases c with
 |dct es=>obtain⟨kvs,rfl,h2,h3⟩:=h;exact⟨kvs,rfl,e2 _ B7 _ h2,h3.same e⟩
 |ins nm fs =>
  obtain⟨C,dx,fv,R',rfl,h1,h2,h3⟩:=h;exact⟨C,dx,fv,R',rfl,h1,e2 _ B7 _ h2,h3.same e λb hb=>e2 b (A0 _ hb)⟩
 |seq b fs =>
  cases b with
  |true =>
   obtain⟨fv,R',rfl,h1,h2,h3⟩:=h;exact⟨fv,R',rfl,h1,e2 _ B7 _ h2,h3.same e λb hb=>e2 b (A0 _ hb)⟩
  |false=>obtain⟨fv,h2,h3⟩:=h;exact⟨fv,e _ _ h2,h3.same e e2⟩
theorem kQ.at(h:kQ K Hv H v R c):∀b∈R,∃u:Cl,H b=some u.1:=by
 cases c with
 |dct es =>
  obtain⟨kvs,rfl,h2,h3⟩:=h;intro b hb;rw[mem_singleton.mp hb];exact⟨Cl.d kvs,h2⟩
 |ins nm fs =>
  obtain⟨C,dx,fv,R',rfl,h1,h2,h3⟩:=h;intro b hb;rcases List.mem_cons.mp hb with rfl|hb
  . exact⟨Cl.i C dx fv,h2⟩
  . obtain⟨u,h|h,e⟩:=h3.at b hb
    . exact⟨⟨u,.inl h⟩,e⟩
    . exact⟨⟨u,.inr (.inl h)⟩,e⟩
 |seq t fs =>
  have g:∀{fv R'},M3 K Hv H fv fs R'->∀b∈R',∃u:Cl,H b=some u.1:=λh3 b hb=>by
   obtain⟨u,h|h,e⟩:=h3.at b hb
   . exact⟨⟨u,.inl h⟩,e⟩
   . exact⟨⟨u,.inr (.inl h)⟩,e⟩
  cases t with
  |true =>
   obtain⟨fv,R',rfl,h1,h2,h3⟩:=h;intro b hb;rcases List.mem_cons.mp hb with rfl|hb
   . exact⟨Cl.l _,h2⟩
   . exact g h3 b hb
  |false=>obtain⟨fv,h2,h3⟩:=h;exact g h3
theorem Gy{kvs:List (Key×V)}{es:List (Str×c5)}(h:xP K Hv kvs es):kvs=((es.map (·.1)).map ij).zip (kvs.map (·.2))/\o8 K Hv (kvs.map (·.2)) (es.map (·.2)):=by
 unfold xP at h;induction h with
 |nil=>exact⟨rfl,.nil⟩
 | @cons p q ps qs h t ih =>
  refine⟨?_,.cons h.2 ih.2⟩;rw[o5,o5,o5,kx,<-ih.1,<-h.1]
theorem M3.YE(h:M3 K Hv H fv fs R)(e:i0 Hv Hv')(e2:∀b∈R,∀o,H b=some o->Hv' b=some o):fv=(fs.map (·.1)).zip (fv.map (·.2))/\o8 K Hv' (fv.map (·.2)) (fs.map λf=>f.2.d):=by
 induction h with
 |nil=>exact⟨rfl,.nil⟩
 |dat hd t ih =>
  obtain⟨i1,i2⟩:=ih e2;refine⟨?_,.cons (hd.same e) i2⟩;rw[o5,o5,kx,<-i1]
 |own h1 h2 h3 t ih =>
  obtain⟨i1,i2⟩:=ih λb hb=>e2 b (A0 _ hb)
  refine⟨?_,.cons (.lst (D9.of (e2 _ B7 _ h1)) (h2.same e)) i2⟩;rw[o5,o5,kx,<-i1]
 |dct h1 h2 h3 t ih =>
  obtain⟨i1,i2⟩:=ih λb hb=>e2 b (A0 _ hb)
  obtain⟨k1,k2⟩:=Gy h2;refine⟨?_,.cons (.dct (e2 _ B7 _ h1) k1 (k2.same e)) i2⟩;rw[o5,o5,kx,<-i1]
theorem kQ.dt(h:kQ K Hv H v R c)(e:i0 Hv Hv')(e2:∀b∈R,∀o,H b=some o->Hv' b=some o):Dt K Hv' (.ref v) c.d:=by
 cases c with
 |dct es =>
  obtain⟨kvs,rfl,h2,h3⟩:=h;obtain⟨k1,k2⟩:=Gy h3;exact .dct (e2 _ B7 _ h2) k1 (k2.same e)
 |ins nm fs =>
  obtain⟨C,dx,fv,R',rfl,h1,h2,h3⟩:=h;obtain⟨k1,k2⟩:=h3.YE e λb hb=>e2 b (A0 _ hb)
  exact .ins h1 (e2 _ B7 _ h2) k1 k2
 |seq b fs =>
  cases b with
  |true =>
   obtain⟨fv,R',rfl,h1,h2,h3⟩:=h;obtain⟨k1,k2⟩:=h3.YE e λb hb=>e2 b (A0 _ hb)
   exact .lst (D9.of (e2 _ B7 _ h2)) k2
  |false =>
   obtain⟨fv,h2,h3⟩:=h;obtain⟨k1,k2⟩:=h3.YE e e2;exact .tup (N6.of (e _ _ h2)) k2
end
def aI(K:i5)(O:List Addr)(as:As)(H:Hp)(si:Option (Option V))(rg:List Addr):PV->Prop
 | .dat d=>∃v,si=some (some v)/\Dt K (m7 H as O) v d
 | .own l=>∃a xs,si=some (some (.ref a))/\a∈rg/\H a=some (.lst xs)/\o8 K (m7 H as O) xs l
 | .ob w c=>∃v R,si=some (some (.ref v))/\(w=none\/w=some v)/\(∀b∈R,b∈rg)/\kQ K (m7 H as O) H v R c
structure DS(K:i5)(O:List Addr)(e8:Hp)(as:As)(σ:St)(H:Hp)(ds:Ds):Prop where
 ls:σ.length=ds.length
 same:i0 e8 H
 new:∀a,some a∈as->e8 a=none/\∃u:Cl,H a=some u.1
 dg:∀a∈O,∃o,e8 a=some o
 gp:∃rg:Nat->List Addr,(∀i b,b∈rg i->some b∈as)/\(∀i j b,b∈rg i->b∈rg j->i=j)/\∀(i:Nat) (pv:PV),ds[i]? = some (some pv)->aI K O as H σ[i]? (rg i) pv
def Jq(K:i5)(O:List Addr)(as:As)(H:Hp)(si:Option (Option V)):PV->Prop
 | .dat d=>∃v,si=some (some v)/\Dt K (m7 H as O) v d
 | .own l=>∃a xs,si=some (some (.ref a))/\some a∈as/\H a=some (.lst xs)/\o8 K (m7 H as O) xs l
 | .ob w c=>∃v R,si=some (some (.ref v))/\(w=none\/w=some v)/\(∀b∈R,some b∈as)/\kQ K (m7 H as O) H v R c
theorem DS.slot{σ:St}{ds:Ds}(S:DS K O e8 as σ H ds)(i:Nat)(pv:PV)(h:ds[i]? = some (some pv)):Jq K O as H σ[i]? pv:=by
 obtain⟨rg,r1,r2,r3⟩:=S.gp;have z:=r3 i pv h;cases pv with
 |dat d=>exact z
 |own l=>obtain⟨a,xs,z1,z2,z3⟩:=z;exact⟨a,xs,z1,r1 i a z2,z3⟩
 |ob w c=>obtain⟨v,R,z1,z2,z3,z4⟩:=z;exact⟨v,R,z1,z2,λb hb=>r1 i b (z3 b hb),z4⟩
theorem aI.yY{bs:As}{si:Option (Option V)}{pv:PV}(h:aI K O as H si rg pv)(e:i0 (m7 H as O) (m7 H' bs O))(e2:∀b∈rg,∀o,H b=some o->H' b=some o)(hr:∀b∈rg,b∈rg'):aI K O bs H' si rg' pv:=by
 cases pv with
 |dat d=>obtain⟨v,z1,z⟩:=h;exact⟨v,z1,z.same e⟩
 |own l=>obtain⟨a,xs,z1,z2,z3,z⟩:=h;exact⟨a,xs,z1,hr a z2,e2 a z2 _ z3,z.same e⟩
 |ob w c=>obtain⟨v,R,z1,z2,z3,z⟩:=h;exact⟨v,R,z1,z2,λb hb=>hr b (z3 b hb),z.same e λb hb=>e2 b (z3 b hb)⟩
def U9(fr:Bool)(as:As):As:=if fr=true then as else[]
theorem om{fr:Bool}{b:Addr}(h:some b∈U9 fr as):some b∈as:=by
 unfold U9 at h;split at h
 . exact h
 . simp at h
def RX(K:i5)(O:List Addr)(va:As)(H H':Hp)(v:V):PV->Prop
 | .dat d=>Dt K (m7 H' va O) v d
 | .own l=>∃a xs,v=.ref a/\H a=none/\H' a=some (.lst xs)/\o8 K (m7 H' (some a::va) O) xs l
 | .ob w c=>∃o R,v=.ref o/\(w=none\/w=some o)/\(∀b∈R,H b=none)/\kQ K (m7 H' (R.map some++va) O) H' o R c
structure pK(H:Hp)(va:As)(O:List Addr):Prop where
 o:∀a∈O,∃u,H a=some u
 a:∀a,some a∈va->∃u,H a=some u
section
variable{K:i5}{O:List Addr}{e8 H H' H2:Hp}{as va:As}{σ:St}{ds:Ds}{v:V}{pv:PV}{fr:Bool}
theorem pK.same(D:pK H va O)(e:i0 H H'):pK H' va O:=⟨λa h=>let ⟨u,z⟩:=D.o a h;⟨u,e _ _ z⟩,λa h=>let ⟨u,z⟩:=D.a a h;⟨u,e _ _ z⟩⟩
theorem DS.dm(S:DS K O e8 as σ H ds):pK H (U9 fr as) O:=⟨λa h=>let ⟨u,z⟩:=S.dg a h;⟨u,S.same _ _ z⟩,λa h=>let ⟨_,z⟩:=(S.new a (om h)).2;⟨_,z⟩⟩
theorem DS.nO(S:DS K O e8 as σ H ds)(h:some a∈as):a∉O:=λz=>by obtain⟨o,e⟩:=S.dg a z;rw[(S.new a h).1]at e;cases e
theorem DS.grow(S:DS K O e8 as σ H ds)(e:i0 H H'):DS K O e8 as σ H' ds :=
 ⟨S.ls,S.same.trans e,λa h=>⟨(S.new a h).1,let ⟨o,z⟩:=(S.new a h).2;⟨o,e _ _ z⟩⟩,S.dg,let ⟨rg,r1,r2,r3⟩:=S.gp;⟨rg,r1,r2,λi pv h=>(r3 i pv h).yY (L6 e) (λb _ o z=>e _ _ z) λ_ z=>z⟩⟩
theorem RX.grow(h:RX K O va H H' v pv)(e:i0 H' H2):RX K O va H H2 v pv:=by
 cases pv with
 |dat d=>exact Dt.same (L6 e) h
 |own l=>obtain⟨a,xs,e1,e2,e3,h⟩:=h;exact⟨a,xs,e1,e2,e _ _ e3,h.same (L6 e)⟩
 |ob w c=>obtain⟨o,R,e1,e2,e3,h⟩:=h;exact⟨o,R,e1,e2,e3,h.same (L6 e) λb _ u z=>e _ _ z⟩
theorem RX.back(h:RX K O va H H' v pv)(e:i0 H2 H):RX K O va H2 H' v pv:=by
 cases pv with
 |dat d=>exact h
 |own l=>obtain⟨a,xs,e1,e2,e3,h⟩:=h;exact⟨a,xs,e1,e.free e2,e3,h⟩
 |ob w c=>obtain⟨o,R,e1,e2,e3,h⟩:=h;exact⟨o,R,e1,e2,λb hb=>e.free (e3 b hb),h⟩
theorem kQ.U9{c:OD}(h:kQ K (m7 H' (R.map some++va) O) H' o R c)(n:∀b∈R,b∉O/\some b∉va):Dt K (m7 H' va O) (.ref o) c.d :=
 h.dt (U6 (i0.refl _) λb z=>M9 _ z) λb hb u z=>F0.mpr ⟨(n b hb).1,(n b hb).2,z⟩
theorem RX.dt(h:RX K O va H H' v pv)(D:pK H va O):Dt K (m7 H' va O) v pv.d:=by
 have nw:∀a,H a=none->a∉O/\some a∉va:=λa e2=>by
  refine⟨λz=>?_,λz=>?_⟩
  . obtain⟨u,z⟩:=D.o a z;rw[e2]at z;cases z
  . obtain⟨u,z⟩:=D.a a z;rw[e2]at z;cases z
 cases pv with
 |dat d=>exact h
 |ob w c=>obtain⟨o,R,rfl,_,e3,h⟩:=h;exact h.U9 λb hb=>nw b (e3 b hb)
 |own l =>
  obtain⟨a,xs,rfl,e2,e3,h⟩:=h;exact .lst (D9.of (F0.mpr ⟨(nw a e2).1,(nw a e2).2,e3⟩)) (h.same (U6 (i0.refl _) λb z=>A0 _ z))
theorem RX.less(h:RX K O va H H' v pv)(s:∀b,some b∈vb->some b∈va):RX K O vb H H' v pv:=by
 cases pv with
 |dat d=>exact Dt.same (U6 (i0.refl _) s) h
 |ob w c =>
  obtain⟨o,R,rfl,e2,e3,h⟩:=h;refine⟨o,R,rfl,e2,e3,h.same (U6 (i0.refl _) λb z=>?_) (λ_ _ _ z=>z)⟩
  rcases List.mem_append.mp z with z|z
  . exact ia _ z
  . exact M9 _ (s b z)
 |own l =>
  obtain⟨a,xs,rfl,e2,e3,h⟩:=h;refine⟨a,xs,rfl,e2,e3,h.same (U6 (i0.refl _) λb z=>?_)⟩
  rcases List.mem_cons.mp z with z|z
  . rw[z];exact B7
  . exact A0 _ (s b z)
theorem gv:i0 (m7 H as O) (m7 H (U9 fr as) O):=U6 (i0.refl _) λ_ h=>om h
def Flat:c5->Bool
 | .none=>true
 | .bool _=>true
 | .int _=>true
 | .str _=>true
 |_=>false
theorem o8.append:∀{xs ys:List V} {ds es:List c5},o8 K H xs ds->o8 K H ys es->o8 K H (xs++ys) (ds++es)
 |_,_,_,_,.nil,h=>h
 |_,_,_,_,.cons a t,h=>.cons a (o8.append t h)
theorem o8.get':∀{xs:List V} {ds:List c5} {i:Nat} {x:V},o8 K H xs ds->xs[i]? = some x->∃d,ds[i]? = some d/\Dt K H x d
 |_,_,_,_,.nil,e=>by simp at e
 |_,_,0,_,.cons h _,e=>by simp at e;subst e;exact⟨_,rfl,h⟩
 |_,_,i+1,d,.cons _ t,e=>by
  obtain⟨x,h1,h2⟩:=o8.get' (i:=i) (x:=d) t (by simpa using e)
  exact⟨x,by simpa using h1,h2⟩
theorem o8.take:∀{xs:List V} {ds:List c5} (n:Nat),o8 K H xs ds->o8 K H (xs.take n) (ds.take n)
 |_,_,0,_=>by simp;exact .nil
 |_,_,_+1,.nil=>by simp;exact .nil
 |_,_,n+1,.cons h t=>by simp only[List.take_succ_cons];exact .cons h (o8.take n t)
theorem o8.drop:∀{xs:List V} {ds:List c5} (n:Nat),o8 K H xs ds->o8 K H (xs.drop n) (ds.drop n)
 |_,_,0,h=>by simpa using h
 |_,_,_+1,.nil=>by simp;exact .nil
 |_,_,n+1,.cons h t=>by simp only[List.drop_succ_cons];exact o8.drop n t
theorem o8.set:∀{xs:List V} {ds:List c5} (i:Nat) {x:V} {d:c5},o8 K H xs ds->Dt K H x d->o8 K H (xs.set i x) (ds.set i d)
 |_,_,_,_,_,.nil,_=>by simp;exact .nil
 |_,_,0,_,_,.cons _ t,h=>by simp only[V9];exact .cons h t
 |_,_,i+1,_,_,.cons a t,h=>by simp only[sv];exact .cons a (o8.set i t h)
end
def TX(K:i5)(fr:Bool)(te:TE)(F:DV):Prop :=
 ∀(O:List Addr) (e8:Hp) (as:As) (σ:St) (H:Hp) (ds:Ds) (pv:PV) (Q:VK),DS K O e8 as σ H ds->F ds=some pv->(∀v H',i0 H H'->RX K O (U9 fr as) H H' v pv->Q v H')->te σ H Q
structure PX(X:Cx)(fr:Bool)(e:Expr)(te:TE)(F:DV):Prop where
 p:PE X e te
 t:TX X.K fr te F
def oS(K:i5)(tt:TT)(F:DB):Prop :=
 ∀(O:List Addr) (e8:Hp) (as:As) (σ:St) (H:Hp) (ds:Ds) (b:Bool) (Q:Bool->Hp->Prop),DS K O e8 as σ H ds->F ds=some b->(∀H',i0 H H'->Q b H')->tt σ H Q
structure aJ(X:Cx)(e:Expr)(tt:TT)(F:DB):Prop where
 p:PT X e tt
 t:oS X.K tt F
structure nQ(X:Cx)(e:Expr)(tt:TT)(F:DB):Prop where
 p:PW X e tt
 t:oS X.K tt F
def TAX(K:i5)(fr:Bool)(t:TA)(F:DL):Prop :=
 ∀(O:List Addr) (e8:Hp) (as:As) (σ:St) (H:Hp) (ds:Ds) (l:List c5) (Q:List V->Hp->Prop),DS K O e8 as σ H ds->F ds=some l->(∀vs H',i0 H H'->o8 K (m7 H' (U9 fr as) O) vs l->Q vs H')->t σ H Q
structure eU(X:Cx)(fr:Bool)(es:List Expr)(t:TA)(F:DL):Prop where
 p:PA X es t
 t:TAX X.K fr t F
def cB(K:i5)(r:R2)(f:c5->c5->Option PV):Prop :=
 ∀(O:List Addr) (va:As) (H:Hp) (x y:V) (d e:c5) (pv:PV) (Q:VK),pK H va O->Dt K (m7 H va O) x d->Dt K (m7 H va O) y e->f d e=some pv->(∀v H',i0 H H'->RX K O va H H' v pv->Q v H')->r x y H Q
def YM(K:i5)(r:V->Hp->VK->Prop)(f:c5->Option PV):Prop :=
 ∀(O:List Addr) (va:As) (H:Hp) (x:V) (d:c5) (pv:PV) (Q:VK),pK H va O->Dt K (m7 H va O) x d->f d=some pv->(∀v H',i0 H H'->RX K O va H H' v pv->Q v H')->r x H Q
def oT(K:i5)(r:List V->Hp->VK->Prop)(f:FV):Prop :=
 ∀(O:List Addr) (va:As) (H:Hp) (xs:List V) (ds:List c5) (pv:PV) (Q:VK),pK H va O->o8 K (m7 H va O) xs ds->f ds=some pv->(∀v H',i0 H H'->RX K O va H H' v pv->Q v H')->r xs H Q
noncomputable def i8(i:Nat):DV:=λds=>match ds[i]? with
 |some (some (.dat d))=>some (.dat d)
 |_=>none
noncomputable def M6(i:Nat):DV:=λds=>match ds[i]? with
 |some (some pv)=>some (.dat pv.d)
 |_=>none
noncomputable def fC(d:c5):DV:=λ_=>some (.dat d)
section
variable{X:Cx}{fr:Bool}{e a b c:Expr}{es rest:List Expr}{te ta tb tc:TE}{tt tu:TT}{t:TA}{Fa Fb Fc F:DV}{Ft Fu:DB}{Fl:DL}{pos:Pos}
theorem WZ(i:Nat)(h:PE X e (E9 i)):PX X fr e (E9 i) (i8 i):=⟨h,by
 intro O e8 as σ H ds pv Q S hf q;unfold i8 at hf;split at hf
 . rename_i d hd;cases hf;obtain⟨v,e1,h⟩:=S.slot i _ hd;exact⟨v,e1,q v H (i0.refl H) (h.same gv)⟩
 . cases hf⟩
theorem UB(i:Nat)(h:PE X e (E9 i)):PX X false e (E9 i) (M6 i):=⟨h,by
 intro O e8 as σ H ds pv Q S hf q;unfold M6 at hf;split at hf
 . rename_i d hd;cases hf;have sl:=S.slot i _ hd;cases d with
   |dat d =>
    obtain⟨v,e1,h⟩:=sl;exact⟨v,e1,q v H (i0.refl H) (h.same gv)⟩
   |own l =>
    obtain⟨a,xs,e1,e2,e3,h⟩:=sl;exact⟨_,e1,q _ H (i0.refl H) (Dt.lst (D9.of (F0.mpr ⟨S.nO e2,by simp[U9],e3⟩)) (h.same gv))⟩
   |ob w c =>
    obtain⟨o,R,e1,_,e2,h⟩:=sl;exact⟨_,e1,q _ H (i0.refl H) (h.dt gv λb hb u z=>F0.mpr ⟨S.nO (e2 b hb),by simp[U9],z⟩)⟩
 . cases hf⟩
theorem AX{v:V}{d:c5}(h:PE X e (tC v))(hd:∀H,Dt X.K H v d):PX X fr e (tC v) (fC d):=⟨h,by intro O e8 as σ H ds pv Q S hf q;cases hf;exact q v H (i0.refl H) (hd _)⟩
theorem Xi{i:Int}{j}:PX X fr (.Constant (.int i) j pos) (tC (.int i)) (fC (.int i)):=AX KA λ_=>.int i
theorem Zm{i:Bool}{j}:PX X fr (.Constant (.bool i) j pos) (tC (.bl i)) (fC (.bool i)):=AX Zr λ_=>.bl i
theorem Xb{i:Str}{j}:PX X fr (.Constant (.str i) j pos) (tC (.str i)) (fC (.str i)):=AX Xw λ_=>.str i
theorem Xf{j}:PX X fr (.Constant .none j pos) (tC .non) (fC .none):=AX Xz λ_=>.non
def Tt(F:DV):DV:=λds=>(F ds).bind λpv=>if Flat pv.d=true then some (.dat pv.d)else none
noncomputable def c6(f:c5->c5->Option PV)(Fa Fb:DV):DV:=λds=>(Fa ds).bind λx=>(Fb ds).bind λy=>f x.d y.d
theorem Aa{f:c5->c5->Option PV}(hr:cB X.K r f)(ha:PX X fr a ta Fa)(hb:PX X fr b tb Fb):TX X.K fr (nA r ta tb) (c6 f Fa Fb):=by
 intro O e8 as σ H ds pv Q S hf q;unfold c6 at hf;cases h1:Fa ds with
 |none=>rw[h1]at hf;cases hf
 |some x =>
  rw[h1]at hf;simp only[i7]at hf;cases h2:Fb ds with
  |none=>rw[h2]at hf;cases hf
  |some y =>
   rw[h2]at hf;simp only[i7]at hf;refine ha.t O e8 as σ H ds x _ S h1 λv H1 e1 r1=>?_
   refine hb.t O e8 as σ H1 ds y _ (S.grow e1) h2 λu H2 e2 r2=>?_
   have S2:=(S.grow e1).grow e2;refine hr O (U9 fr as) H2 v u x.d y.d pv Q S2.dm ((r1.grow e2).dt S.dm) (r2.dt (S.grow e1).dm) hf λw H3 e3 r3=>?_
   exact q w H3 ((e1.trans e2).trans e3) (r3.back (e1.trans e2))
theorem nF{op:Operator}{f:c5->c5->Option PV}(ho:R8 X (U1 op) r)(hr:cB X.K r f)(ha:PX X fr a ta Fa)(hb:PX X fr b tb Fb):PX X fr (.BinOp a op b pos) (nA r ta tb) (c6 f Fa Fb) :=
 ⟨Zq ho ha.p hb.p,Aa hr ha hb⟩
theorem vB{f:c5->c5->Option PV}(ho:R8 X (V5 op) r)(hr:cB X.K r f)(hm:pA op b=false)(ha:PX X fr a ta Fa)(hb:PX X fr b tb Fb):PX X fr (.Compare a [op] [b] pos) (nA r ta tb) (c6 f Fa Fb) :=
 ⟨Vk ho ha.p hb.p hm,Aa hr ha hb⟩
theorem Zk{f:c5->c5->Option PV}(ho:ug X r)(hr:cB X.K r f)(ha:PX X fr a ta Fa)(hb:PX X fr b tb Fb)(hs:jk b):PX X fr (.Subscript a b pos) (nA r ta tb) (c6 f Fa Fb) :=
 ⟨Ad ho ha.p hb.p hs,Aa hr ha hb⟩
noncomputable def bo(f:c5->Option PV)(Fa:DV):DV:=λds=>(Fa ds).bind λx=>f x.d
theorem Zi{op:UnaryOp}{r:V->Hp->VK->Prop}{f:c5->Option PV}(ho:TM X (unaryOp op) r)(hr:YM X.K r f)(ha:PX X fr a ta Fa):PX X fr (.UnaryOp op a pos) (ZJ r ta) (bo f Fa):=⟨Zo ho ha.p,by
 intro O e8 as σ H ds pv Q S hf q;unfold bo at hf;cases h1:Fa ds with
 |none=>rw[h1]at hf;cases hf
 |some x =>
  rw[h1]at hf;simp only[i7]at hf;refine ha.t O e8 as σ H ds x _ S h1 λv H1 e1 r1=>?_
  refine hr O (U9 fr as) H1 v x.d pv Q (S.grow e1).dm (r1.dt S.dm) hf λw H3 e3 r3=>?_
  exact q w H3 (e1.trans e3) (r3.back e1)⟩
def zN:c5->Option Bool
 | .bool b=>some b
 |_=>none
noncomputable def j5(F:DV):DB:=λds=>(F ds).bind λx=>zN x.d
theorem vk{te:TE}(h:TX X.K fr te F):oS X.K (tB te) (j5 F):=by
 intro O e8 as σ H ds b Q S hf q;unfold j5 at hf;cases h1:F ds with
 |none=>rw[h1]at hf;cases hf
 |some x =>
  rw[h1]at hf;simp only[i7]at hf;refine h O e8 as σ H ds x _ S h1 λv H1 e1 r1=>?_
  have d:=r1.dt S.dm;generalize x.d=z at d hf;cases z with
  |bool c=>cases hf;cases d;exact⟨_,rfl,q H1 e1⟩
  |_=>cases hf
theorem FR(h:PX X fr e te F)(he:∀whole,isTrue e X.env whole=(do let v <- whole;cD e.pos;holding [v] (truthy v)):=by intro _;rfl):aJ X e (tB te) (j5 F):=⟨Xo h.p he,vk h.t⟩
theorem bC{f:c5->c5->Option PV}(ho:R8 X (V5 op) r)(hr:cB X.K r f)(hm:pA op b=false)(ha:PX X fr a ta Fa)(hb:PX X fr b tb Fb):aJ X (.Compare a [op] [b] pos) (Sn (nA r ta tb)) (j5 (c6 f Fa Fb)) :=
 ⟨UT ho ha.p hb.p hm,vk (Aa hr ha hb)⟩
noncomputable def cO(F:DB):DB:=λds=>(F ds).bind λb=>some (!b)
noncomputable def hG(F G:DB):DB:=λds=>(F ds).bind λb=>if b=true then G ds else some false
noncomputable def cz(F G:DB):DB:=λds=>(F ds).bind λb=>if b=true then some true else G ds
theorem Uh(h:oS X.K tt Ft):oS X.K (OS tt) (cO Ft):=by
 intro O e8 as σ H ds b Q S hf q;unfold cO at hf;cases h1:Ft ds with
 |none=>rw[h1]at hf;cases hf
 |some x =>
  rw[h1]at hf;cases hf;exact h O e8 as σ H ds x _ S h1 q
theorem Ui(h:oS X.K tt Ft)(k:oS X.K tu Fu):oS X.K (OV tt tu) (hG Ft Fu):=by
 intro O e8 as σ H ds b Q S hf q;unfold hG at hf;cases h1:Ft ds with
 |none=>rw[h1]at hf;cases hf
 |some x =>
  rw[h1]at hf;simp only[i7]at hf;refine h O e8 as σ H ds x _ S h1 λH1 e1=>?_
  cases x with
  |true=>exact k O e8 as σ H1 ds b Q (S.grow e1) hf λH2 e2=>q H2 (e1.trans e2)
  |false=>cases hf;exact q H1 e1
theorem Ws(h:oS X.K tt Ft)(k:oS X.K tu Fu):oS X.K (WA tt tu) (cz Ft Fu):=by
 intro O e8 as σ H ds b Q S hf q;unfold cz at hf;cases h1:Ft ds with
 |none=>rw[h1]at hf;cases hf
 |some x =>
  rw[h1]at hf;simp only[i7]at hf;refine h O e8 as σ H ds x _ S h1 λH1 e1=>?_
  cases x with
  |false=>exact k O e8 as σ H1 ds b Q (S.grow e1) hf λH2 e2=>q H2 (e1.trans e2)
  |true=>cases hf;exact q H1 e1
theorem UQ(h:aJ X a tt Ft):aJ X (.UnaryOp .Not a pos) (OS tt) (cO Ft):=⟨Xp h.p,Uh h.t⟩
theorem PH(h:aJ X a tt Ft):nQ X (.BoolOp .And [a] pos) tt Ft:=⟨pw_and1 h.p,h.t⟩
theorem UO(h:aJ X a tt Ft):nQ X (.BoolOp .Or [a] pos) tt Ft:=⟨pw_or1 h.p,h.t⟩
theorem UP(h:aJ X a tt Ft)(k:nQ X (.BoolOp .And (b::rest) pos) tu Fu):nQ X (.BoolOp .And (a::b::rest) pos) (OV tt tu) (hG Ft Fu):=⟨pw_and h.p k.p,Ui h.t k.t⟩
theorem Xm(h:aJ X a tt Ft)(k:nQ X (.BoolOp .Or (b::rest) pos) tu Fu):nQ X (.BoolOp .Or (a::b::rest) pos) (WA tt tu) (cz Ft Fu):=⟨pw_or h.p k.p,Ws h.t k.t⟩
theorem nQ.pt(h:nQ X a tt Ft):aJ X a tt Ft:=⟨PW.pt h.p,h.t⟩
noncomputable def kJ(Fa Fb:DV):DV:=λds=>(j5 Fa ds).bind λb=>if b=true then Fb ds else some (.dat (.bool false))
noncomputable def GR(Fa Fb:DV):DV:=λds=>(j5 Fa ds).bind λb=>if b=true then some (.dat (.bool true))else Fb ds
noncomputable def rF(Fa:DV):DV:=λds=>(j5 Fa ds).bind λb=>some (.dat (.bool !b))
theorem Xc{op}(h:PX X fr a ta Fa):PX X fr (.BoolOp op [a] pos) ta Fa:=⟨Xx h.p,h.t⟩
theorem Xl(h:PX X fr a ta Fa)(k:PX X fr (.BoolOp .And (b::rest) pos) tb Fb):PX X fr (.BoolOp .And (a::b::rest) pos) (Sw ta tb) (kJ Fa Fb):=⟨XA h.p k.p,by
 intro O e8 as σ H ds pv Q S hf q;unfold kJ at hf;cases h1:j5 Fa ds with
 |none=>rw[h1]at hf;cases hf
 |some x =>
  rw[h1]at hf;simp only[i7]at hf;refine vk h.t O e8 as σ H ds x _ S h1 λH1 e1=>?_
  cases x with
  |true=>exact k.t O e8 as σ H1 ds pv Q (S.grow e1) hf λv H2 e2 r=>q v H2 (e1.trans e2) (r.back e1)
  |false=>cases hf;exact q _ H1 e1 (Dt.bl _)⟩
theorem Zj(h:PX X fr a ta Fa)(k:PX X fr (.BoolOp .Or (b::rest) pos) tb Fb):PX X fr (.BoolOp .Or (a::b::rest) pos) (Wz ta tb) (GR Fa Fb):=⟨Zp h.p k.p,by
 intro O e8 as σ H ds pv Q S hf q;unfold GR at hf;cases h1:j5 Fa ds with
 |none=>rw[h1]at hf;cases hf
 |some x =>
  rw[h1]at hf;simp only[i7]at hf;refine vk h.t O e8 as σ H ds x _ S h1 λH1 e1=>?_
  cases x with
  |false=>exact k.t O e8 as σ H1 ds pv Q (S.grow e1) hf λv H2 e2 r=>q v H2 (e1.trans e2) (r.back e1)
  |true=>cases hf;exact q _ H1 e1 (Dt.bl _)⟩
theorem Xe(h:PX X fr a ta Fa):PX X fr (.UnaryOp .Not a pos) (Sr ta) (rF Fa):=⟨Xy h.p,by
 intro O e8 as σ H ds pv Q S hf q;unfold rF at hf;cases h1:j5 Fa ds with
 |none=>rw[h1]at hf;cases hf
 |some x =>
  rw[h1]at hf;cases hf;exact vk h.t O e8 as σ H ds x _ S h1 λH1 e1=>q _ H1 e1 (Dt.bl _)⟩
noncomputable def jR(Ft:DB)(Fa Fb:DV):DV:=λds=>(Ft ds).bind λb=>if b=true then Fa ds else Fb ds
theorem Zl(hc:aJ X c tt Ft)(h:PX X fr a ta Fa)(k:PX X fr b tb Fb):PX X fr (.IfExp c a b pos) (ZL tt ta tb) (jR Ft Fa Fb):=⟨Qp hc.p h.p k.p,by
 intro O e8 as σ H ds pv Q S hf q;unfold jR at hf;cases h1:Ft ds with
 |none=>rw[h1]at hf;cases hf
 |some x =>
  rw[h1]at hf;simp only[i7]at hf;refine hc.t O e8 as σ H ds x _ S h1 λH1 e1=>?_
  cases x with
  |true=>exact h.t O e8 as σ H1 ds pv Q (S.grow e1) hf λv H2 e2 r=>q v H2 (e1.trans e2) (r.back e1)
  |false=>exact k.t O e8 as σ H1 ds pv Q (S.grow e1) hf λv H2 e2 r=>q v H2 (e1.trans e2) (r.back e1)⟩
def Mb(f g:c5->c5->Option PV)(Fa Fb Fc:DV):DV:=λds=>(Fa ds).bind λx=>(Fb ds).bind λy=>(f x.d y.d).bind λr=>(zN r.d).bind λk =>
 if k=true then(Fc ds).bind λz=>g y.d z.d else some (.dat (.bool false))
noncomputable def m6:DL:=λ_=>some []
noncomputable def i9(F:DV)(G:DL):DL:=λds=>(F ds).bind λx=>(G ds).bind λl=>some (x.d::l)
theorem Gb:eU X fr [] gI m6:=⟨gR,by intro O e8 as σ H ds l Q S hf q;cases hf;exact q [] H (i0.refl H) .nil⟩
theorem Qq(h:PX X fr e te F)(k:eU X fr es t Fl)(hs:j4 (e::es) X.env=(false,eval e X.env)::j4 es X.env:=by rfl):eU X fr (e::es) (cP te t) (i9 F Fl):=⟨bD h.p k.p hs,by
 intro O e8 as σ H ds l Q S hf q;unfold i9 at hf;cases h1:F ds with
 |none=>rw[h1]at hf;cases hf
 |some x =>
  cases h2:Fl ds with
  |none=>rw[h1,h2]at hf;cases hf
  |some m =>
   rw[h1,h2]at hf;cases hf;refine h.t O e8 as σ H ds x _ S h1 λv H1 e1 r1=>?_
   refine k.t O e8 as σ H1 ds m _ (S.grow e1) h2 λvs H2 e2 r2=>?_
   exact q (v::vs) H2 (e1.trans e2) (.cons ((r1.grow e2).dt S.dm) r2)⟩
theorem pK.fresh(D:pK H va O)(h:H p=none):p∉O/\some p∉va:=by
 refine⟨λz=>?_,λz=>?_⟩
 . obtain⟨u,z⟩:=D.o p z;rw[h]at z;cases z
 . obtain⟨u,z⟩:=D.a p z;rw[h]at z;cases z
theorem vy{l:List c5}(D:pK H va O)(h:H p=none)(hd:o8 K (m7 H va O) vs l):RX K O va H (upd H p (.tup vs)) (.ref p) (.dat (.tuple l)):=by obtain⟨h1,h2⟩:=D.fresh h;exact Dt.tup (N6.of (F0.mpr ⟨h1,h2,E8⟩)) (hd.same (L6 (i0.new h)))
theorem fk{l:List c5}(h:H p=none)(hd:o8 K (m7 H va O) vs l):RX K O va H (upd H p (.lst vs)) (.ref p) (.own l):=by
 refine⟨p,vs,rfl,h,E8,hd.same (cy λb o h1 h2 h3=>⟨h1,λz=>?_,?_⟩)⟩
 . rcases List.mem_cons.mp z with z|z
   . cases z;rw[h]at h3;cases h3
   . exact h2 z
 . exact i0.new h _ _ h3
noncomputable def m3(Fl:DL):DV:=λds=>(Fl ds).bind λl=>if l.length<=1000000 then some (.dat (.tuple l))else none
noncomputable def O7(Fl:DL):DV:=λds=>(Fl ds).bind λl=>if l.length<=1000000 then some (.own l)else none
theorem lQ{n:Nat}(h:n<=1000000):n<=B2:=P4 h (by rw[iu];decide)
theorem Xa{x1}(h:eU X fr es t Fl):PX X fr (.Tuple es x1 pos) (OQ t) (m3 Fl):=⟨Ky h.p,by
 intro O e8 as σ H ds pv Q S hf q;unfold m3 at hf;cases h1:Fl ds with
 |none=>rw[h1]at hf;cases hf
 |some l =>
  rw[h1]at hf;simp only[i7]at hf;split at hf
  . rename_i hl;cases hf;refine h.t O e8 as σ H ds l _ S h1 λvs H1 e1 r1=>⟨by rw[r1.length];exact lQ hl,λp hp=>?_⟩
    exact q _ _ (e1.trans (i0.new hp)) (RX.back (vy (S.grow e1).dm hp r1) e1)
  . cases hf⟩
theorem Xg(h:eU X fr es t Fl):PX X fr (.List es pos) (OT t) (O7 Fl):=⟨Kz h.p,by
 intro O e8 as σ H ds pv Q S hf q;unfold O7 at hf;cases h1:Fl ds with
 |none=>rw[h1]at hf;cases hf
 |some l =>
  rw[h1]at hf;simp only[i7]at hf;split at hf
  . rename_i hl;cases hf;refine h.t O e8 as σ H ds l _ S h1 λvs H1 e1 r1=>⟨by rw[r1.length];exact lQ hl,λp hp=>?_⟩
    exact q _ _ (e1.trans (i0.new hp)) (RX.back (fk hp r1) e1)
  . cases hf⟩
noncomputable def e9(F:FV)(Fl:DL):DV:=λds=>(Fl ds).bind F
theorem Sj{r:List V->Hp->VK->Prop}{f:FV}(hr:oT X.K r f)(h:eU X fr es t Fl):TX X.K fr (vn r t) (e9 f Fl):=by
 intro O e8 as σ H ds pv Q S hf q;unfold e9 at hf;cases h1:Fl ds with
 |none=>rw[h1]at hf;cases hf
 |some l =>
  rw[h1]at hf;simp only[i7]at hf;refine h.t O e8 as σ H ds l _ S h1 λvs H1 e1 r1=>?_
  refine hr O (U9 fr as) H1 vs l pv Q (S.grow e1).dm r1 hf λw H3 e3 r3=>?_
  exact q w H3 (e1.trans e3) (r3.back e1)
theorem lU{id:String}{x:Str}{p:Pos}{r:List V->Hp->VK->Prop}{f:FV}(hc:T9 X (.builtin id) r)(hr:oT X.K r f)(hg:Gl X x)(hm:X.mg x=none)(hv:ej x=some (.builtin id))(ha:eU X fr (e::es) t Fl)(hn:x ≠ "__name__":=by decide)(hdb:(x==("__debug__" : Str))=false:=by decide)(he:j4 (e::es) X.env=(false,eval e X.env)::j4 es X.env:=by rfl)(hpl:(A9 pos (j4 es X.env)).any (·.1)=false:=by rfl):PX X fr (.Call (.Name x p) (e::es) [] pos) (vn r t) (e9 f Fl):=⟨Bg hc hg hm hv ha.p hn hdb he hpl,Sj hr ha⟩
theorem za{T:String}{x:Str}{p:Pos}{r:List V->Hp->VK->Prop}{f:FV}(hc:T9 X (.type T) r)(hr:oT X.K r f)(hg:Gl X x)(hm:X.mg x=none)(hv:ej x=some (.type T))(ha:eU X fr (e::es) t Fl)(hn:x ≠ "__name__":=by decide)(hdb:(x==("__debug__" : Str))=false:=by decide)(he:j4 (e::es) X.env=(false,eval e X.env)::j4 es X.env:=by rfl)(hpl:(A9 pos (j4 es X.env)).any (·.1)=false:=by rfl):PX X fr (.Call (.Name x p) (e::es) [] pos) (vn r t) (e9 f Fl):=⟨qX hc hg hm hv ha.p hn hdb he hpl,Sj hr ha⟩
def B3(K:i5)(F:FV):Sp:=λvs H Q _=>∃(O:List Addr) (ds:List c5) (pv:PV),(∀a∈O,∃u,H a=some u)/\o8 K (m7 H [] O) vs ds/\F ds=some pv/\∀v H',i0 H H'->RX K O [] H H' v pv->Q v H'
theorem Ue{f:FV}(h:eU X fr es t Fl):TX X.K fr (pU (B3 X.K f) [] E t) (e9 f Fl):=by
 intro O e8 as σ H ds pv Q S hf q;unfold e9 at hf;cases h1:Fl ds with
 |none=>rw[h1]at hf;cases hf
 |some l =>
  rw[h1]at hf;simp only[i7]at hf;refine h.t O e8 as σ H ds l _ S h1 λvs H1 e1 r1=>?_
  have D:=(S.grow e1).dm (fr:=fr);rw[cX];have hh:∀H,m7 H (U9 fr as) O=m7 H [] (O++(U9 fr as).filterMap id):=λH=>oJ (bs:=[])
  refine⟨O++(U9 fr as).filterMap id,l,pv,λa ha=>?_,by rw[<-hh];exact r1,hf,λv H2 e2 r2=>q v H2 (e1.trans e2) ?_⟩
  . rcases List.mem_append.mp ha with ha|ha
    . exact D.o a ha
    . obtain⟨x,hx,e⟩:=List.mem_filterMap.mp ha;have e':x=some a:=e;subst e';exact D.a a hx
  . cases pv with
    |dat d =>
     have r2':Dt X.K (m7 H2 [] (O++(U9 fr as).filterMap id)) v d:=r2;rw[<-hh]at r2';exact r2'
    |own l =>
     obtain⟨a,xs,e3,e4,e5,r3⟩:=r2;refine⟨a,xs,e3,e1.free e4,e5,?_⟩;rw[show(some a::U9 fr as:As)=[some a]++U9 fr as from rfl,oJ]
     exact r3
    |ob w c =>
     obtain⟨o,R,e3,e4,e5,r3⟩:=r2;refine⟨o,R,e3,e4,λb hb=>e1.free (e5 b hb),?_⟩
     rw[oJ];rw[cX]at r3;exact r3
theorem UN{CX:nV}{k:Nat}{fd:O0}{ps:List Str}{x:Str}{p:Pos}{f':FV}(G:Z5 X.prog X.w X.K X.mg X.base CX k f fd ps (B3 X.K f'))(hr:J2 k X.A)(hg:Gl X x)(hm:X.mg x=some (.ref f))(hk:fL X.K (.ref f)=true)(hb:Binds X.K fd ps [])(hx:Passes CX X E)(ha:eU X fr (e::es) t Fl)(hdb:(x==("__debug__" : Str))=false:=by decide)(he:j4 (e::es) X.env=(false,eval e X.env)::j4 es X.env:=by rfl)(hpl:(A9 pos (j4 es X.env)).any (·.1)=false:=by rfl):
  PX X fr (.Call (.Name x p) (e::es) [] pos) (pU (B3 X.K f') [] E t) (e9 f' Fl):=⟨Ga G hr hg hm hk hb .nil hx ha.p hdb he hpl,Ue ha⟩
end
end
section
variable{H H1 H' H'' Hb e8:Hp}{O rg:List Addr}{X:Cx}{tg elt iter:Expr}{tl te:TE}{K:i5}{va vb as:As}{es ifs:List Expr}{k:Nat}{tp:Pos}{xs vs:List V}{t tt:TT}{F Fc:DB}
def U0(ds:Ds):Ds:=ds.map (Option.map λpv=>.dat pv.d)
theorem iW{b:Addr}{n:Nat}:some b∉(v5 n none:As):=λz=>by simp[DQ]at z
theorem VF{n:Nat}:m7 H (v5 n none) O=m7 H [] O:=by
 funext b
 delta m7;have h1:=iW (b:=b) (n:=n);by_cases c:b∈O
 . rw[c7 (.inl c),c7 (.inl c)]
 . rw[c9 (λz=>z.elim c h1),c9 (λz=>z.elim c (by simp))]
section
variable{K:i5}{O:List Addr}{e8 H H':Hp}{as:As}{σ:St}{ds:Ds}{v:V}{pv:PV}{fr:Bool}
theorem Jq.U0{si:Option (Option V)}{bs:As}(S:DS K O e8 as σ H ds)(h:Jq K O as H si pv)(hb:∀b,some b∈bs->some b∈as)(ho:∀b,(match pv with | .own _=>si=some (some (.ref b)) | .ob _ _=>some b∈as|_=>False)->some b∉bs):aI K O bs H si rg (.dat pv.d):=by
 cases pv with
 |dat d=>obtain⟨v,e1,h⟩:=h;exact⟨v,e1,h.same (U6 (i0.refl _) hb)⟩
 |own l =>
  obtain⟨a,xs,e1,e2,e3,h⟩:=h;exact⟨_,e1,.lst (D9.of (F0.mpr ⟨S.nO e2,ho a e1,e3⟩)) (h.same (U6 (i0.refl _) hb))⟩
 |ob w c=>obtain⟨v,R,e1,_,e2,h⟩:=h;exact⟨_,e1,h.dt (U6 (i0.refl _) hb) λb hb u z=>F0.mpr ⟨S.nO (e2 b hb),ho b (e2 b hb),z⟩⟩
theorem DS.U0(S:DS K O e8 as σ H ds):DS K O e8 (v5 ds.length none) σ H (U0 ds) where
 ls:=by simp[L2.U0,S.ls]
 same:=S.same
 new:=λa h=>absurd h iW
 dg:=S.dg
 gp:=⟨λ_=>[],λi b z=>absurd z (by simp),λi j b z=>absurd z (by simp),λi pv h=>by
  unfold L2.U0 at h;rw[P5]at h;cases hd:ds[i]? with
  |none=>rw[hd]at h;cases h
  |some x =>
   cases x with
   |none=>rw[hd]at h;cases h
   |some w =>
    rw[hd]at h;cases h;exact(S.slot i w hd).U0 S (λb z=>absurd z iW) (λa _=>iW)⟩
def uL(i:Nat)(ds:Ds):Ds:=match ds[i]? with
 |some (some (.own l))=>ds.set i (some (.dat (.list l)))
 |_=>ds
theorem DS.uL(S:DS K O e8 as σ H ds)(i:Nat):∃as',DS K O e8 as' σ H (uL i ds):=by
 delta L2.uL;split
 . rename_i l hd;obtain⟨rg,r1,r2,r3⟩:=S.gp;refine⟨as.filter λx=>decide (∀b∈rg i,x≠some b),?_⟩
   have sub:∀b,some b∈as.filter (λx=>decide (∀b∈rg i,x≠some b))->some b∈as/\b∉rg i:=λb z=>by obtain⟨z1,z2⟩:=List.mem_filter.mp z;exact⟨z1,λq=>pE z2 b q rfl⟩
   have sm:i0 (m7 H as O) (m7 H (as.filter λx=>decide (∀b∈rg i,x≠some b)) O):=U6 (i0.refl _) λb z=>(sub b z).1
   refine⟨by simp[S.ls],S.same,λa h=>S.new a (sub a h).1,S.dg,λj=>if j=i then[]else rg j,λj b hb=>?_,λj k b h1 h2=>?_,λj pv h=>?_⟩
   . dsimp only at hb;split at hb
     . simp at hb
     . rename_i hj;exact List.mem_filter.mpr ⟨r1 j b hb,decide_eq_true λb' q e=>hj (r2 j i b hb (by cases e;exact q))⟩
   . dsimp only at h1 h2;split at h1
     . simp at h1
     . split at h2
       . simp at h2
       . exact r2 j k b h1 h2
   . rw[mW]at h;by_cases hij:i=j
     . subst hij;rw[c7 rfl]at h;split at h
       . cases h;obtain⟨a,xs,e1,e2,e3,h⟩:=r3 i _ hd;exact⟨_,e1,.lst (D9.of (F0.mpr ⟨S.nO (r1 i a e2),λz=>(sub a z).2 e2,e3⟩)) (h.same sm)⟩
       . cases h
     . rw[c9 hij]at h;dsimp only;rw[c9 (λz=>hij z.symm)]
       exact(r3 j pv h).yY sm (λb _ o z=>z) λb z=>z
 . exact⟨as,S⟩
end
section
variable{X:Cx}{fr:Bool}{e:Expr}{te:TE}{F:DV}
noncomputable def B5(F:DV):DV:=λds=>F (U0 ds)
theorem Xk(h:PX X true e te F):PX X false e te (B5 F):=⟨h.p,by
 intro O e8 as σ H ds pv Q S hf q;refine h.t O e8 _ σ H _ pv Q S.U0 hf λv H' e r=>q v H' e ?_
 exact r.less λb z=>by simp[U9]at z⟩
end
def Jr(K:i5)(O:List Addr)(Hb:Hp)(J:It)(items:List c5):Prop :=
 ∀H',i0 Hb H'->∀i,(i<items.length->J.go i H')/\(items.length<=i->J.stop i H') /\
  ∀x H'',J.Jv i H' x H''->i<items.length->i0 H' H''/\∃d,items[i]? = some d/\∀vb:As,(∀b,some b∈vb->Hb b=none/\∃o,H' b=some o)->(∀b∈O,∃o,Hb b=some o)->Dt K (m7 H'' vb O) x d
def TIX(K:i5)(fr:Bool)(wi:TI)(Fi:DL):Prop :=
 ∀(O:List Addr) (e8:Hp) (as:As) (σ:St) (H:Hp) (ds:Ds) (items:List c5) (R:It->Hp->Prop),DS K O e8 as σ H ds->Fi ds=some items->(∀J H1,i0 H H1->Jr K O (m7 H1 (U9 fr as) []) J items->R J H1)->wi σ H R
structure jU(X:Cx)(fr:Bool)(tg e:Expr)(wi:TI)(Fi:DL):Prop where
 p:PI X tg e wi
 t:TIX X.K fr wi Fi
def IP(K:i5)(tl:TE):TI:=λσ H R=>tl σ H λx H1=>∃a,x=.ref a/\(((∃xs,D9 K H1 a xs)/\R (Oz K a) H1)\/((∃xs,N6 K H1 a xs)/\R (Itt K a) H1))
theorem Kv{l:Expr}(hl:PE X l tl):PI X tg l (IP X.K tl):=by
 intro pins s σ H R I h;refine C4 (hl pins s σ H _ I h) λv s1 ⟨x,H1,I1,r1,q1⟩=>?_
 obtain⟨a,e,(⟨⟨xs,hq⟩,q⟩|⟨⟨xs,hq⟩,q⟩)⟩:=q1
 . subst e;cases r1;obtain⟨its,rv,p,hz⟩:=I1.list hq;refine DJ p.isList ?_;refine⟨s1.heap.objs.size,[s1.heap.objs.size],_,_,H1,rfl,I1.kept (t':=s1.toks) λb o e=>E5 _ e,JF a _,⟨_,S7 _ rfl,rfl,rfl⟩,λb hb=>?_,q⟩
   have e:b=s1.heap.objs.size:=by simpa using hb
   subst e;exact I1.yt (l5 _) (I1.A7.fresh (l5 _))
 . subst e;cases r1;obtain⟨its,rv,p,hz⟩:=I1.tuple hq;refine wpAny_pyIter_tuple (show s1.heap.IsTuple a its.toArray from p) ?_
   refine⟨s1.heap.objs.size,[s1.heap.objs.size],_,_,H1,rfl,I1.kept (t':=s1.toks) λb o e=>E5 _ e,Ht a _,⟨_,S7 _ rfl,rfl,rfl⟩,λb hb=>?_,q⟩
   have e:b=s1.heap.objs.size:=by simpa using hb
   subst e;exact I1.yt (l5 _) (I1.A7.fresh (l5 _))
noncomputable def bp:c5->Option (List c5)
 | .list l=>some l
 | .tuple l=>some l
 |_=>none
noncomputable def F7(F:DV):DL:=λds=>(F ds).bind λpv=>bp pv.d
theorem rB{x:V}{d:c5}(h:Dt K (m7 H1 va O) x d)(e:i0 (m7 H1 va []) H')(e2:i0 H' H'')(hv:∀b,some b∈vb->m7 H1 va [] b=none/\∃o,H' b=some o):Dt K (m7 H'' vb O) x d :=
 h.same (cy λb o h1 h2 h3=>by
  have hb:m7 H1 va [] b=some o:=F0.mpr ⟨by simp,h2,h3⟩
  refine⟨h1,λz=>?_,e2 _ _ (e _ _ hb)⟩
  rw[(hv b z).1]at hb;cases hb)
theorem vV:i0 (m7 H1 va O) (m7 H1 va []):=cy λb o _ h2 h3=>⟨by simp,h2,h3⟩
section
variable{X:Cx}{fr:Bool}{tg e a b:Expr}{te:TE}{ta:TA}{F:DV}{Fl:DL}{p pos:Pos}
theorem Ve(h:PX X fr e te F):jU X fr tg e (IP X.K te) (F7 F):=⟨Kv h.p,by
 intro O e8 as σ H ds items R S hf q;unfold F7 at hf;cases h1:F ds with
 |none=>rw[h1]at hf;cases hf
 |some pv =>
  rw[h1]at hf;simp only[i7]at hf;refine h.t O e8 as σ H ds pv _ S h1 λv H1 e1 r1=>?_
  have d:=r1.dt S.dm;generalize pv.d=z at d hf;cases d with
  |lst hs ht =>
   rename_i a xs l;cases hf;have hl:=ht.length;refine⟨a,rfl,.inl ⟨⟨xs,o6.seq hs⟩,q _ H1 e1 λH' e' i=>?_⟩⟩
   have hs':D9 X.K H' a xs:=e'.seq (vV.seq hs);refine⟨λhi=>⟨xs,xs[i]'(by lia),hs',G0 _⟩,λhi=>⟨xs,hs',by lia⟩,λx H'' y hi=>?_⟩
   obtain⟨e3,y⟩:=y;subst e3;obtain⟨d,ed,dd⟩:=ht.get' (y xs hs');exact⟨i0.refl _,d,ed,λvb hv _=>rB dd e' (i0.refl _) hv⟩
  |tup hs ht =>
   rename_i a xs l;cases hf;have hl:=ht.length;refine⟨a,rfl,.inr ⟨⟨xs,o6.cL hs⟩,q _ H1 e1 λH' e' i=>?_⟩⟩
   have hs':N6 X.K H' a xs:=e'.cL (vV.cL hs);refine⟨λhi=>⟨xs,xs[i]'(by lia),hs',G0 _⟩,λhi=>⟨xs,hs',by lia⟩,λx H'' y hi=>?_⟩
   obtain⟨e3,y⟩:=y;subst e3;obtain⟨d,ed,dd⟩:=ht.get' (y xs hs');exact⟨i0.refl _,d,ed,λvb hv _=>rB dd e' (i0.refl _) hv⟩
  |_=>cases hf⟩
def U5(lo:Int)(n:Nat):List c5:=(v8 n).map λk=>.int (lo+(k:Nat))
theorem Yq{lo:Int}{n:Nat}:Jr K O Hb (TY lo n) (U5 lo n):=by
 intro H' e i;have hl:(U5 lo n).length=n:=by simp[U5]
 refine⟨λhi=>(by rw[hl]at hi;exact hi),λhi=>(by rw[hl]at hi;exact hi),λx H'' y hi=>?_⟩
 obtain⟨e1,e2⟩:=y;subst e1;subst e2;rw[hl]at hi;refine⟨i0.refl _,.int (lo+i),?_,λvb _ _=>.int _⟩
 simp[U5,ky hi]
def G6:List c5->Option (List c5)
 | [.int j]=>@ite _ (-(4611686018427387904)<=j/\j<4611686018427387904) (Od _) (some (U5 0 j.toNat)) none
 |_=>none
noncomputable def D5(f:List c5->Option (List c5))(Fl:DL):DL:=λds=>(Fl ds).bind f
theorem HX(hg:Gl X "range")(hm:X.mg "range" = none)(ha:eU X fr [a] ta Fl)(hs:j4 [a] X.env=[(false,eval a X.env)]:=by rfl):jU X fr tg (.Call (.Name "range" p) [a] [] pos) (SU ta) (D5 G6 Fl):=⟨Kw hg hm ha.p hs,by
 intro O e8 as σ H ds items R S hf q;unfold D5 at hf;cases h1:Fl ds with
 |none=>rw[h1]at hf;cases hf
 |some l =>
  rw[h1]at hf;simp only[i7]at hf;refine ha.t O e8 as σ H ds l _ S h1 λvs H1 e1 r1=>?_
  unfold G6 at hf;split at hf
  . rename_i j;split at hf
    . rename_i hj;cases hf;cases r1 with
      |cons r rr =>
       cases r;cases rr;exact⟨j,rfl,hj.1,hj.2,q _ H1 e1 Yq⟩
    . cases hf
  . cases hf⟩
def SS(K:i5)(ta:TA):TI:=λσ H R=>ta σ H λvs H1=>∃a b k1 k2,vs=[.ref a,.ref b]/\(∃xs,cA k1 K H1 a xs)/\(∃ys,cA k2 K H1 b ys)/\R (ZZ k1 k2 K a b) H1
theorem Vf(hg:Gl X "zip")(hm:X.mg "zip" = none)(ha:PA X [a,b] ta)(hs:j4 [a,b] X.env=[(false,eval a X.env),(false,eval b X.env)]:=by rfl)(hs2:j4 [b] X.env=[(false,eval b X.env)]:=by rfl):
  PI X (.Tuple es k tp) (.Call (.Name "zip" p) [a,b] [] pos) (SS X.K ta):=by
 intro pins s σ H R I h;refine Call_ (oH I hg hm boot_zip (xM (C4 (ha pos pins s σ H _ I h) λus s1 ⟨vs,H1,I1,r1,q1⟩=>?_) (by rw[hs,hs2]) (by rw[hs2];rfl)))
 obtain⟨x,y,k1,k2,e,⟨xs,hx⟩,⟨ys,hy⟩,q⟩:=q1;subst e;obtain⟨u,v,e,r2,r3⟩:=vals2 r1;subst e;cases r2;cases r3;obtain⟨us,sx⟩:=I1.aq hx;obtain⟨vs,sy⟩:=I1.aq hy;refine Mz sx sy λh' Z kk=>?_
 refine wpAny_pyIter_zip Z.hz ?_;have I2:Inv X pins σ H1 {s1 with heap:=h'}:=I1.kept (t':=s1.toks) kk
 refine⟨s1.heap.objs.size+4,_,_,_,H1,rfl,I2,OJ (OC _),Z,λb hb=>?_,q⟩
 have hb':b=s1.heap.objs.size+4\/b=s1.heap.objs.size+2\/b=s1.heap.objs.size+3\/b=s1.heap.objs.size\/b=s1.heap.objs.size+1:=by simpa using hb
 have hge:s1.heap.objs.size<=b:=by
  rcases hb' with e|e|e|e|e<;>rw[e]
  . exact se _ _
  . exact se _ _
  . exact se _ _
  . exact l5 _
  . exact se _ _
 exact I1.yt hge (I1.A7.fresh hge)
theorem i0.aq{kd:Bool}{a:Addr}(e:i0 H H')(h:cA kd K H a xs):cA kd K H' a xs:=by
 cases kd
 . exact e.seq h
 . exact e.cL h
theorem Dt.aq{v:V}{d:c5}{l:List c5}(h:Dt K H v d)(hd:bp d=some l):∃a kd xs,v=.ref a/\cA kd K H a xs/\o8 K H xs l:=by
 cases h with
 |lst hs ht=>cases hd;exact⟨_,false,_,rfl,hs,ht⟩
 |tup hs ht=>cases hd;exact⟨_,true,_,rfl,hs,ht⟩
 |_=>cases hd
noncomputable def cZ:List c5->Option (List c5)
 | [d,e]=>(bp d).bind λl=>(bp e).bind λm=>some (List.zipWith (λx y=>.tuple [x,y]) l m)
 |_=>none
theorem Vd(hg:Gl X "zip")(hm:X.mg "zip" = none)(ha:eU X fr [a,b] ta Fl)(hs:j4 [a,b] X.env=[(false,eval a X.env),(false,eval b X.env)]:=by rfl)(hs2:j4 [b] X.env=[(false,eval b X.env)]:=by rfl):
  jU X fr (.Tuple es k tp) (.Call (.Name "zip" p) [a,b] [] pos) (SS X.K ta) (D5 cZ Fl):=⟨Vf hg hm ha.p hs hs2,by
 intro O e8 as σ H ds items R S hf q;unfold D5 at hf;cases h1:Fl ds with
 |none=>rw[h1]at hf;cases hf
 |some l =>
  rw[h1]at hf;simp only[i7]at hf;refine ha.t O e8 as σ H ds l _ S h1 λvs H1 e1 r1=>?_
  unfold cZ at hf;split at hf
  . rename_i d1 d2;cases hl:bp d1 with
    |none=>rw[hl]at hf;cases hf
    |some l1 =>
     cases hl2:bp d2 with
     |none=>rw[hl,hl2]at hf;cases hf
     |some l2 =>
      rw[hl,hl2]at hf;cases hf;cases r1 with
      |cons r rr =>
       cases rr with
       |cons r' rr =>
        cases rr;obtain⟨a,k1,xs,rfl,s1,t1⟩:=r.aq hl;obtain⟨b,k2,ys,rfl,s2,t2⟩:=r'.aq hl2;refine⟨a,b,k1,k2,rfl,⟨xs,o6.aq s1⟩,⟨ys,o6.aq s2⟩,q _ H1 e1 λH' e' i=>?_⟩
        have s1':cA k1 X.K H' a xs:=e'.aq (vV.aq s1);have s2':cA k2 X.K H' b ys:=e'.aq (vV.aq s2);have g1:=t1.length;have g2:=t2.length;rw[List.length_zipWith];refine⟨λhi=>⟨xs,ys,xs[i]'(by lia),ys[i]'(by lia),s1',s2',G0 _,G0 _⟩,λhi=>⟨xs,ys,s1',s2',by lia⟩,λx H'' y hi=>?_⟩
        obtain⟨pp,z1,z2,x',y',z3,z4⟩:=y;obtain⟨z5,z6⟩:=z4 xs ys s1' s2';subst z1;subst z3;obtain⟨dx,ex,hx⟩:=t1.get' z5;obtain⟨dy,ey,hy⟩:=t2.get' z6;refine⟨i0.new z2,.tuple [dx,dy],by rw[List.getElem?_zipWith,ex,ey],λvb hv hO=>?_⟩
        refine .tup (N6.of (F0.mpr ⟨λz=>?_,λz=>?_,E8⟩)) (.cons (rB hx e' (i0.new z2) hv) (.cons (rB hy e' (i0.new z2) hv) .nil))
        . obtain⟨o,z⟩:=hO _ z;rw[e' _ _ z]at z2;cases z2
        . obtain⟨_,o,z⟩:=hv _ z;rw[z]at z2;cases z2
  . cases hf⟩
end
def zO(K:i5)(n:Nat)(g:TG)(gt:c5->Option (List c5)):Prop :=
 ∀(O:List Addr) (va:As) (H:Hp) (v:V) (d:c5) (σ:St) (bs:List c5) (Q:St->Hp->Prop),Dt K (m7 H va O) v d->gt d=some bs->(∀vs,o8 K (m7 H va O) vs bs->vs.length=n->Q (vs.map some++σ) H)->g v (v5 n none++σ) H Q
def k8:c5->Option (List c5):=λd=>some [d]
def P1(n:Nat):c5->Option (List c5)
 | .tuple l=>if l.length=n then some l else none
 |_=>none
theorem OP:zO K 1 (Y8 0) k8:=by intro O va H v d σ bs Q hd hg q;cases hg;exact q [v] (.cons hd .nil) rfl
theorem a0i{α:Type}:∀{l:List α},l.length=2->∃x y,l=[x,y]
 | [x,y],_=>⟨x,y,rfl⟩
theorem OO:zO K 2 (BQ K 2 (tF (Y8 0) (tF (Y8 1) IV))) (P1 2):=by
 intro O va H v d σ bs Q hd hg q;cases hd with
 |tup hs ht =>
  rename_i a xs l;have hg':(if l.length=2 then some l else none)=some bs:=hg
  split at hg'
  . rename_i hl;have e:l=bs:=aA hg';rw[e]at ht hl;have hx:xs.length=2:=ht.length.trans hl;obtain⟨x,y,rfl⟩:=a0i hx;exact⟨a,[x,y],rfl,o6.cL hs,rfl,x,[y],rfl,y,[],rfl,rfl,q [x,y] ht rfl⟩
  . cases hg'
 |_=>cases hg
def M0(l:List c5):Ds:=l.map λd=>some (.dat d)
@[simp] theorem mn:M0 []=[]:=rfl
@[simp] theorem jT(d:c5)(l:List c5):M0 (d::l)=some (.dat d)::M0 l:=rfl
theorem o8.slots{l:List c5}(h:o8 K H vs l){i:Nat}{pv:PV}(e:(M0 l)[i]? = some (some pv)):∃d v,pv=.dat d/\vs[i]? = some v/\Dt K H v d:=by
 unfold M0 at e;rw[P5]at e;cases hd:l[i]? with
 |none=>rw[hd]at e;cases e
 |some d =>
  rw[hd]at e;cases e;obtain⟨x,h1,h2⟩:=h.get hd;exact⟨d,x,rfl,h1,h2⟩
theorem yq{n:Nat}:m7 H (v5 n none++as) O=m7 H as O:=by
 funext b
 delta m7;have:some b∈v5 n none++as↔some b∈as:=by rw[iz];exact⟨λz=>z.elim (λz=>absurd z iW) id,.inr⟩
 by_cases c:b∈O\/some b∈as
 . rw[c7 (c.imp id this.mpr),c7 c]
 . rw[c9 (λz=>c (z.imp id this.mp)),c9 c]
theorem DS.pre{σ:St}{ds:Ds}{l:List c5}(S:DS K O e8 as σ H ds)(h:o8 K (m7 H as O) vs l):
  DS K O e8 (v5 l.length none++as) (vs.map some++σ) H (M0 l++ds) where
 ls:=by simp[M0,S.ls,h.length]
 same:=S.same
 new:=λa z=>S.new a ((List.mem_append.mp z).elim (λz=>absurd z iW) id)
 dg:=S.dg
 gp:=by
  obtain⟨rg,r1,r2,r3⟩:=S.gp;have hl:=h.length;have ld:(M0 l).length=l.length:=by simp[M0]
  refine⟨λi=>if i<l.length then[]else rg (i-l.length),λi b z=>?_,λi j b h1 h2=>?_,λi pv e=>?_⟩
  . dsimp only at z;split at z
    . simp at z
    . exact M9 _ (r1 _ b z)
  . dsimp only at h1 h2;split at h1
    . simp at h1
    . split at h2
      . simp at h2
      . have:=r2 _ _ b h1 h2
        lia
  . rw[DW]at e;split at e
    . rename_i hi;rw[ld]at hi;obtain⟨d,v,rfl,h1,h2⟩:=h.slots e;refine⟨v,?_,by rw[yq];exact h2⟩
      rw[sD (by simp;lia),P5,h1]
      rfl
    . rename_i hi;rw[ld]at hi e;dsimp only;rw[c9 hi,sF (by simp;lia)]
      simp only[F9,hl];exact(r3 _ pv e).yY (by rw[yq];exact i0.refl _) (λb _ o z=>z) λb z=>z
def D6(gt:c5->Option (List c5))(Fc:DB)(Fe:DV)(ds:Ds):List c5->Option (List c5)
 | []=>some []
 |x::r=>(gt x).bind λbs=>(Fc (M0 bs++ds)).bind λb=>if b=true then(Fe (M0 bs++ds)).bind λy=>(D6 gt Fc Fe ds r).bind λl=>some (y.d::l)else D6 gt Fc Fe ds r
noncomputable def k6(Fi:DL)(gt:c5->Option (List c5))(Fc:DB)(Fe:DV):DV:=λds=>(Fi ds).bind λitems=>if items.length<=1000000 then(D6 gt Fc Fe ds items).bind λl=>some (.own l)else none
structure lA(X:Cx)(ifs:List Expr)(t:TT)(F:DB):Prop where
 p:vd X ifs t
 t:oS X.K t F
noncomputable def k7:DB:=λ_=>some true
theorem Ku:lA X [] Sv k7:=⟨Qj,by intro O e8 as σ H ds b Q S hf q;cases hf;exact q H (i0.refl H)⟩
theorem Kt{c:Expr}(h:aJ X c t F):lA X [c] t F:=⟨Qi h.p,h.t⟩
theorem xZ{bs nb:List Str}{scope:Y4}{pos:Pos}{wi:TI}{g:TG}{Fi:DL}{gt:c5->Option (List c5)}{Fe:DV}(hc:X.calm=true)(B:lG X bs nb scope)(hi:jU X true tg iter wi Fi)(go:nc bs.length g)(hg:∀cl C fp s H pins,PG (X4 X bs nb scope cl C fp s H pins) tg g)(hgt:zO X.K bs.length g gt)(ht:∀cl C fp s H pins,lA (X4 X bs nb scope cl C fp s H pins) ifs tt Fc)(he:∀cl C fp s H pins,PX (X4 X bs nb scope cl C fp s H pins) true elt te Fe)(hs:∀x,eu iter X.env x=pure x:=by intro _;rfl):PX X true (.ListComp elt [⟨tg,iter,ifs,0⟩] scope pos) (lg bs wi g tt te) (k6 Fi gt Fc Fe):=⟨Vj hc B hi.p go hg (λ_ _ _ _ _ _=>(ht _ _ _ _ _ _).p) (λ_ _ _ _ _ _=>(he _ _ _ _ _ _).p) hs,by
 intro O e8 as σ H ds pv Q S hf q;have tE:TX X.K true te Fe:=(he [] 0 [] X.O5 X.e8 []).t;have tC:oS X.K tt Fc:=(ht [] 0 [] X.O5 X.e8 []).t;unfold k6 at hf;cases h1:Fi ds with
 |none=>rw[h1]at hf;cases hf
 |some items =>
  rw[h1]at hf;simp only[i7]at hf;split at hf
  . rename_i hn;cases h2:D6 gt Fc Fe ds items with
    |none=>rw[h2]at hf;cases hf
    |some l =>
     rw[h2]at hf;cases hf;refine hi.t O e8 as σ H ds items _ S h1 λJ H1 e1 it=>?_
     have S1:=S.grow e1;have it':Jr X.K O (m7 H1 as []) J items:=it;refine⟨items.length,λi ys H'=>i<=items.length/\i0 H1 H'/\∃l1 l2,o8 X.K (m7 H' as O) ys l1/\D6 gt Fc Fe ds (items.drop i)=some l2/\l1++l2=l,lQ hn,⟨bN _,i0.refl _,[],l,.nil,h2,rfl⟩,?_⟩
     rintro i ys H' ⟨hi',e2,l1,l2,d1,c2,el⟩;have S2:=S1.grow e2;obtain⟨go',st',yl'⟩:=it' H' (o6.trans e2) i;by_cases hlt:i<items.length
     . refine .inr ⟨go' hlt,hlt,λx H'' y=>?_⟩
       obtain⟨e3,d,ed,dt⟩:=yl' x H'' y hlt;have S3:=S2.grow e3;have dx:Dt X.K (m7 H'' as O) x d:=dt as (λb hb=>⟨by delta m7;rw[c7 (.inr hb)],let ⟨_,z⟩:=(S2.new b hb).2;⟨_,z⟩⟩) λb hb=>by
        obtain⟨o,z⟩:=S.dg b hb;refine⟨o,F0.mpr ⟨by simp,λz2=>?_,S1.same _ _ z⟩⟩
        rw[(S.new b z2).1]at z;cases z
       have ed':items.drop i=d::items.drop (i+1):=by
        rw[nU hlt];have:items[i]=d:=by have z:=G0 hlt;rw[ed]at z;exact(aA z).symm
        rw[this]
       rw[ed']at c2;unfold D6 at c2;cases h3:gt d with
       |none=>rw[h3]at c2;cases c2
       |some bs' =>
        rw[h3]at c2;simp only[i7]at c2;cases h4:Fc (M0 bs'++ds)with
        |none=>rw[h4]at c2;cases c2
        |some b =>
         rw[h4]at c2;simp only[i7]at c2;refine hgt O as H'' x d σ bs' _ dx h3 λvs dv lv=>?_
         have S4:=S3.pre dv;refine tC O e8 _ _ H'' _ b _ S4 h4 λH5 e5=>?_
         cases b with
         |false =>
          rw[c9 (by decide)]at c2
          rw[c9 (by decide)]
          exact⟨hlt,(e2.trans e3).trans e5,l1,l2,d1.same (L6 (e3.trans e5)),c2,el⟩
         |true =>
          rw[c7 rfl]at c2;rw[c7 rfl];cases h5:Fe (M0 bs'++ds)with
          |none=>rw[h5]at c2;cases c2
          |some yv =>
           rw[h5]at c2;simp only[i7]at c2;cases h6:D6 gt Fc Fe ds (items.drop (i+1))with
           |none=>rw[h6]at c2;cases c2
           |some l3 =>
            rw[h6]at c2;cases c2;refine tE O e8 _ _ H5 _ yv _ (S4.grow e5) h5 λu H6 e6 r6=>?_
            have d6:=r6.dt (S4.grow e5).dm;have d7:Dt X.K (m7 H6 as O) u yv.d:=by have z:Dt X.K (m7 H6 (v5 bs'.length none++as) O) u yv.d:=d6;rw[yq]at z;exact z
            exact⟨hlt,((e2.trans e3).trans e5).trans e6,l1++[yv.d],l3,(d1.same (L6 ((e3.trans e5).trans e6))).append (.cons d7 .nil),h6,by rw[<-el];simp⟩
     . have hi2:i=items.length:=by lia
       subst hi2;rw[DF]at c2;cases c2;rw[cX]at el;subst el;exact .inl ⟨st' (l5 _),λp hp=>q _ _ ((e1.trans e2).trans (i0.new hp)) (RX.back (fk hp d1) (e1.trans e2))⟩
  . cases hf⟩
end
section
variable{H H1 e8 Hb:Hp}{as:As}{O R:List Addr}{K:i5}{σ:St}{ds:Ds}{pos':Pos}{a f:Addr}{g:qI}{r:List c5->Ds->Option Ds}
inductive Out where
 |next (ds:Ds)
 |ret (pv:PV)
 |brk (ds:Ds)
 |cont (ds:Ds)
 |up (x:c5)
 |retO (pv:PV) (ds:Ds)
abbrev DO:=Ds->Option Out
def a0m(K:i5)(O:List Addr)(H:Hp)(ea:Addr)(x:c5):Prop:=∃C dx fld v d,x=yy C fld d/\sH K C/\az K (.ref C) fld=some none/\H ea=some (.ext (ZI ea C (some dx)))/\H dx=some (.xd [(fld,v)])/\dx∉O/\Dt K (m7 H [] (ea::O)) v d
def xQ(X:Cx)(O:List Addr)(e8:Hp)(D:Ends):Out->Prop
 | .next ds=>∀as σ H,DS X.K O e8 as σ H ds->D.nx σ H
 | .brk ds=>∀as σ H,DS X.K O e8 as σ H ds->D.bk σ H
 | .cont ds=>∀as σ H,DS X.K O e8 as σ H ds->D.ct σ H
 | .ret pv=>∀v H,i0 e8 H->RX X.K O [] e8 H v pv->D.rt v H
 | .up x=>∀ea H,i0 e8 H->e8 ea=none->a0m X.K O H ea x->∀pins σ s,Inv X pins σ H s->X.xe (.ref ea) s
 | .retO pv ds=>∀as σ Hm H v,DS X.K O e8 as σ Hm ds->i0 Hm H->RX X.K O as Hm H v pv->D.rt v H
def ZV(X:Cx)(t:TS)(G:DO):Prop :=
 ∀(O:List Addr) (e8:Hp) (as:As) (σ:St) (H:Hp) (ds:Ds) (D:Ends) (o:Out),DS X.K O e8 as σ H ds->G ds=some o->xQ X O e8 D o->t D σ H
structure J3(X:Cx)(st:Stmt)(t:TS)(G:DO):Prop where
 p:PS X st t
 t:ZV X t G
structure fX(X:Cx)(st:List Stmt)(t:TS)(G:DO):Prop where
 p:nS X st t
 t:ZV X t G
noncomputable def q9:DO:=λds=>some (.next ds)
noncomputable def lZ(G1 G2:DO):DO:=λds=>(G1 ds).bind λo=>match o with
 | .next ds'=>G2 ds'
 |o=>some o
section
variable{X:Cx}{st:Stmt}{rest sa sb:List Stmt}{t u:TS}{G G1 G2:DO}{fr:Bool}{e c:Expr}{te:TE}{tt:TT}{F:DV}{Ft:DB}{pos:Pos}
theorem PZ:fX X [] Ss q9:=⟨UZ,by intro O e8 as σ H ds D o S hf q;cases hf;exact q as σ H S⟩
theorem PY(h:J3 X st t G):fX X [st] t G:=⟨FU h.p,h.t⟩
theorem Km(h1:J3 X st t G1)(h2:fX X rest u G2):fX X (st::rest) (Wy t u) (lZ G1 G2):=⟨Qa h1.p h2.p,by
 intro O e8 as σ H ds D o S hf q;unfold lZ at hf;cases e1:G1 ds with
 |none=>rw[e1]at hf;cases hf
 |some o1 =>
  rw[e1]at hf;simp only[i7]at hf;refine h1.t O e8 as σ H ds {D with nx:=u D} o1 S e1 ?_
  cases o1 with
  |next ds1=>exact λas' σ' H' S'=>h2.t O e8 as' σ' H' ds1 D o S' hf q
  |ret pv=>cases hf;exact q
  |brk ds1=>cases hf;exact q
  |cont ds1=>cases hf;exact q
  |up x=>cases hf;exact q
  |retO pv ds1=>cases hf;exact q⟩
noncomputable def jx(i:Nat)(G:DO):DO:=λds=>G (uL i ds)
theorem PR(i:Nat)(h:J3 X st t G):J3 X st t (jx i G):=⟨h.p,by intro O e8 as σ H ds D o S hf q;obtain⟨as',S'⟩:=S.uL i;exact h.t O e8 as' σ H _ D o S' hf q⟩
theorem DS.set{K:i5}{O:List Addr}{e8 H:Hp}{as:As}{σ:St}{ds:Ds}{v:V}{d:c5}(S:DS K O e8 as σ H ds)(i:Nat)(h:Dt K (m7 H as O) v d):DS K O e8 as (σ.set i (some v)) H (ds.set i (some (.dat d))):=by
 obtain⟨rg,r1,r2,r3⟩:=S.gp;refine⟨by simp[S.ls],S.same,S.new,S.dg,rg,r1,r2,λj pv hj=>?_⟩
 by_cases hij:i=j
 . subst hij;rw[mW]at hj;rw[c7 rfl]at hj;split at hj
   . rename_i hl;cases hj;exact⟨v,by rw[nT (by rw[S.ls];exact hl)],h⟩
   . cases hj
 . rw[aD hij]at hj;rw[aD hij];exact r3 j pv hj
theorem nL(e1:i0 H H1)(e2:∀b∈R,H b=none):i0 (m7 H as O) (m7 H1 (R.map some++as) O):=cy λb o h1 h2 h3=>⟨h1,λz=>by
 rcases List.mem_append.mp z with z|z
 . obtain⟨b',z1,z2⟩:=mem_map.mp z;cases z2;rw[e2 b z1]at h3;cases h3
 . exact h2 z,e1 _ _ h3⟩
theorem DS.store{v:V}{pv:PV}(S:DS K O e8 as σ H ds)(e1:i0 H H1)(i:Nat)(r:RX K O as H H1 v pv):∃as',DS K O e8 as' (σ.set i (some v)) H1 (ds.set i (some pv)):=by
 have S1:=S.grow e1;have nw:∀R:List Addr,(∀b∈R,H b=none)->(∀b∈R,∃u:Cl,H1 b=some u.1)->DS K O e8 (R.map some++as) σ H1 ds/\∀b∈R,e8 b=none/\some b∉as/\∃u:Cl,H1 b=some u.1:=λR hR hC=>by
  have hn:∀b∈R,some b∉as:=λb hb z=>by obtain⟨_,o,z⟩:=S.new b z;rw[hR b hb]at z;cases z
  have hh:∀b∈R,e8 b=none/\some b∉as/\∃u:Cl,H1 b=some u.1:=λb hb=>⟨S.same.free (hR b hb),hn b hb,hC b hb⟩
  obtain⟨rg,r1,r2,r3⟩:=S.gp;refine⟨⟨S.ls,S1.same,λb hb=>?_,S.dg,rg,λi b z=>M9 _ (r1 i b z),r2,λj pv hj=>(r3 j pv hj).yY (nL e1 hR) (λb _ o z=>e1 _ _ z) λb z=>z⟩,hh⟩
  rcases List.mem_append.mp hb with z|z
  . obtain⟨b',z1,z2⟩:=mem_map.mp z;cases z2;exact⟨(hh b z1).1,(hh b z1).2.2⟩
  . exact S1.new b z
 have go:∀R:List Addr,(∀b∈R,H b=none)->(∀b∈R,∃u:Cl,H1 b=some u.1)->aI K O (R.map some++as) H1 (some (some v)) R pv->∃as',DS K O e8 as' (σ.set i (some v)) H1 (ds.set i (some pv)):=λR hR hC hs=>by
  obtain⟨S2,hh⟩:=nw R hR hC;obtain⟨rg,r1,r2,r3⟩:=S.gp;refine⟨_,by simp[S.ls],S1.same,S2.new,S.dg,λj=>if j=i then R else rg j,λj b hb=>?_,λj k b h1 h2=>?_,λj pv hj=>?_⟩
  . dsimp only at hb;split at hb
    . exact ia _ (mem_map.mpr ⟨b,hb,rfl⟩)
    . exact M9 _ (r1 j b hb)
  . dsimp only at h1 h2;split at h1
    . split at h2
      . rename_i z1 z2;rw[z1,z2]
      . exact absurd (r1 k b h2) (hh b h1).2.1
    . split at h2
      . exact absurd (r1 j b h1) (hh b h2).2.1
      . exact r2 j k b h1 h2
  . by_cases hij:i=j
    . subst hij;rw[mW]at hj;rw[c7 rfl]at hj;split at hj
      . rename_i hl;cases hj;dsimp only;rw[c7 rfl,nT (by rw[S.ls];exact hl)]
        exact hs
      . cases hj
    . rw[aD hij]at hj;dsimp only;rw[c9 (λz=>hij z.symm),aD hij]
      exact(r3 j pv hj).yY (nL e1 hR) (λb _ o z=>e1 _ _ z) λb z=>z
 cases pv with
 |dat d=>exact⟨_,S1.set i r⟩
 |ob w c =>
  obtain⟨o,R,rfl,e2,e3,h⟩:=r;exact go R e3 h.at ⟨o,R,rfl,e2,λb z=>z,h⟩
 |own l =>
  obtain⟨a,xs,rfl,e2,e3,h⟩:=r;refine go [a] (λb hb=>?_) (λb hb=>?_) ⟨a,xs,rfl,B7,e3,h⟩
  . rw[mem_singleton.mp hb];exact e2
  . rw[mem_singleton.mp hb];exact⟨Cl.l xs,e3⟩
noncomputable def K4(i:Nat)(F:DV):DO:=λds=>(F ds).bind λpv=>some (.next (ds.set i (some pv)))
noncomputable def j0(i:Nat)(F:DV):DO:=λds=>(F ds).bind λpv=>some (.next (ds.set i (some (.dat pv.d))))
theorem UU{i:Nat}{x:Str}(hN:X.N.Nodup)(hi:X.N[i]? = some x)(hx:Loc X.env.scope x)(he:PX X true e te F)(hs:aK e (some (.Name x pos')) pos.line X.env=pure false:=by rfl)(hf:X.fn x=true\/X.env.scope.names.lookup x=some .local:=by first|exact .inl rfl|exact .inr rfl|assumption):
  J3 X (.Assign [.Name x pos'] e pos) (lO te (Y8 i)) (K4 i F):=⟨Kn hN hi hx he.p hs hf,by
 intro O e8 as σ H ds D o S h q;unfold K4 at h;cases e1:F ds with
 |none=>rw[e1]at h;cases h
 |some pv =>
  rw[e1]at h;cases h;refine he.t O e8 as σ H ds pv _ S e1 λv H1 s1 r1=>?_
  obtain⟨as',S'⟩:=S.store s1 i r1;exact q as' _ _ S'⟩
theorem PK{i:Nat}{x:Str}(hN:X.N.Nodup)(hi:X.N[i]? = some x)(hx:Loc X.env.scope x)(he:PX X true e te F)(hs:aK e (some (.Name x pos')) pos.line X.env=pure false:=by rfl)(hf:X.fn x=true\/X.env.scope.names.lookup x=some .local:=by first|exact .inl rfl|exact .inr rfl|assumption):
  J3 X (.Assign [.Name x pos'] e pos) (lO te (Y8 i)) (j0 i F):=⟨Kn hN hi hx he.p hs hf,by
 intro O e8 as σ H ds D o S h q;unfold j0 at h;cases e1:F ds with
 |none=>rw[e1]at h;cases h
 |some pv =>
  rw[e1]at h;cases h;refine he.t O e8 as σ H ds pv _ S e1 λv H1 s1 r1=>?_
  exact q _ _ _ ((S.grow s1).set i (r1.dt S.dm))⟩
def Yu(i j:Nat)(Fl:DL):DO:=λds=>(Fl ds).bind λl=>match l with
 | [a,b]=>some (.next ((ds.set i (some (.dat a))).set j (some (.dat b))))
 |_=>none
noncomputable def t6(F:DV):DO:=λds=>(F ds).bind λpv=>some (.ret pv)
theorem FT(he:PX X fr e te F):J3 X (.Return (some e) pos) (OR te) (t6 F):=⟨Ko he.p,by
 intro O e8 as σ H ds D o S h q;unfold t6 at h;cases e1:F ds with
 |none=>rw[e1]at h;cases h
 |some pv =>
  rw[e1]at h;cases h;refine he.t O e8 as σ H ds pv _ S e1 λv H1 s1 r1=>?_
  exact q v H1 (S.same.trans s1) ((r1.back S.same).less λb z=>by simp at z)⟩
noncomputable def Q6(i:Nat):DO:=λds=>match ds[i]? with
 |some (some pv)=>some (.ret pv)
 |_=>none
theorem PL(i:Nat)(h:PE X e (E9 i)):J3 X (.Return (some e) pos) (OR (E9 i)) (Q6 i):=⟨Ko h,by
 intro O e8 as σ H ds D o S h q;unfold Q6 at h;split at h
 . rename_i pv hd;cases h;have sl:=S.slot i pv hd;cases pv with
   |dat d =>
    obtain⟨v,e1,h⟩:=sl;exact⟨v,e1,q v H S.same (Dt.same (U6 (i0.refl _) λb z=>by simp at z) h)⟩
   |own l =>
    obtain⟨a,xs,e1,ha,e3,h⟩:=sl;refine⟨_,e1,q _ H S.same ⟨a,xs,rfl,(S.new a ha).1,e3,h.same (U6 (i0.refl _) λb z=>?_)⟩⟩
    have z':b=a:=by simpa using z
    rw[z'];exact ha
   |ob w c =>
    obtain⟨o,R,e1,ew,hR,h⟩:=sl;refine⟨_,e1,q _ H S.same ⟨o,R,rfl,ew,λb hb=>(S.new b (hR b hb)).1,h.same (U6 (i0.refl _) λb z=>?_) (λ_ _ _ z=>z)⟩⟩
    rw[cX]at z;obtain⟨b',z1,z2⟩:=mem_map.mp z;cases z2;exact hR b z1
 . cases h⟩
def Td:DO:=λ_=>some (.ret (.dat .none))
noncomputable def C3(Ft:DB)(G1 G2:DO):DO:=λds=>(Ft ds).bind λb=>if b=true then G1 ds else G2 ds
theorem Xq(hc:aJ X c tt Ft)(ha:fX X sa t G1)(hb:fX X sb u G2):J3 X (.If c sa sb pos) (WB tt t u) (C3 Ft G1 G2):=⟨Zn hc.p ha.p hb.p,by
 intro O e8 as σ H ds D o S h q;unfold C3 at h;cases e1:Ft ds with
 |none=>rw[e1]at h;cases h
 |some b =>
  rw[e1]at h;simp only[i7]at h;refine hc.t O e8 as σ H ds b _ S e1 λH1 s1=>?_
  cases b with
  |true=>exact ha.t O e8 as σ H1 ds D o (S.grow s1) h q
  |false=>exact hb.t O e8 as σ H1 ds D o (S.grow s1) h q⟩
def Te:DO:=λds=>some (.next ds)
def LR:DO:=λds=>some (.brk ds)
def Th:DO:=λds=>some (.cont ds)
noncomputable def BR:DO:=λ_=>none
theorem Kk:J3 X st JM BR:=⟨Qc,by intro O e8 as σ H ds D o S h q;cases h⟩
def Tg(F:DV):DO:=λds=>(F ds).bind λ_=>some (.next ds)
end
theorem DS.vj{pv pv':PV}{u:Cl}{i:Nat}{rg:Nat->List Addr}(S:DS K O e8 as σ H ds)(hd:ds[i]? = some (some pv))(r1:∀i b,b∈rg i->some b∈as)(r2:∀i j b,b∈rg i->b∈rg j->i=j)(r3:∀(i:Nat) (pv:PV),ds[i]? = some (some pv)->aI K O as H σ[i]? (rg i) pv)(ha:a∈rg i)(hv:i0 (m7 H as O) (m7 (upd H a u.1) as O)->aI K O as (upd H a u.1) σ[i]? (rg i) pv'):DS K O e8 as σ (upd H a u.1) (ds.set i (some pv')):=by
 have sm:i0 (m7 H as O) (m7 (upd H a u.1) as O):=cy λb o h1 h2 h3=>⟨h1,h2,by rw[A3 (λz=>h2 (by rw[z];exact r1 i a ha))];exact h3⟩
 have hl:i<ds.length:=(List.getElem?_eq_some_iff.mp hd).1;refine⟨by simp[S.ls],λb o h=>?_,λb hb=>⟨(S.new b hb).1,?_⟩,S.dg,rg,r1,r2,λj pv hj=>?_⟩
 . rw[A3 (λz=>?_)]
   . exact S.same _ _ h
   . rw[z,(S.new a (r1 i a ha)).1]at h;cases h
 . by_cases z:b=a
   . exact⟨u,by rw[z];exact E8⟩
   . obtain⟨_,o,h⟩:=S.new b hb;exact⟨o,by rw[A3 z];exact h⟩
 . by_cases hij:i=j
   . subst hij;rw[nT hl]at hj;cases hj;exact hv sm
   . rw[aD hij]at hj;refine(r3 j pv hj).yY sm (λb hb o z=>?_) λb z=>z
     rw[A3 (λw=>hij (r2 i j a ha (by rw[<-w];exact hb)))]
     exact z
theorem DS.turn{l l':List c5}{xs':List V}{i:Nat}(S:DS K O e8 as σ H ds)(hd:ds[i]? = some (some (.own l)))(e1:σ[i]? = some (some (.ref a)))(hv:o8 K (m7 H as O) xs' l'):
  DS K O e8 as σ (upd H a (.lst xs')) (ds.set i (some (.own l'))):=by obtain⟨rg,r1,r2,r3⟩:=S.gp;obtain⟨a',xs,z1,z2,z3,z4⟩:=r3 i _ hd;rw[e1]at z1;cases z1;exact S.vj (u:=Cl.l xs') hd r1 r2 r3 z2 λsm=>⟨a,xs',e1,z2,E8,hv.same sm⟩
noncomputable def de(i:Nat)(F:DV):DO:=λds=>(F ds).bind λpv=>match ds[i]? with
 |some (some (.own l))=>if l.length<1000000 then some (.next (ds.set i (some (.own (l++[pv.d])))))else none
 |_=>none
section
variable{X:Cx}{e o:Expr}{te:TE}{F:DV}{pos cpos apos:Pos}
theorem UY (i:Nat) (ho:PE X o (E9 i)) (he:PX X true e te F) (hst:j4 [e] X.env=(false,eval e X.env)::j4 [] X.env:=by rfl) (hbase:V8 o "append" X.env (eval o X.env)=eval o X.env:=by rfl) (hfew:((A9 cpos (j4 [e] X.env)).all (λx=>!x.1)&&(aw cpos (cq [] X.env)).all (λx=>x.1.isSome)
   && decide ([e].length+([]:List W8).length+(if ([]:List W8).isEmpty then 0 else 1)<30))=true:=by rfl)
  (hline:(apos.endLine==cpos.line)=true:=by rfl) (hplain:(A9 cpos (j4 [] X.env)).any (·.1)=false:=by rfl)
  (hs:aK (.Call (.Attribute o "append" apos) [e] [] cpos) none pos.line X.env=pure false:=by rfl) :
  J3 X (.Expr (.Call (.Attribute o "append" apos) [e] [] cpos) pos) (pT (Fq X.K "list" xY (E9 i) (cP te gI))) (de i F) :=
 ⟨lK (Ae pH Oh Og ze ho (bD he.p gR hst) hbase hfew hline hst hplain) hs,by
 intro O e8 as σ H ds D o S h q;unfold de at h;cases e1:F ds with
 |none=>rw[e1]at h;cases h
 |some pv =>
  rw[e1]at h;simp only[i7]at h;split at h
  . rename_i l hd;split at h
    . rename_i hl;cases h;obtain⟨a,xs,z1,z2,z3,z4⟩:=S.slot i _ hd;refine⟨_,z1,.inl ⟨rfl,xs,D9.of z3⟩,?_⟩;refine he.t O e8 as σ H ds pv _ S e1 λv H1 s1 r1=>?_
      have hx:=z4.length;refine⟨a,xs,v,rfl,rfl,s1 _ _ z3,M8 (by lia) (lQ (l5 _)),q as σ _ ?_⟩
      exact(S.grow s1).turn hd z1 ((z4.same (L6 s1)).append (.cons (r1.dt S.dm) .nil))
    . cases h
  . cases h⟩
end
theorem DS.rebase(S:DS K O e8 as σ H ds):DS K O (m7 H as []) as σ H ds where
 ls:=S.ls
 same:=o6
 new:=λa h=>⟨by delta m7;rw[c7 (.inr h)],(S.new a h).2⟩
 dg:=λa h=>by
  obtain⟨o,z⟩:=S.dg a h;refine⟨o,F0.mpr ⟨by simp,λq=>?_,S.same _ _ z⟩⟩
  rw[(S.new a q).1]at z;cases z
 gp:=S.gp
theorem DS.oq(S:DS K O Hb as σ H ds)(e:i0 e8 Hb)(hd:∀a∈O,∃o,e8 a=some o):DS K O e8 as σ H ds :=
 ⟨S.ls,e.trans S.same,λa h=>⟨e.free (S.new a h).1,(S.new a h).2⟩,hd,S.gp⟩
theorem DS.Wu(S:DS K O e8 as σ H ds):i0 e8 (m7 H as []):=λb o h=>by
 refine F0.mpr ⟨by simp,λq=>?_,S.same _ _ h⟩
 rw[(S.new b q).1]at h;cases h
theorem xQ.oq{X:Cx}{O:List Addr}{e8 Hb:Hp}{D:Ends}{o:Out}(h:xQ X O e8 D o)(e:i0 e8 Hb)(hd:∀a∈O,∃u,e8 a=some u):xQ X O Hb D o:=by
 cases o with
 |next ds=>exact λas σ H S=>h as σ H (S.oq e hd)
 |brk ds=>exact λas σ H S=>h as σ H (S.oq e hd)
 |cont ds=>exact λas σ H S=>h as σ H (S.oq e hd)
 |ret pv=>exact λv H s r=>h v H (e.trans s) (r.back e)
 |up x=>exact λea H s n u=>h ea H (e.trans s) (e.free n) u
 |retO pv ds=>exact λas σ Hm H v S s r=>h as σ Hm H v (S.oq e hd) s r
def TN(K:i5)(g:TG)(gt:c5->Ds->Option Ds):Prop :=
 ∀(O:List Addr) (e8:Hp) (as:As) (σ:St) (H:Hp) (ds ds':Ds) (v:V) (d:c5) (Q:St->Hp->Prop),DS K O e8 as σ H ds->Dt K (m7 H as O) v d->gt d ds=some ds'->(∀as' σ',DS K O e8 as' σ' H ds'->Q σ' H)->g v σ H Q
def A8(i:Nat):c5->Ds->Option Ds:=λd ds=>some (ds.set i (some (.dat d)))
theorem OM{i:Nat}:TN K (Y8 i) (A8 i):=by intro O e8 as σ H ds ds' v d Q S h e q;cases e;exact q _ _ (S.set i h)
def Jp(K:i5)(g:qI)(gt:List c5->Ds->Option Ds):Prop :=
 ∀(O:List Addr) (e8:Hp) (as:As) (σ:St) (H:Hp) (ds ds':Ds) (vs:List V) (l:List c5) (Q:St->Hp->Prop),DS K O e8 as σ H ds->o8 K (m7 H as O) vs l->gt l ds=some ds'->(∀as' σ',DS K O e8 as' σ' H ds'->Q σ' H)->g vs σ H Q
def kH:List c5->Ds->Option Ds
 | [],ds=>some ds
 |_,_=>none
def V0(i:Nat)(r:List c5->Ds->Option Ds):List c5->Ds->Option Ds
 |d::l,ds=>r l (ds.set i (some (.dat d)))
 | [],_=>none
def kG(n:Nat)(r:List c5->Ds->Option Ds):c5->Ds->Option Ds
 | .tuple l,ds=>if l.length=n then r l ds else none
 |_,_=>none
theorem ON:Jp K IV kH:=by
 intro O e8 as σ H ds ds' vs l Q S h e q;cases h with
 |nil=>cases e;exact⟨rfl,q _ _ S⟩
 |cons _ _=>cases e
theorem JK{i:Nat}(hg:Jp K g r):Jp K (tF (Y8 i) g) (V0 i r):=by
 intro O e8 as σ H ds ds' vs l Q S h e q;cases h with
 |nil=>cases e
 |cons h t =>
  exact⟨_,_,rfl,hg O e8 _ _ H _ ds' _ _ Q (S.set i h) t e q⟩
theorem Uj{n:Nat}(hg:Jp K g r):TN K (BQ K n g) (kG n r):=by
 intro O e8 as σ H ds ds' v d Q S h e q;cases h with
 |tup hs ht =>
  rename_i a xs l;have e':(if l.length=n then r l ds else none)=some ds':=e
  split at e'
  . rename_i hl;exact⟨a,xs,rfl,o6.cL hs,by rw[ht.length];exact hl,hg O e8 as σ H ds ds' xs l Q S ht e' q⟩
  . cases e'
 |_=>cases e
def M5(gt:c5->Ds->Option Ds)(G:DO):List c5->Ds->Option Out
 | [],ds=>some (.next ds)
 |x::r,ds=>(gt x ds).bind λds1=>(G ds1).bind λo=>match o with
  | .next ds2=>M5 gt G r ds2
  | .cont ds2=>M5 gt G r ds2
  | .brk ds2=>some (.next ds2)
  | .ret pv=>some (.ret pv)
  | .up x=>some (.up x)
  | .retO pv ds2=>some (.retO pv ds2)
noncomputable def L7(Fi:DL)(gt:c5->Ds->Option Ds)(G:DO):DO:=λds=>(Fi ds).bind λitems=>M5 gt G items ds
section
variable{X:Cx}{tg iter c:Expr}{body:List Stmt}{wi:TI}{g:TG}{tb:TS}{tt:TT}{pos:Pos}{Fi:DL}{gt:c5->Ds->Option Ds}{G:DO}{Fc:DB}
theorem UW(hp:oW (model X.prog X.w) X.A X.env X.xe)(hc:X.calm=true)(hi:jU X true tg iter wi Fi)(hg:PG X tg g)(hgt:TN X.K g gt)(hb:fX X body tb G)(hs:∀x,eu iter X.env x=pure x:=by intro _;rfl):J3 X (.For tg iter body [] pos) (Hx wi g tb) (L7 Fi gt G):=⟨Kp hp hc hi.p hg hb.p hs,by
 intro O e8 as σ H ds D o S h q;unfold L7 at h;cases e1:Fi ds with
 |none=>rw[e1]at h;cases h
 |some items =>
  rw[e1]at h;simp only[i7]at h;refine hi.t O e8 as σ H ds items _ S e1 λJ H1 s1 it=>?_
  have S1:=S.grow s1;have it':Jr X.K O (m7 H1 as []) J items:=it;have Sb:=S1.rebase;have eb:=S1.Wu;have qb:=q.oq (Hb:=m7 H1 as []) eb S.dg;refine⟨λi m σ' H'=>i<=items.length/\m=items.length-i/\∃as' ds',DS X.K O (m7 H1 as []) as' σ' H' ds'/\M5 gt G (items.drop i) ds'=some o,⟨_,bN _,rfl,as,ds,Sb,h⟩,?_⟩
  rintro i m σ2 H2 ⟨hi',em,as2,ds2,S2,f2⟩;obtain⟨go',st',yl'⟩:=it' H2 S2.same i;by_cases hlt:i<items.length
  . have ed':items.drop i=items[i]::items.drop (i+1):=nU hlt;rw[ed']at f2;unfold M5 at f2;cases e3:gt items[i] ds2 with
    |none=>rw[e3]at f2;cases f2
    |some ds3 =>
     rw[e3]at f2;simp only[i7]at f2;cases e4:G ds3 with
     |none=>rw[e4]at f2;cases f2
     |some o4 =>
      rw[e4]at f2;simp only[i7]at f2;refine .inr ⟨go' hlt,λσ' H'=>∃as' ds',DS X.K O (m7 H1 as []) as' σ' H' ds'/\M5 gt G (items.drop (i+1)) ds'=some o,λσ' H' z=>⟨items.length-(i+1),by lia,hlt,rfl,z⟩,λx H' y=>?_⟩
      obtain⟨e5,d,ed,dt⟩:=yl' x H' y hlt;have edd:items[i]=d:=by rw[G0 hlt]at ed;exact aA ed
      have S3:=S2.grow e5;have dx:Dt X.K (m7 H' as2 O) x d:=dt as2 (λb hb=>⟨(S2.new b hb).1,let ⟨_,z⟩:=(S2.new b hb).2;⟨_,z⟩⟩) S2.dg
      rw[edd]at e3;refine hgt O _ as2 σ2 H' ds2 ds3 x d _ S3 dx e3 λas4 σ4 S4=>?_
      refine hb.t O _ as4 σ4 H' ds3 _ o4 S4 e4 ?_;cases o4 with
      |next ds5=>exact λas5 σ5 H5 S5=>⟨as5,ds5,S5,f2⟩
      |cont ds5=>exact λas5 σ5 H5 S5=>⟨as5,ds5,S5,f2⟩
      |brk ds5=>cases f2;exact λas5 σ5 H5 S5=>qb as5 σ5 H5 S5
      |ret pv=>cases f2;exact qb
      |up x=>cases f2;exact qb
      |retO pv ds5=>cases f2;exact qb
  . have hi2:i=items.length:=by lia
    subst hi2;rw[DF]at f2;cases f2;exact .inl ⟨st' (l5 _),qb as2 σ2 H2 S2⟩⟩
def E3(Fc:DB)(G:DO):Nat->Ds->Option Out
 | 0,_=>none
 |n+1,ds=>(Fc ds).bind λb=>if b=true then(G ds).bind λo=>match o with
   | .next ds2=>E3 Fc G n ds2
   | .cont ds2=>E3 Fc G n ds2
   | .brk ds2=>some (.next ds2)
   | .ret pv=>some (.ret pv)
   | .up x=>some (.up x)
   | .retO pv ds2=>some (.retO pv ds2)
  else some (.next ds)
noncomputable def fD(μ:Ds->Nat)(Fc:DB)(G:DO):DO:=λds=>E3 Fc G (μ ds) ds
theorem Kg(μ:Ds->Nat)(hp:oW (model X.prog X.w) X.A X.env X.xe)(hc:aJ X c tt Fc)(hb:fX X body tb G):J3 X (.While c body [] pos) (JL tt tb) (fD μ Fc G):=⟨Qb hp hc.p hb.p,by
 intro O e8 as σ H ds D o S h q;unfold fD at h;refine⟨λm σ' H'=>∃as' ds',DS X.K O e8 as' σ' H' ds'/\E3 Fc G m ds'=some o,⟨_,as,ds,S,h⟩,?_⟩
 rintro m σ2 H2 ⟨as2,ds2,S2,f2⟩;cases m with
 |zero=>cases f2
 |succ m =>
  unfold E3 at f2;cases e1:Fc ds2 with
  |none=>rw[e1]at f2;cases f2
  |some b =>
   rw[e1]at f2;simp only[i7]at f2;refine hc.t O e8 as2 σ2 H2 ds2 b _ S2 e1 λH3 s3=>?_
   cases b with
   |false =>
    cases f2;exact q as2 σ2 H3 (S2.grow s3)
   |true =>
    rw[c7 rfl]at f2;rw[c7 rfl];cases e4:G ds2 with
    |none=>rw[e4]at f2;cases f2
    |some o4 =>
     rw[e4]at f2;simp only[i7]at f2;refine⟨λσ' H'=>∃as' ds',DS X.K O e8 as' σ' H' ds'/\E3 Fc G m ds'=some o,λσ' H' z=>⟨m,sh _,z⟩,?_⟩
     refine hb.t O e8 as2 σ2 H3 ds2 _ o4 (S2.grow s3) e4 ?_;cases o4 with
     |next ds5=>exact λas5 σ5 H5 S5=>⟨as5,ds5,S5,f2⟩
     |cont ds5=>exact λas5 σ5 H5 S5=>⟨as5,ds5,S5,f2⟩
     |brk ds5=>cases f2;exact q
     |ret pv=>cases f2;exact q
     |up x=>cases f2;exact q
     |retO pv ds5=>cases f2;exact q⟩
end
def HY:Out->Option PV
 | .ret pv=>some pv
 | .next _=>some (.dat .none)
 |_=>none
noncomputable def D1(n N:Nat)(G:DO):FV:=λl=>if l.length=n then(G (M0 l++v5 (N-n) none)).bind HY else none
section
variable{P:B1}{w:t9}{K:i5}{mg:Str->Option c8}{base:Heap}
theorem DS.start{O:List Addr}{H:Hp}{vs:List V}{l:List c5}{N:List Str}(hO:∀a∈O,∃u,H a=some u)(h:o8 K (m7 H [] O) vs l):DS K O H (v5 (M0 l++v5 (N.length-l.length) none).length none) (start N vs) H (M0 l++v5 (N.length-l.length) none):=by
 have hl:=h.length;have S0:DS K O H (v5 (N.length-l.length) none) (v5 (N.length-l.length) none) H (v5 (N.length-l.length) none) :=
  ⟨by simp,i0.refl H,λa z=>absurd z iW,hO,λ_=>[],λi b z=>absurd z (by simp),λi j b z=>absurd z (by simp),λi pv z=>by have:=sA z;simp[DQ]at this⟩
 have S1:=S0.pre (vs:=vs) (l:=l) (by rw[VF];exact h)
 have e1:(v5 (M0 l++v5 (N.length-l.length) none).length none:As)=v5 l.length none++v5 (N.length-l.length) none:=by
  rw[List.replicate_append_replicate,hW,xC]
  congr 1
  simp[M0]
 rw[e1];delta L2.start;rw[hl];exact S1
theorem sG.okF {x qual:Str} {st:Stmt} {fd:O0} {N ps:List Str} {k:Nat} {G:DO} (F:sG K x qual st f fd) (S:jl N ps (D7 st)) (hN:ps.length<=N.length) (hbody:∀(cdv:c8) (A:A2) (outer:List Env) (s:h8) (H:Hp) (E:XK),J2 k (A.deeper (dz qual (D7 st) s.heap.objs.size f cdv)) ->
   ∃t,fX (mw pL P w K mg base N qual (D7 st) f cdv A outer s H E).vF (aF st) t G):Z5 P w K mg base pL (k+1) f fd ps (B3 K (D1 ps.length N.length G)):=by
 have ln:∀vs H Q E,B3 K (D1 ps.length N.length G) vs H Q E->vs.length=ps.length:=λvs H Q E h=>by
  obtain⟨O,ds,pv,h1,h2,h3,h4⟩:=h;unfold D1 at h3;split at h3
  . rename_i hl;rw[h2.length];exact hl
  . cases h3
 refine F.ok S ln λcdv A outer s H vs Q E hr h=>?_
 obtain⟨O,ds,pv,h1,h2,h3,h4⟩:=h;obtain⟨t,ht⟩:=hbody cdv A outer s H E hr;refine⟨t,ht.p,?_⟩;unfold D1 at h3;split at h3
 . rename_i hl;rw[<-hl]at h3;cases e1:G (M0 ds++v5 (N.length-ds.length) none)with
   |none=>rw[e1]at h3;cases h3
   |some o =>
    rw[e1]at h3;simp only[i7]at h3;refine ht.t O H _ (L2.start N vs) H _ _ o (DS.start h1 h2) e1 ?_;cases o with
    |next ds'=>cases h3;exact λas σ H' S'=>h4 _ H' S'.same Dt.non
    |ret pv'=>cases h3;exact λv H' s r=>h4 v H' s r
    |brk ds'=>cases h3
    |cont ds'=>cases h3
    |up x=>cases h3
    |retO pv ds'=>cases h3
 . cases h3
end
end
section
variable{g:Int->Int->V}{g':Int->Int->c5}{X:Cx}{H:Hp}{K K':i5}{xs:List V}{e:Expr}{te:TE}{p:Pos}
instance {m:Nat} {i:Int}:Decidable (Bt m i):=decidable_of_iff (i.natAbs<2 ^ m) ⟨λh=>⟨h⟩,λh=>h.lt⟩
instance {i j:Int}:Decidable (yI i j):=by delta yI;infer_instance
def GG(g:Int->Int->c5):c5->c5->Option PV
 | .int i,.int j=>some (.dat (g i j))
 |_,_=>none
def rD(C:Int->Int->Prop)[∀i j,Decidable (C i j)](g:Int->Int->c5):c5->c5->Option PV
 | .int i,.int j=>if C i j then some (.dat (g i j))else none
 |_,_=>none
section
variable{K:i5}
theorem AU(hg:∀i j H,Dt K H (g i j) (g' i j)):cB K (qD g) (GG g'):=by
 intro O va H x y d e pv Q D hx hy hf q;cases hx with
 |int i =>
  cases hy with
  |int j =>
   cases hf;exact⟨i,j,rfl,rfl,q _ H (i0.refl H) (hg i j _)⟩
  |_=>cases hf
 |_=>cases hf
theorem qT{C C':Int->Int->Prop}[∀i j,Decidable (C i j)](hC:∀i j,C i j->C' i j)(hg:∀i j H,Dt K H (g i j) (g' i j)):cB K (rI C' g) (rD C g'):=by
 intro O va H x y d e pv Q D hx hy hf q;cases hx with
 |int i =>
  cases hy with
  |int j =>
   have hf':(if C i j then some (PV.dat (g' i j))else none)=some pv:=hf
   split at hf'
   . rename_i hc;cases hf';exact⟨i,j,rfl,rfl,hC i j hc,q _ H (i0.refl H) (hg i j _)⟩
   . cases hf'
  |_=>cases hf
 |_=>cases hf
def pV:=GG λi j=>.int (i-j)
noncomputable def B9:=rD (λi j=>Bt 60000 i/\Bt 60000 j) λi j=>.int (i*j)
def ay:=rD (λ_ j=>j≠0/\Bt 8000 j) λi j=>.int (i.fdiv j)
def cc:=rD (λ_ j=>j≠0) λi j=>.int (i.fmod j)
def uu:=rD yI λi j=>.int (i ^ j.toNat)
def HA:=rD (λ_ j=>0<=j) λi j=>.int (i/2 ^ j.toNat)
def qF:=GG λi j=>.bool (decide (i<j))
def leD:=GG λi j=>.bool (decide (i<=j))
def oK:=GG λi j=>.bool (decide (j<i))
def geD:=GG λi j=>.bool (decide (j<=i))
theorem YS:cB K (qD λi j=>.int (i-j)) pV:=AU λi j H=>.int _
theorem YW:cB K (rI (λi j=>Bt 60000 i/\Bt 60000 j) λi j=>.int (i*j)) B9:=qT (λ_ _ h=>h) λi j H=>.int _
theorem Wj:cB K (rI (λ_ j=>j≠0/\Bt 8000 j) λi j=>.int (i.fdiv j)) ay:=qT (λ_ _ h=>h) λi j H=>.int _
theorem YX:cB K (rI (λ_ j=>j≠0) λi j=>.int (i.fmod j)) cc:=qT (λ_ _ h=>h) λi j H=>.int _
theorem YU:cB K (rI yI λi j=>.int (i ^ j.toNat)) uu:=qT (λ_ _ h=>h) λi j H=>.int _
theorem YT:cB K (rI (λ_ j=>0<=j) λi j=>.int (i/2 ^ j.toNat)) HA:=qT (λ_ _ h=>h) λi j H=>.int _
theorem We:cB K (qD λi j=>.bl (decide (i<j))) qF:=AU λi j H=>.bl _
theorem Wi:cB K (qD λi j=>.bl (decide (j<i))) oK:=AU λi j H=>.bl _
def W5:c5->Option PV
 | .int i=>some (.dat (.int (-i)))
 |_=>none
theorem YV:YM K (rU λi=>.int (-i)) W5:=by
 intro O va H x d pv Q D hx hf q;cases hx with
 |int i=>cases hf;exact⟨i,rfl,q _ H (i0.refl H) (Dt.int _)⟩
 |_=>cases hf
noncomputable def J8:c5->c5->Option PV
 | .str i,.str j=>some (.dat (.bool (decide (i=j))))
 |d,e=>if L3 d=true/\L3 e=true then some (.dat (.bool (Z3 d e)))else none
noncomputable def P6:c5->c5->Option PV
 | .str i,.str j=>some (.dat (.bool (!decide (i=j))))
 |d,e=>if L3 d=true/\L3 e=true then some (.dat (.bool (!PyData.eqv d e)))else none
def HK(K:i5):R2:=λx y H Q=>ZQ x y H Q\/∃d e,Dt K H x d/\Dt K H y e/\L3 d=true/\L3 e=true/\Q (.bl (Z3 d e)) H
def HI(K:i5):R2:=λx y H Q=>ZP x y H Q\/∃d e,Dt K H x d/\Dt K H y e/\L3 d=true/\L3 e=true/\Q (.bl (!PyData.eqv d e)) H
theorem KN(hu:X.A.units+64<cLine):R8 X (V5 .Eq) (HK X.K):=Zv.or (XH hu)
theorem KI(hu:X.A.units+64<cLine):R8 X (V5 .NotEq) (HI X.K):=Zu.or (XE hu)
theorem Wk:cB K (HK K) J8:=by
 intro O va H x y d e pv Q D hx hy hf q;unfold J8 at hf;split at hf
 . cases hf;cases hx;cases hy;rename_i i j;exact .inl ⟨rfl,q _ H (i0.refl H) (by rw[show decide (V.str i=V.str j)=decide (i=j) by simp];exact Dt.bl _)⟩
 . split at hf
   . rename_i hs;cases hf;exact .inr ⟨d,e,hx.same o6,hy.same o6,hs.1,hs.2,q _ H (i0.refl H) (Dt.bl _)⟩
   . cases hf
theorem Wc:cB K (HI K) P6:=by
 intro O va H x y d e pv Q D hx hy hf q;unfold P6 at hf;split at hf
 . cases hf;cases hx;cases hy;rename_i i j;exact .inl ⟨rfl,q _ H (i0.refl H) (by rw[show decide (V.str i=V.str j)=decide (i=j) by simp];exact Dt.bl _)⟩
 . split at hf
   . rename_i hs;cases hf;exact .inr ⟨d,e,hx.same o6,hy.same o6,hs.1,hs.2,q _ H (i0.refl H) (Dt.bl _)⟩
   . cases hf
def dU:c5->Bool
 | .none=>true
 |_=>false
theorem Dt.Gh{x:V}{d:c5}(h:Dt K H x d):decide (x=.non)=dU d:=by cases h<;>simp[dU,yy,Tn,rC,yE]
def cR:c5->c5->Option PV
 |d,.none=>some (.dat (.bool (dU d)))
 |_,_=>none
def aH:c5->c5->Option PV
 |d,.none=>some (.dat (.bool (!dU d)))
 |_,_=>none
theorem Wh:cB K (λx y H Q=>y=.non/\Q (.bl (decide (x=.non))) H) cR:=by
 intro O va H x y d e pv Q D hx hy hf q;cases hy with
 |non=>cases hf;exact⟨rfl,q _ H (i0.refl H) (by rw[hx.Gh];exact Dt.bl _)⟩
 |_=>cases hf
theorem EV:cB K (λx y H Q=>y=.non/\Q (.bl (!decide (x=.non))) H) aH:=by
 intro O va H x y d e pv Q D hx hy hf q;cases hy with
 |non=>cases hf;exact⟨rfl,q _ H (i0.refl H) (by rw[hx.Gh];exact Dt.bl _)⟩
 |_=>cases hf
noncomputable def i6:c5->c5->Option PV
 | .list l,.int i=>(K7 l i).bind λd=>some (.dat d)
 | .tuple l,.int i=>(K7 l i).bind λd=>some (.dat d)
 | .str z,.int i=>if z.length<=1000000 then(K7 z.cps.toList i).bind λc=>some (.dat (.str ⟨#[c]⟩))else none
 |_,_=>none
theorem o8.K7{H:Hp}{xs:List V}{l:List c5}{i:Int}{d:c5}(h:o8 K H xs l)(e:L2.K7 l i=some d):∃x,L2.K7 xs i=some x/\Dt K H x d:=by
 unfold L2.K7 at e ⊢;rw[h.length];cases hi:eO l.length i with
 |none=>rw[hi]at e;cases e
 |some j =>
  rw[hi]at e;exact h.get e
theorem Wg:cB K (yZ K) i6:=by
 intro O va H x y d e pv Q D hx hy hf q;cases hx with
 |lst hs ht =>
  cases hy with
  |int i =>
   rename_i a xs l;have hf':((L2.K7 l i).bind λd=>some (PV.dat d))=some pv:=hf
   cases h1:L2.K7 l i with
   |none=>rw[h1]at hf';cases hf'
   |some d =>
    rw[h1]at hf';cases hf';obtain⟨v,h2,h3⟩:=ht.K7 h1;exact .inl ⟨a,xs,i,v,rfl,rfl,o6.seq hs,h2,q v H (i0.refl H) h3⟩
  |_=>cases hf
 |tup hs ht =>
  cases hy with
  |int i =>
   rename_i a xs l;have hf':((L2.K7 l i).bind λd=>some (PV.dat d))=some pv:=hf
   cases h1:L2.K7 l i with
   |none=>rw[h1]at hf';cases hf'
   |some d =>
    rw[h1]at hf';cases hf';obtain⟨v,h2,h3⟩:=ht.K7 h1;exact .inr (.inl ⟨a,xs,i,v,rfl,rfl,o6.cL hs,h2,q v H (i0.refl H) h3⟩)
  |_=>cases hf
 |str z =>
  cases hy with
  |int i =>
   have hf':(if z.length<=1000000 then(L2.K7 z.cps.toList i).bind λc=>some (PV.dat (.str ⟨#[c]⟩))else none)=some pv:=hf
   split at hf'
   . rename_i hz;cases h1:L2.K7 z.cps.toList i with
     |none=>rw[h1]at hf';cases hf'
     |some c =>
      rw[h1]at hf';cases hf';exact .inr (.inr ⟨z,i,c,rfl,rfl,lQ hz,h1,q _ H (i0.refl H) (Dt.str _)⟩)
   . cases hf'
  |_=>cases hf
 |_=>cases hf
end
def SF(K:i5):R2:=λx y H Q=>∃a b xs ys,x=.ref a/\y=.ref b/\N6 K H a xs/\N6 K H b ys/\xs.length+ys.length<=B2 /\
 (xs=[]->Q (.ref b) H)/\(xs≠[]->ys=[]->Q (.ref a) H)/\(xs≠[]->ys≠[]->∀p,H p=none->Q (.ref p) (upd H p (.tup (xs++ys))))
def SG(K:i5):R2:=λx y H Q=>∃a b xs ys,x=.ref a/\y=.ref b/\D9 K H a xs/\D9 K H b ys/\xs.length+ys.length<=B2/\∀p,H p=none->Q (.ref p) (upd H p (.lst (xs++ys)))
section
variable{X:Cx}
theorem Vr:R8 X (U1 .Add) (SF X.K):=by
 intro pins s σ H x y v u Q I rx ry h;obtain⟨a,b,xs,ys,rfl,rfl,ha,hb,hz,q1,q2,q3⟩:=h;by_cases hx:xs=[]
 . subst hx;cases rx;cases ry;obtain⟨its,r1,p1,_⟩:=I.tuple ha;obtain⟨its2,r2,p2,_⟩:=I.tuple hb;exact VS p1 p2 (r1.sU.mpr rfl) ⟨.ref b,H,I,rfl,q1 rfl⟩
 . exact Vs pins s σ H (.ref a) (.ref b) v u Q I rx ry ⟨a,b,xs,ys,rfl,rfl,ha,hb,hx,hz,λe=>q2 hx e,λe p hp=>q3 hx e p hp⟩
theorem Vt:R8 X (U1 .Add) (SG X.K):=by
 intro pins s σ H x y v u Q I rx ry h;obtain⟨l,b,xs,zs,rfl,rfl,hH,hB,hz,q⟩:=h;cases rx;cases ry;obtain⟨its,r,p1,z1⟩:=I.list hH;obtain⟨its2,r2,p2,z2⟩:=I.list hB;obtain⟨⟨cls,dd,data,sl⟩,ho,hc,n,hd⟩:=p1.isList;obtain⟨⟨cls2,dd2,data2,sl2⟩,ho2,hc2,n2,hd2⟩:=p2.isList;simp only at hc hd hc2 hd2;subst hc hd hc2 hd2;have e:its.toArray++its2.toArray=(its++its2).toArray:=by simp
 have h1:=r.length;have h2:=r2.length;refine wR ⟨_,ho,rfl⟩ ⟨_,ho2,rfl⟩ noFill_list_add seq_list_add PySem.F.slot_list_add PySem.F.entry_list_add (PySem.F.args_list_add_2 _ _) (list_addW l b its.toArray its2.toArray n n2 dd dd2 sl sl2 (by simp;lia)) ⟨ho,ho2,?_⟩
 rw[e];exact⟨.ref _,_,I.Ya (t':=s.toks) (r.append r2) (by rw[hW];lia),rfl,q _ I.fresh⟩
def HM(K:i5):R2:=λx y H Q=>(qD λi j=>.int (i+j)) x y H Q\/(∃i j,x=.str i/\y=.str j/\i.length+j.length<=B2/\Q (.str (i++j)) H)\/SF K x y H Q\/SG K x y H Q
theorem Vu:R8 X (U1 .Add) (HM X.K):=XI.or (Ia.or (Vr.or Vt))
end
noncomputable def F3:c5->c5->Option PV
 | .int i,.int j=>some (.dat (.int (i+j)))
 | .str i,.str j=>if i.length+j.length<=1000000 then some (.dat (.str (i++j)))else none
 | .tuple l,.tuple m=>if l.length+m.length<=1000000 then some (.dat (.tuple (l++m)))else none
 | .list l,.list m=>if l.length+m.length<=1000000 then some (.own (l++m))else none
 |_,_=>none
theorem Zb:cB K (HM K) F3:=by
 intro O va H x y d e pv Q D hx hy hf q;cases hx with
 |int i =>
  cases hy with
  |int j=>cases hf;exact .inl ⟨i,j,rfl,rfl,q _ H (i0.refl H) (Dt.int _)⟩
  |_=>cases hf
 |str i =>
  cases hy with
  |str j =>
   have hf':(if i.length+j.length<=1000000 then some (PV.dat (.str (i++j)))else none)=some pv:=hf
   split at hf'
   . rename_i hz;cases hf';exact .inr (.inl ⟨i,j,rfl,rfl,lQ hz,q _ H (i0.refl H) (Dt.str _)⟩)
   . cases hf'
  |_=>cases hf
 |tup hs ht =>
  cases hy with
  |tup hs2 ht2 =>
   rename_i a xs l b ys m;have hf':(if l.length+m.length<=1000000 then some (PV.dat (.tuple (l++m)))else none)=some pv:=hf
   split at hf'
   . rename_i hz;cases hf';have g1:=ht.length;have g2:=ht2.length;refine .inr (.inr (.inl ⟨a,b,xs,ys,rfl,rfl,o6.cL hs,o6.cL hs2,by rw[g1,g2];exact lQ hz,λe=>?_,λe1 e2=>?_,λe1 e2 p hp=>?_⟩))
     . subst e;cases ht;exact q _ H (i0.refl H) (Dt.tup hs2 ht2)
     . subst e2;cases ht2;rw[cX]at q;exact q _ H (i0.refl H) (Dt.tup hs ht)
     . exact q _ _ (i0.new hp) (vy D hp (ht.append ht2))
   . cases hf'
  |_=>cases hf
 |lst hs ht =>
  cases hy with
  |lst hs2 ht2 =>
   rename_i a xs l b ys m;have hf':(if l.length+m.length<=1000000 then some (PV.own (l++m))else none)=some pv:=hf
   split at hf'
   . rename_i hz;cases hf';have g1:=ht.length;have g2:=ht2.length;exact .inr (.inr (.inr ⟨a,b,xs,ys,rfl,rfl,o6.seq hs,o6.seq hs2,by rw[g1,g2];exact lQ hz,λp hp=>q _ _ (i0.new hp) (fk hp (ht.append ht2))⟩))
   . cases hf'
  |_=>cases hf
 |_=>cases hf
def cutD{α:Type}(xs:List α)(lo hi:Option Int):List α:=(xs.drop (HT.E4 xs.length 0 lo)).take (HT.E4 xs.length xs.length hi-HT.E4 xs.length 0 lo)
theorem o8.cut{l:List c5}(h:o8 K H xs l)(lo hi:Option Int):o8 K H (my xs lo hi) (cutD l lo hi):=by delta my cutD;rw[h.length];exact(h.drop _).take _
def WQ(K:i5):V->Option Int->Option Int->Hp->VK->Prop:=λx lo hi H Q=>∃a xs,x=.ref a/\N6 K H a xs/\(my xs lo hi=xs->Q (.ref a) H)/\∀p,H p=none->Q (.ref p) (upd H p (.tup (my xs lo hi)))
section
variable{X:Cx}
theorem Um:ue X (WQ X.K):=by
 intro pins s σ H x v vl vu lo hi sl Q I rx hs pl pu h;obtain⟨a,xs,rfl,hx,q1,q2⟩:=h;by_cases hw:HT.E4 xs.length 0 lo=0/\HT.E4 xs.length xs.length hi=xs.length
 . cases rx;obtain⟨its,r,ht,hz⟩:=I.tuple hx;have hlen:its.toArray.size=xs.length:=by rw[L4];exact r.length.symm
   refine⟨"tuple",_,PyProof.Rows.slot_tuple_getitem.lookup,ht.typeIs,?_⟩;refine zX ht hs pl pu (by rw[hlen];exact hw) ⟨.ref a,H,I,rfl,q1 ?_⟩
   delta my;rw[hw.1,hw.2];simp
 . exact WG pins s σ H (.ref a) v vl vu lo hi sl Q I rx hs pl pu ⟨a,xs,rfl,hx,hw,q2⟩
end
def WT(K:i5):V->Option Int->Option Int->Hp->VK->Prop:=λx lo hi H Q=>WQ K x lo hi H Q\/WR K x lo hi H Q
theorem WH:ue X (WT X.K):=Um.or Uo
noncomputable def Sz:c5->Option Int->Option Int->Option PV
 | .tuple l,lo,hi=>some (.dat (.tuple (cutD l lo hi)))
 | .list l,lo,hi=>some (.own (cutD l lo hi))
 |_,_,_=>none
def ZW(K:i5)(r:V->Option Int->Option Int->Hp->VK->Prop)(f:c5->Option Int->Option Int->Option PV):Prop :=
 ∀(O:List Addr) (va:As) (H:Hp) (x:V) (lo hi:Option Int) (d:c5) (pv:PV) (Q:VK),pK H va O->Dt K (m7 H va O) x d->f d lo hi=some pv->(∀v H',i0 H H'->RX K O va H H' v pv->Q v H')->r x lo hi H Q
theorem a0c:ZW K (WT K) Sz:=by
 intro O va H x lo hi d pv Q D hx hf q;cases hx with
 |tup hs ht =>
  cases hf;refine .inl ⟨_,_,rfl,o6.cL hs,λe=>?_,λp hp=>q _ _ (i0.new hp) (vy D hp (ht.cut lo hi))⟩
  have h2:=ht.cut lo hi;rw[e]at h2;exact q _ H (i0.refl H) (Dt.tup hs h2)
 |lst hs ht =>
  cases hf;exact .inr ⟨_,_,rfl,o6.seq hs,λp hp=>q _ _ (i0.new hp) (fk hp (ht.cut lo hi))⟩
 |_=>cases hf
def TOX(K:i5)(to:TO)(F:Ds->Option (Option Int)):Prop :=
 ∀(O:List Addr) (e8:Hp) (as:As) (σ:St) (H:Hp) (ds:Ds) (b:Option Int) (Q:Option Int->Hp->Prop),DS K O e8 as σ H ds->F ds=some b->(∀H',i0 H H'->Q b H')->to σ H Q
structure MK(X:Cx)(e:Option Expr)(to:TO)(F:Ds->Option (Option Int)):Prop where
 p:PO X e to
 t:TOX X.K to F
noncomputable def Af:Ds->Option (Option Int):=λ_=>some none
def ZU:c5->Option Int
 | .int i=>some i
 |_=>none
noncomputable def vE(F:DV):Ds->Option (Option Int):=λds=>(F ds).bind λpv=>(ZU pv.d).bind λi=>some (some i)
section
variable{X:Cx}{fr:Bool}{e:Expr}{te:TE}{F:DV}{p2 pos:Pos}
theorem Qf:MK X none Fp Af:=⟨Vc,by intro O e8 as σ H ds b Q S hf q;cases hf;exact q H (i0.refl H)⟩
theorem Qe(h:PX X fr e te F):MK X (some e) (Sq te) (vE F):=⟨Vb h.p,by
 intro O e8 as σ H ds b Q S hf q;unfold vE at hf;cases h1:F ds with
 |none=>rw[h1]at hf;cases hf
 |some pv =>
  rw[h1]at hf;simp only[i7]at hf;refine h.t O e8 as σ H ds pv _ S h1 λv H1 e1 r1=>?_
  have d:=r1.dt S.dm;generalize pv.d=z at d hf;cases d with
  |int i=>cases hf;exact⟨i,rfl,q H1 e1⟩
  |_=>cases hf⟩
noncomputable def GQ(f:c5->Option Int->Option Int->Option PV)(F:DV)(Fl Fh:Ds->Option (Option Int)):DV:=λds=>(F ds).bind λx=>(Fl ds).bind λlo=>(Fh ds).bind λhi=>f x.d lo hi
theorem Pu{r:V->Option Int->Option Int->Hp->VK->Prop}{f:c5->Option Int->Option Int->Option PV}{lo hi:Option Expr}{tl th:TO}{Fl Fh:Ds->Option (Option Int)}(ho:ue X r)(hr:ZW X.K r f)(he:PX X fr e te F)(hl:MK X lo tl Fl)(hh:MK X hi th Fh):
  PX X fr (.Subscript e (.Slice lo hi none p2) pos) (ZK r te tl th) (GQ f F Fl Fh):=⟨Qn ho he.p hl.p hh.p,by
 intro O e8 as σ H ds pv Q S hf q;unfold GQ at hf;cases h1:F ds with
 |none=>rw[h1]at hf;cases hf
 |some x =>
  cases h2:Fl ds with
  |none=>rw[h1,h2]at hf;cases hf
  |some l =>
   cases h3:Fh ds with
   |none=>rw[h1,h2,h3]at hf;cases hf
   |some h =>
    rw[h1,h2,h3]at hf;simp only[i7]at hf;refine he.t O e8 as σ H ds x _ S h1 λv H1 e1 r1=>?_
    refine hl.t O e8 as σ H1 ds l _ (S.grow e1) h2 λH2 e2=>?_
    refine hh.t O e8 as σ H2 ds h _ ((S.grow e1).grow e2) h3 λH3 e3=>?_
    refine hr O (U9 fr as) H3 v l h x.d pv Q (((S.grow e1).grow e2).grow e3).dm ((r1.grow (e2.trans e3)).dt S.dm) hf λw H4 e4 r4=>?_
    exact q w H4 (((e1.trans e2).trans e3).trans e4) (r4.back ((e1.trans e2).trans e3))⟩
end
section
variable{X:Cx}
theorem oT.one{r:List V->Hp->VK->Prop}{f:c5->Option PV}(h:YM K (λx=>r [x]) f):oT K r (λl=>match l with
  | [d]=>f d
  |_=>none):=by
 intro O va H xs ds pv Q D hx hf q;cases hx with
 |nil=>cases hf
 |cons h1 t =>
  cases t with
  |nil=>exact h O va H _ _ pv Q D h1 hf q
  |cons _ _=>cases hf
def Pr(K:i5):List V->Hp->VK->Prop:=λxs H Q=>(∃p ys,xs=[.ref p]/\(D9 K H p ys\/N6 K H p ys)/\Q (.int ys.length) H)\/(∃z,xs=[.str z]/\z.length<=B2/\Q (.int z.length) H)
theorem MC:T9 X (.builtin "len") (Pr X.K):=Cy.or Cw
def M4:FV
 | [.list l]=>some (.dat (.int (l.length:Nat)))
 | [.tuple l]=>some (.dat (.int (l.length:Nat)))
 | [.str z]=>if z.length<=1000000 then some (.dat (.int (z.length:Nat)))else none
 |_=>none
theorem o8.inv1{d:c5}(h:o8 K H xs [d]):∃x,xs=[x]/\Dt K H x d:=by
 cases h with
 |cons h t=>cases t;exact⟨_,rfl,h⟩
theorem YZ:oT K (Pr K) M4:=by
 intro O va H xs ds pv Q D hx hf q;unfold M4 at hf;split at hf
 . cases hf;obtain⟨x,rfl,h⟩:=hx.inv1;cases h with
   |lst hs ht=>exact .inl ⟨_,_,rfl,.inl (o6.seq hs),q _ H (i0.refl H) (by rw[ht.length];exact Dt.int _)⟩
 . cases hf;obtain⟨x,rfl,h⟩:=hx.inv1;cases h with
   |tup hs ht=>exact .inl ⟨_,_,rfl,.inr (o6.cL hs),q _ H (i0.refl H) (by rw[ht.length];exact Dt.int _)⟩
 . split at hf
   . rename_i hz;cases hf;obtain⟨x,rfl,h⟩:=hx.inv1;cases h;exact .inr ⟨_,rfl,lQ hz,q _ H (i0.refl H) (Dt.int _)⟩
   . cases hf
 . cases hf
def qu:FV
 | [.int i]=>some (.dat (.int (if i<0 then -i else i)))
 |_=>none
theorem Zc:oT K (λxs H Q=>∃i,xs=[.int i]/\Q (.int (if i<0 then -i else i)) H) qu:=by
 intro O va H xs ds pv Q D hx hf q;unfold qu at hf;split at hf
 . cases hf;obtain⟨x,rfl,h⟩:=hx.inv1;cases h;exact⟨_,rfl,q _ H (i0.refl H) (Dt.int _)⟩
 . cases hf
def pR:FV
 | [.list l]=>some (.dat (.tuple l))
 | [.tuple l]=>some (.dat (.tuple l))
 |_=>none
theorem Ua:oT K (λxs H Q=>∃p ys,xs=[.ref p]/\((D9 K H p ys/\∀l,H l=none->Q (.ref l) (upd H l (.tup ys)))\/(N6 K H p ys/\Q (.ref p) H))) pR:=by
 intro O va H xs ds pv Q D hx hf q;unfold pR at hf;split at hf
 . cases hf;obtain⟨x,rfl,h⟩:=hx.inv1;cases h with
   |lst hs ht=>exact⟨_,_,rfl,.inl ⟨o6.seq hs,λp hp=>q _ _ (i0.new hp) (vy D hp ht)⟩⟩
 . cases hf;obtain⟨x,rfl,h⟩:=hx.inv1;cases h with
   |tup hs ht=>exact⟨_,_,rfl,.inr ⟨o6.cL hs,q _ H (i0.refl H) (Dt.tup hs ht)⟩⟩
 . cases hf
def V1:FV
 | [.list l]=>some (.own l)
 | [.tuple l]=>some (.own l)
 |_=>none
theorem Wf:oT K (λxs H Q=>∃p ys,xs=[.ref p]/\(D9 K H p ys\/N6 K H p ys)/\∀l,H l=none->Q (.ref l) (upd H l (.lst ys))) V1:=by
 intro O va H xs ds pv Q D hx hf q;unfold V1 at hf;split at hf
 . cases hf;obtain⟨x,rfl,h⟩:=hx.inv1;cases h with
   |lst hs ht=>exact⟨_,_,rfl,.inl (o6.seq hs),λp hp=>q _ _ (i0.new hp) (fk hp ht)⟩
 . cases hf;obtain⟨x,rfl,h⟩:=hx.inv1;cases h with
   |tup hs ht=>exact⟨_,_,rfl,.inr (o6.cL hs),λp hp=>q _ _ (i0.new hp) (fk hp ht)⟩
 . cases hf
def intD:FV
 | [.int i]=>some (.dat (.int i))
 | [.bool k]=>some (.dat (.int (if k then 1 else 0)))
 |_=>none
def boolsOf:List c5->Option (List Bool)
 | []=>some []
 | .bool b::r=>(boolsOf r).bind λl=>some (b::l)
 |_=>none
def rP:FV
 | [.list l]=>(boolsOf l).bind λbs=>some (.dat (.bool (bs.all id)))
 |_=>none
theorem o8.bools{K:i5}{H:Hp}:∀{l:List c5} {xs:List V} {bs:List Bool},o8 K H xs l->boolsOf l=some bs->xs=bs.map V.bl
 | [],_,_,h,e=>by cases e;cases h;rfl
 |d::r,xs,bs,h,e=>by
  cases h with
  |cons h t =>
   cases h with
   |bl b =>
    have e':((boolsOf r).bind λl=>some (b::l))=some bs:=e
    cases h1:boolsOf r with
    |none=>rw[h1]at e';cases e'
    |some l =>
     rw[h1]at e';cases e';rw[t.bools h1];rfl
   |_=>cases e
theorem Za{A:A2}(hh:A.handled=none):oT K (λxs H Q=>∃(p:Addr) (bs:List Bool),xs=[.ref p]/\D9 K H p (bs.map V.bl)/\A.handled=none/\Q (.bl (bs.all id)) H) rP:=by
 intro O va H xs ds pv Q D hx hf q;unfold rP at hf;split at hf
 . rename_i l;cases h1:boolsOf l with
   |none=>rw[h1]at hf;cases hf
   |some bs =>
    rw[h1]at hf;cases hf;obtain⟨x,rfl,h⟩:=hx.inv1;cases h with
    |lst hs ht =>
     have e:=ht.bools h1;subst e;exact⟨_,bs,rfl,o6.seq hs,hh,q _ H (i0.refl H) (Dt.bl _)⟩
 . cases hf
noncomputable def ck(n:String)(F:DV):DV:=λds=>(F ds).bind λx=>if jw x.d=true then none else some (.dat (.bool (zu x.d n)))
theorem UK{fr:Bool}{c:Expr}{F:DV}{x:Str}{pos:Pos}{n:String}(h5:jg n)(hg:Gl X x)(hm:X.mg x=none)(hv:ej x=some (.builtin "isinstance"))(h:PX X fr e te F)(hc:PE X c (tC (.ty n)))(hn:x ≠ "__name__":=by decide)(hdb:(x==("__debug__" : Str))=false:=by decide)(hs1:j4 [e,c] X.env=(false,eval e X.env)::j4 [c] X.env:=by rfl)(hs2:j4 [c] X.env=(false,eval c X.env)::j4 [] X.env:=by rfl)(hpl:(A9 pos (j4 [c] X.env)).any (·.1)=false:=by rfl):
  PX X fr (.Call (.Name x p) [e,c] [] pos) (vn (λxs H Q=>∃x n d,xs=[x,.ty n]/\Dt X.K H x d/\jw d=false/\jg n/\Q (.bl (zu d n)) H) (cP te (cP (tC (.ty n)) gI))) (ck n F) :=
 ⟨Bg RO hg hm hv (bD h.p (bD hc gR hs2) hs1) hn hdb hs1 hpl,by
 intro O e8 as σ H ds pv Q S hf q;unfold ck at hf;cases h1:F ds with
 |none=>rw[h1]at hf;cases hf
 |some w =>
  rw[h1]at hf;simp only[i7]at hf;split at hf
  . cases hf
  . rename_i hfn;cases hf;refine h.t O e8 as σ H ds w _ S h1 λv H1 e1 r1=>?_
    exact⟨v,n,w.d,rfl,(r1.dt S.dm).same o6,by simpa using hfn,h5,q _ H1 e1 (Dt.bl _)⟩⟩
end
abbrev Zf(K:i5):List V->Hp->VK->Prop:=λxs H Q=>∃p ys,xs=[.ref p]/\((D9 K H p ys/\∀l,H l=none->Q (.ref l) (upd H l (.tup ys)))\/(N6 K H p ys/\Q (.ref p) H))
abbrev WV(K:i5):List V->Hp->VK->Prop:=λxs H Q=>∃p ys,xs=[.ref p]/\(D9 K H p ys\/N6 K H p ys)/\∀l,H l=none->Q (.ref l) (upd H l (.lst ys))
def HL(K:i5):List V->Hp->VK->Prop:=λxs H Q=>∃(p:Addr) (bs:List Bool),xs=[.ref p]/\D9 K H p (bs.map V.bl)/\Q (.bl (bs.all id)) H
theorem MD(hh:X.A.handled=none):T9 X (.builtin "all") (HL X.K):=λpins s σ H xs us Q I r h=>by obtain⟨p,bs,e,hs,q⟩:=h;exact RP pins s σ H xs us Q I r ⟨p,bs,e,hs,hh,q⟩
theorem Wl:oT K (HL K) rP:=by intro O va H xs ds pv Q D hx hf q;obtain⟨p,bs,e,hs,_,z⟩:=Za (A:=jX) rfl O va H xs ds pv Q D hx hf q;exact⟨p,bs,e,hs,z⟩
theorem PD{fr:Bool}{es:List Expr}{t:TA}{Fl:DL}{pos:Pos}{CX:nV}{E:XK}{k:Nat}{f:Addr}{fd:O0}{ps:List Str}{x:Str}{f':FV}(eK:X.K=K')(G:Z5 X.prog X.w K' X.mg X.base CX k f fd ps (B3 K' f'))(hr:J2 k X.A)(hg:Gl X x)(hm:X.mg x=some (.ref f))(hk:fL K' (.ref f)=true)(hb:Binds K' fd ps [])(hx:Passes CX X E)(ha:eU X fr (e::es) t Fl)(hdb:(x==("__debug__" : Str))=false:=by decide)(he:j4 (e::es) X.env=(false,eval e X.env)::j4 es X.env:=by rfl)(hpl:(A9 pos (j4 es X.env)).any (·.1)=false:=by rfl):
  PX X fr (.Call (.Name x p) (e::es) [] pos) (pU (B3 K' f') [] E t) (e9 f' Fl):=by subst eK;exact UN G hr hg hm hk hb hx ha hdb he hpl
def Zg(K:i5):List V->Hp->VK->Prop:=λxs H Q=>∃x n d,xs=[x,.ty n]/\Dt K H x d/\jw d=false/\jg n/\Q (.bl (zu d n)) H
theorem pZ(eK:X.K=K'){fr:Bool}{c:Expr}{F:DV}{x:Str}{pos:Pos}{n:String}(h5:jg n)(hg:Gl X x)(hm:X.mg x=none)(hv:ej x=some (.builtin "isinstance"))(h:PX X fr e te F)(hc:PE X c (tC (.ty n)))(hn:x ≠ "__name__":=by decide)(hdb:(x==("__debug__" : Str))=false:=by decide)(hs1:j4 [e,c] X.env=(false,eval e X.env)::j4 [c] X.env:=by rfl)(hs2:j4 [c] X.env=(false,eval c X.env)::j4 [] X.env:=by rfl)(hpl:(A9 pos (j4 [c] X.env)).any (·.1)=false:=by rfl):
  PX X fr (.Call (.Name x p) [e,c] [] pos) (vn (Zg K') (cP te (cP (tC (.ty n)) gI))) (ck n F):=by subst eK;exact UK h5 hg hm hv h hc hn hdb hs1 hs2 hpl
theorem IY:jg "tuple":=.inl rfl
theorem LV:jg "list":=.inr (.inl rfl)
theorem LW:jg "bool":=.inr (.inr (.inl rfl))
theorem Rm:jg "int":=.inr (.inr (.inr (.inl rfl)))
def sX(i:Nat)(ds:Ds):Nat:=match ds[i]? with
 |some (some (.dat (.int k)))=>k.natAbs+1
 |_=>0
end
section
variable{H H':Hp}{K:i5}
theorem VG:m7 H [] []=H:=by
 funext b
 delta m7;rw[c9 (by simp)]
theorem Ul{a:Addr}{xs:List V}(h:D9 K H a xs):D9 K (m7 H [] []) a xs:=by rw[VG];exact h
theorem Cd{K:i5}{H:Hp}:∀ns:List Int,o8 K H (ns.map V.int) (ns.map Z0)
 | []=>.nil
 |n::r=>.cons (.int n) (Cd r)
theorem VJ{v:V}(r:RX K [] [] H H' v (.dat (.bool true))):v=.bl true:=by have r':Dt K (m7 H' [] []) v (.bool true):=r;cases r';rfl
end
section
variable{ds ds2:Ds}{α:Type}{j lo:Int}{m:Nat}{gt:c5->Ds->Option Ds}{G:DO}{Fc:DB}
def aq(o:Option Out)(G:DO):Option Out:=o.bind λo=>match o with
 | .next ds'=>G ds'
 |o=>some o
theorem m8(G1 G2:DO)(ds:Ds):lZ G1 G2 ds=aq (G1 ds) G2:=rfl
theorem j9(ds:Ds)(G:DO):aq (some (.next ds)) G=G ds:=rfl
theorem AL(pv:PV)(G:DO):aq (some (.ret pv)) G=some (.ret pv):=rfl
theorem AM(ds:Ds)(G:DO):aq (some (.brk ds)) G=some (.brk ds):=rfl
theorem yX(ds:Ds)(G:DO):aq (some (.cont ds)) G=some (.cont ds):=rfl
theorem uY(b:Bool):zN (.bool b)=some b:=rfl
theorem Hh(i:Int):ZU (.int i)=some i:=rfl
theorem vw(l:List c5):bp (.list l)=some l:=rfl
theorem yW(l:List c5):bp (.tuple l)=some l:=rfl
theorem Bk(pv:PV):HY (.ret pv)=some pv:=rfl
theorem zd(ds:Ds):HY (.next ds)=some (.dat .none):=rfl
def Ye(o:Option PV)(i:Nat)(ds:Ds):Option Out:=o.bind λpv=>some (.next (ds.set i (some (.dat pv.d))))
theorem aY(i:Nat)(F:DV)(ds:Ds):j0 i F ds=Ye (F ds) i ds:=rfl
theorem nJ(pv:PV)(i:Nat)(ds:Ds):Ye (some pv) i ds=some (.next (ds.set i (some (.dat pv.d)))):=rfl
def Yd(o:Option PV)(i:Nat)(ds:Ds):Option Out:=o.bind λpv=>some (.next (ds.set i (some pv)))
theorem yr(i:Nat)(F:DV)(ds:Ds):K4 i F ds=Yd (F ds) i ds:=rfl
theorem zm(pv:PV)(i:Nat)(ds:Ds):Yd (some pv) i ds=some (.next (ds.set i (some pv))):=rfl
def CB(o:Option PV)(i:Nat)(ds:Ds):Option Out:=o.bind λpv=>match ds[i]? with
 |some (some (.own l))=>if l.length<1000000 then some (.next (ds.set i (some (.own (l++[pv.d])))))else none
 |_=>none
theorem GK(i:Nat)(F:DV)(ds:Ds):de i F ds=CB (F ds) i ds:=rfl
theorem dw{i:Nat}{l:List c5}(pv:PV)(h:ds[i]? = some (some (.own l)))(hl:l.length<1000000):CB (some pv) i ds=some (.next (ds.set i (some (.own (l++[pv.d]))))):=by delta CB;simp only[i7,h];rw[c7 hl]
abbrev iD(n:Int):Option PV:=some (.dat (.int n))
theorem TJ(x:α)(l:List α):K7 (x::l) 0=some x:=by
 delta K7 eO;rw[c7 (by decide),c7 (by simp)]
 rfl
theorem dZ{l:List α}{i:Int}{n:Nat}(hi:i=(n:Int))(h:n<l.length):K7 l i=l[n]?:=by
 subst hi;delta K7 eO;rw[c7 (by lia),c7 (by lia)]
 simp
theorem TH(x y:α)(l:List α):K7 (x::y::l) 1=some y:=dZ (n:=1) rfl (by simp)
theorem TF(x y z:α)(l:List α):K7 (x::y::z::l) 2=some z:=dZ (n:=2) rfl (by simp)
theorem TC(x y z u:α)(l:List α):K7 (x::y::z::u::l) 3=some u:=dZ (n:=3) rfl (by simp)
theorem TB(x y z u v:α)(l:List α):K7 (x::y::z::u::v::l) 4=some v:=dZ (n:=4) rfl (by simp)
theorem Tz(x y z u v w:α)(l:List α):K7 (x::y::z::u::v::w::l) 5=some w:=dZ (n:=5) rfl (by simp)
theorem Tx(x y z u v w a:α)(l:List α):K7 (x::y::z::u::v::w::a::l) 6=some a:=dZ (n:=6) rfl (by simp)
theorem CC(i j:Int):F3 (.int i) (.int j)=some (.dat (.int (i+j))):=rfl
theorem AE(i j:Int):pV (.int i) (.int j)=some (.dat (.int (i-j))):=rfl
theorem o9{i:Int}(h:Bt 60000 i)(k:Bt 60000 j):B9 (.int i) (.int j)=some (.dat (.int (i*j))):=by delta B9 rD;simp only[];rw[c7 ⟨h,k⟩]
theorem L8{i:Int}(h:j≠0)(k:Bt 8000 j):ay (.int i) (.int j)=some (.dat (.int (i.fdiv j))):=by delta ay rD;simp only[];rw[c7 ⟨h,k⟩]
theorem ar{i:Int}(h:j≠0):cc (.int i) (.int j)=some (.dat (.int (i.fmod j))):=c7 h
theorem Bc{i:Int}(h:yI i j):uu (.int i) (.int j)=some (.dat (.int (i ^ j.toNat))):=c7 h
theorem Pa{i:Int}(h:0<=j):HA (.int i) (.int j)=some (.dat (.int (i/2 ^ j.toNat))):=c7 h
theorem Gr(i j:Int):qF (.int i) (.int j)=some (.dat (.bool (decide (i<j)))):=rfl
theorem Gx(i j:Int):leD (.int i) (.int j)=some (.dat (.bool (decide (i<=j)))):=rfl
theorem GH(i j:Int):oK (.int i) (.int j)=some (.dat (.bool (decide (j<i)))):=rfl
theorem GI(i j:Int):geD (.int i) (.int j)=some (.dat (.bool (decide (j<=i)))):=rfl
theorem GU(i j:Int):Z3 (.int i) (.int j)=decide (i=j):=by simp only[Z3];rw[km];simp
theorem gN(i:Int):L3 (.int i)=true:=by simp[L3,aM,jZ]
theorem Er:L3 .none=true:=by simp[L3,aM,jZ]
theorem GS(i j:Str):Z3 (.str i) (.str j)=decide (i=j):=by simp only[Z3];rw[km];simp
theorem mi(i j:Int):J8 (.int i) (.int j)=some (.dat (.bool (decide (i=j)))):=by
 show(if L3 (.int i)=true/\L3 (.int j)=true then some (PV.dat (.bool (Z3 (.int i) (.int j))))else none)=_
 rw[c7 ⟨gN i,gN j⟩,GU]
theorem Bw(i j:Int):P6 (.int i) (.int j)=some (.dat (.bool (!decide (i=j)))):=by
 show(if L3 (.int i)=true/\L3 (.int j)=true then some (PV.dat (.bool (!PyData.eqv (.int i) (.int j))))else none)=_
 rw[c7 ⟨gN i,gN j⟩,GU]
theorem BZ(i j:Str):J8 (.str i) (.str j)=some (.dat (.bool (decide (i=j)))):=by rfl
theorem Bv(i j:Str):P6 (.str i) (.str j)=some (.dat (.bool (!decide (i=j)))):=by rfl
theorem GD(l:List c5)(i:Int):i6 (.tuple l) (.int i)=(K7 l i).bind λd=>some (.dat d):=rfl
theorem BL(l:List c5)(i:Int):i6 (.list l) (.int i)=(K7 l i).bind λd=>some (.dat d):=rfl
theorem CD(i:Int):qu [.int i]=some (.dat (.int (if i<0 then -i else i))):=rfl
theorem Bs(i:Int):W5 (.int i)=some (.dat (.int (-i))):=rfl
theorem zo(l:List c5):M4 [.list l]=some (.dat (.int (l.length:Nat))):=rfl
theorem BF(l:List c5):M4 [.tuple l]=some (.dat (.int (l.length:Nat))):=rfl
theorem yO(l:List c5):pR [.list l]=some (.dat (.tuple l)):=rfl
theorem Ay(l:List c5):pR [.tuple l]=some (.dat (.tuple l)):=rfl
theorem vN(l:List c5):V1 [.list l]=some (.own l):=rfl
theorem zk(l:List c5):V1 [.tuple l]=some (.own l):=rfl
theorem MH{l m:List c5}(h:l.length+m.length<=1000000):F3 (.list l) (.list m)=some (.own (l++m)):=c7 h
theorem FA(l:List c5)(lo hi:Option Int):Sz (.tuple l) lo hi=some (.dat (.tuple (cutD l lo hi))):=rfl
theorem AH(l:List c5)(lo hi:Option Int):Sz (.list l) lo hi=some (.own (cutD l lo hi)):=rfl
theorem uJ(d:c5):cR d .none=some (.dat (.bool (dU d))):=rfl
theorem tV(d:c5):aH d .none=some (.dat (.bool (!dU d))):=rfl
theorem C9(h : -(4611686018427387904)<=j/\j<4611686018427387904):G6 [.int j]=some (U5 0 j.toNat):=@if_pos _ (Od _) h _ _ _
theorem qr{Fe:DV}{f:Nat->c5}{n:Nat}(h:∀i,i<n->∃pv,Fe (some (.dat (.int (lo+(i:Nat))))::ds)=some pv/\pv.d=f i):D6 k8 k7 Fe ds (U5 lo n)=some ((v8 n).map f):=by
 unfold U5;have key:∀(l:List Nat),(∀i∈l,i<n)->D6 k8 k7 Fe ds (l.map λk=>Z0 (lo+(k:Nat)))=some (l.map f):=by
  intro l;induction l with
  |nil=>intro _;rfl
  |cons i r ih =>
   intro hl;obtain⟨pv,h2,h3⟩:=h i (hl i B7);rw[o5];unfold D6;simp only[k8,i7,k7,w9,jT,mn,Z4,aO];rw[h2];simp only[i7];rw[ih (λj hj=>hl j (A0 _ hj))]
   simp[h3]
 exact key _ (λi hi=>mem_range.mp hi)
theorem aZ{n:Nat}(I:Nat->Ds->Prop)(h0:I 0 ds)(hs:∀i ds,i<n->I i ds->∃ds1 ds2,gt (.int (lo+(i:Nat))) ds=some ds1/\(G ds1=some (.next ds2)\/G ds1=some (.cont ds2))/\I (i+1) ds2):∃ds',M5 gt G (U5 lo n) ds=some (.next ds')/\I n ds':=by
 have key:∀(k i:Nat) (ds:Ds),i+k=n->I i ds->∃ds',M5 gt G ((List.range' i k).map λk=>Z0 (lo+(k:Nat))) ds=some (.next ds')/\I n ds':=by
  intro k;induction k with
  |zero =>
   intro i ds e hi;have h2:i=n:=by lia
   subst h2;exact⟨ds,rfl,hi⟩
  |succ k ih =>
   intro i ds e hi;obtain⟨ds1,ds2,e1,e2,e3⟩:=hs i ds (by lia) hi
   rw[Na,o5];unfold M5;rw[e1];simp only[i7];obtain⟨ds',e4,e5⟩:=ih (i+1) ds2 (by lia) e3
   refine⟨ds',?_,e5⟩;rcases e2 with e2|e2<;>rw[e2]<;>exact e4
 obtain⟨ds',h1,h2⟩:=key n 0 ds (by lia) h0
 refine⟨ds',?_,h2⟩;unfold U5;rw[NL];exact h1
theorem qo{items:List c5}(I:Nat->Ds->Prop)(h0:I 0 ds)(hs:∀i d ds,items[i]? = some d->I i ds->∃ds1 ds2,gt d ds=some ds1/\(G ds1=some (.next ds2)\/G ds1=some (.cont ds2))/\I (i+1) ds2):∃ds',M5 gt G items ds=some (.next ds')/\I items.length ds':=by
 have key:∀(r:List c5) (i:Nat) (ds:Ds),items.drop i=r->i<=items.length->I i ds->∃ds',M5 gt G r ds=some (.next ds')/\I items.length ds':=by
  intro r;induction r with
  |nil =>
   intro i ds e hl hi;have h1:=List.drop_eq_nil_iff.mp e;have h2:i=items.length:=by lia
   subst h2;exact⟨ds,rfl,hi⟩
  |cons x r ih =>
   intro i ds e hl hi;have hlt:i<items.length:=by
    by_cases c:i<items.length
    . exact c
    . rw[NT (by lia)]at e;cases e
   rw[nU hlt]at e;injection e with ea eb
   obtain⟨ds1,ds2,e1,e2,e3⟩:=hs i x ds (by rw[G0 hlt,ea]) hi
   unfold M5;rw[e1];simp only[i7];obtain⟨ds',e4,e5⟩:=ih (i+1) ds2 eb (by lia) e3
   refine⟨ds',?_,e5⟩;rcases e2 with e2|e2<;>rw[e2]<;>exact e4
 exact key items 0 ds (by simp) (bN _) h0
theorem Am{n:Nat}(h:Fc ds=some false):E3 Fc G (n+1) ds=some (.next ds):=by unfold E3;rw[h];rfl
theorem Em{n:Nat}(h:Fc ds=some true)(k:G ds=some (.next ds2)):E3 Fc G (n+1) ds=E3 Fc G n ds2:=by rw[E3,h];simp only[i7,w9];rw[k];rfl
theorem yK(I:Ds->Prop)(μ:Ds->Nat)(hs:∀ds,I ds->Fc ds=some false\/(Fc ds=some true/\∃ds2,G ds=some (.next ds2)/\I ds2/\μ ds2<μ ds)):
  ∀(n:Nat) (ds:Ds),I ds->μ ds<n->∃ds',E3 Fc G n ds=some (.next ds')/\I ds'/\Fc ds'=some false:=by
 intro n;induction n with
 |zero=>intro ds _ h;lia
 |succ n ih =>
  intro ds hi hm;rcases hs ds hi with h|⟨h,ds2,k,i2,m2⟩
  . exact⟨ds,Am h,hi,h⟩
  . obtain⟨ds',e,r⟩:=ih ds2 i2 (by lia)
    exact⟨ds',by rw[Em h k];exact e,r⟩
theorem Bt.iS{i:Int}(h1 : -4611686018427387904<i)(h2:i<4611686018427387904)(hm:62<=m:=by decide):Bt m i:=(Bt.small (by lia) (by lia)).mono hm
theorem Bt.lit{i:Int}(h1 : -4611686018427387904<i:=by decide)(h2:i<4611686018427387904:=by decide)(hm:62<=m:=by decide):Bt m i:=Bt.iS h1 h2 hm
end
section
variable{K:i5}
def Tf(i:Nat)(f:List c5->List c5):DO:=λds=>match ds[i]? with
 |some (some (.own l))=>some (.next (ds.set i (some (.own (f l)))))
 |_=>none
section
variable{X:Cx}{e o:Expr}{te:TE}{F:DV}{pos cpos apos:Pos}
def IW(i:Nat)(F:DV):DO:=λds=>(F ds).bind λpv=>match pv,ds[i]? with
 | .own m,some (some (.own l))=>if l.length+m.length<=1000000 then some (.next (ds.set i (some (.own (l++m)))))else none
 |_,_=>none
theorem UX (i:Nat) (ho:PE X o (E9 i)) (he:PX X true e te F) (hst:j4 [e] X.env=(false,eval e X.env)::j4 [] X.env:=by rfl) (hbase:V8 o "extend" X.env (eval o X.env)=eval o X.env:=by rfl) (hfew:((A9 cpos (j4 [e] X.env)).all (λx=>!x.1)&&(aw cpos (cq [] X.env)).all (λx=>x.1.isSome)
   && decide ([e].length+([]:List W8).length+(if ([]:List W8).isEmpty then 0 else 1)<30))=true:=by rfl)
  (hline:(apos.endLine==cpos.line)=true:=by rfl) (hplain:(A9 cpos (j4 [] X.env)).any (·.1)=false:=by rfl)
  (hs:aK (.Call (.Attribute o "extend" apos) [e] [] cpos) none pos.line X.env=pure false:=by rfl) :
  J3 X (.Expr (.Call (.Attribute o "extend" apos) [e] [] cpos) pos) (pT (Fq X.K "list" FP (E9 i) (cP te gI))) (IW i F) :=
 ⟨lK (Ae pH PySem.F.slot_list_extend PySem.F.type_list_extend Ln ho (bD he.p gR hst) hbase hfew hline hst hplain) hs,by
 intro O e8 as σ H ds D o S h q;unfold IW at h;cases e1:F ds with
 |none=>rw[e1]at h;cases h
 |some pv =>
  rw[e1]at h;simp only[i7]at h;split at h
  . rename_i m l hd;split at h
    . rename_i hl;cases h;obtain⟨a,xs,z1,z2,z3,z4⟩:=S.slot i _ hd;refine⟨_,z1,.inl ⟨rfl,xs,D9.of z3⟩,?_⟩;refine he.t O e8 as σ H ds _ _ S e1 λv H1 s1 r1=>?_
      obtain⟨b,zs,rfl,y1,y2,y3⟩:=r1;have hx:=z4.length;have hy:=y3.length;refine⟨a,b,xs,zs,rfl,rfl,s1 _ _ z3,y2,lQ (by lia),q as σ _ ?_⟩
      exact(S.grow s1).turn hd z1 ((z4.same (L6 s1)).append (y3.same (U6 (i0.refl _) λb z=>A0 _ z)))
    . cases h
  . cases h⟩
noncomputable def X3(i:Nat)(Fk Fv:DV):DO:=λds=>(Fv ds).bind λpv=>(Fk ds).bind λk=>match k.d,ds[i]? with
 | .int k,some (some (.own l))=>(eO l.length k).bind λj=>some (.next (ds.set i (some (.own (l.set j pv.d)))))
 |_,_=>none
theorem PJ {k:Expr} {tk:TE} {Fk:DV} (i:Nat) {ipos:Pos} (ho:PE X o (E9 i)) (hk:PX X true k tk Fk) (he:PX X true e te F) (ha:∀v,assign (.Subscript o k ipos) X.env v=(do
   let ov <- holding [v] (eval o X.env)
   let iv <- holding [v,ov] (eval k X.env)
   cD ipos
   holding [v,ov,iv] (setItem ov iv v)
   release [v,ov,iv] []):=by intro _;rfl)
  (hs:Dk [.Subscript o k ipos] e pos.line X.env=pure false:=by rfl) (hw:Dj [.Subscript o k ipos] e X.env=pure none:=by rfl)
  (h1:(jY [.Subscript o k ipos] X.env).map (·.2)=[assign (.Subscript o k ipos) X.env]:=by rfl) :
  J3 X (.Assign [.Subscript o k ipos] e pos) (lO te (Rg (E9 i) tk HH)) (X3 i Fk F):=⟨Kq he.p (Kx ho hk.p set_list ha) hs hw h1,by
 intro O e8 as σ H ds D o S h q;unfold X3 at h;cases e1:F ds with
 |none=>rw[e1]at h;cases h
 |some pv =>
  cases e2:Fk ds with
  |none=>rw[e1,e2]at h;cases h
  |some kv =>
   rw[e1,e2]at h;simp only[i7]at h;split at h
   . rename_i kk l hkk hd;cases e3:eO l.length kk with
     |none=>rw[e3]at h;cases h
     |some j =>
      rw[e3]at h;cases h;refine he.t O e8 as σ H ds pv _ S e1 λv H1 s1 r1=>?_
      have S1:=S.grow s1;obtain⟨a,xs,z1,z2,z3,z4⟩:=S1.slot i _ hd;refine⟨_,z1,?_⟩;refine hk.t O e8 as σ H1 ds kv _ S1 e2 λw H2 s2 r2=>?_
      have dk:=r2.dt S1.dm;rw[hkk]at dk;cases dk;have dv:=(r1.grow s2).dt S.dm;refine⟨a,xs,kk,j,rfl,rfl,s2 _ _ z3,by rw[z4.length];exact e3,q as σ _ ?_⟩
      exact(S1.grow s2).turn hd z1 ((z4.same (L6 s2)).set j dv)
   . cases h⟩
end
def rH:c5->c5->Bool
 | .none,.none=>true
 | .bool a,.bool b=>a==b
 | .bool a,.int b=>(if a then 1 else 0)==b
 | .int a,.bool b=>a==(if b then 1 else 0)
 | .int a,.int b=>a==b
 | .str a,.str b=>a==b
 |_,_=>false
theorem Dt.bw{K:i5}{H:Hp}{x:V}{d:c5}(h:Dt K H x d)(f:Flat d=true):L2.bw x=true:=by
 cases h with
 |non=>rfl
 |bl _=>rfl
 |int _=>rfl
 |str _=>rfl
 |tup _ _=>cases f
 |lst _ _=>cases f
 |exc _ _ _ _ _=>cases f
 |fn _=>cases f
 |ins _ _ _ _=>cases f
 |dct _ _ _=>cases f
theorem Dt.rH{K:i5}{H:Hp}{x y:V}{d e:c5}(h:Dt K H x d)(k:Dt K H y e)(f:Flat d=true)(g:Flat e=true):wu x y=L2.rH d e:=by
 cases h with
 |tup _ _=>cases f
 |lst _ _=>cases f
 |exc _ _ _ _ _=>cases f
 |fn _=>cases f
 |ins _ _ _ _=>cases f
 |dct _ _ _=>cases f
 |non=>cases k with
  |tup _ _=>cases g
  |lst _ _=>cases g
  |exc _ _ _ _ _=>cases g
  |fn _=>cases g
  |ins _ _ _ _=>cases g
  |dct _ _ _=>cases g
  |_=>rfl
 |bl _=>cases k with
  |tup _ _=>cases g
  |lst _ _=>cases g
  |exc _ _ _ _ _=>cases g
  |fn _=>cases g
  |ins _ _ _ _=>cases g
  |dct _ _ _=>cases g
  |_=>rfl
 |int _=>cases k with
  |tup _ _=>cases g
  |lst _ _=>cases g
  |exc _ _ _ _ _=>cases g
  |fn _=>cases g
  |ins _ _ _ _=>cases g
  |dct _ _ _=>cases g
  |_=>rfl
 |str _=>cases k with
  |tup _ _=>cases g
  |lst _ _=>cases g
  |exc _ _ _ _ _=>cases g
  |fn _=>cases g
  |ins _ _ _ _=>cases g
  |dct _ _ _=>cases g
  |_=>rfl
theorem o8.vU{K:i5}{H:Hp}{x:V}{d:c5}(h:Dt K H x d)(f:Flat d=true):∀{xs:List V} {l:List c5},o8 K H xs l->l.all Flat=true->xs.all bw=true/\L2.vU x xs=l.any (λy=>L2.rH y d)
 |_,_,.nil,_=>⟨rfl,rfl⟩
 |_,_,.cons k t,g=>by
  rw[fK,ek]at g;obtain⟨h1,h2⟩:=o8.vU h f t g.2;refine⟨by rw[fK,k.bw g.1,h1];rfl,?_⟩
  unfold L2.vU at h2 ⊢;rw[rZ,rZ,h2,k.rH h g.1 f]
def inD:c5->c5->Option PV:=λd e=>(bp e).bind λl=>if Flat d=true/\l.all Flat=true then some (.dat (.bool (l.any λy=>rH y d)))else none
def rk:c5->c5->Option PV:=λd e=>(bp e).bind λl=>if Flat d=true/\l.all Flat=true then some (.dat (.bool (!l.any λy=>rH y d)))else none
theorem GF{O:List Addr}{va:As}{H:Hp}{x y:V}{d e:c5}{l:List c5}(hx:Dt K (m7 H va O) x d)(hy:Dt K (m7 H va O) y e)(hl:bp e=some l)(hf:Flat d=true/\l.all Flat=true):
  ∃p xs,y=.ref p/\(D9 K H p xs\/N6 K H p xs)/\bw x=true/\xs.all bw=true/\vU x xs=l.any (λy=>rH y d):=by
 cases hy with
 |lst hs ht =>
  cases hl;obtain⟨h1,h2⟩:=o8.vU hx hf.1 ht hf.2;exact⟨_,_,rfl,.inl (o6.seq hs),hx.bw hf.1,h1,h2⟩
 |tup hs ht =>
  cases hl;obtain⟨h1,h2⟩:=o8.vU hx hf.1 ht hf.2;exact⟨_,_,rfl,.inr (o6.cL hs),hx.bw hf.1,h1,h2⟩
 |_=>cases hl
theorem a0d:cB K (FN K false) inD:=by
 intro O va H x y d e pv Q D hx hy hf q;unfold inD at hf;cases hl:bp e with
 |none=>rw[hl]at hf;cases hf
 |some l =>
  rw[hl]at hf;simp only[i7]at hf;split at hf
  . rename_i hc;cases hf;obtain⟨p,xs,e1,h1,h2,h3,h4⟩:=GF hx hy hl hc;refine⟨p,xs,e1,h1,h2,h3,q _ H (i0.refl H) ?_⟩;rw[h4];exact Dt.bl _
  . cases hf
theorem Ub:cB K (FN K true) rk:=by
 intro O va H x y d e pv Q D hx hy hf q;unfold rk at hf;cases hl:bp e with
 |none=>rw[hl]at hf;cases hf
 |some l =>
  rw[hl]at hf;simp only[i7]at hf;split at hf
  . rename_i hc;cases hf;obtain⟨p,xs,e1,h1,h2,h3,h4⟩:=GF hx hy hl hc;refine⟨p,xs,e1,h1,h2,h3,q _ H (i0.refl H) ?_⟩;rw[h4];exact Dt.bl _
  . cases hf
end
section
variable{r ds:List c5}{K:i5}
def uP(i:Nat)(F:DV):DV:=λds=>match ds[i]? with
 |some (some (.dat d))=>(F ds).bind λk=>i6 d k.d
 |some (some (.own l))=>(F ds).bind λk=>i6 (.list l) k.d
 |_=>none
def Ma(i:Nat):DV:=λds=>match ds[i]? with
 |some (some (.dat d))=>V1 [d]
 |some (some (.own l))=>V1 [.list l]
 |_=>none
def intsOf:List c5->Option (List Int)
 | []=>some []
 | .int i::r=>(intsOf r).bind λl=>some (i::l)
 |_=>none
def xT:FV
 | [.list l]=>(intsOf l).bind λis=>some (.dat (.int is.sum))
 |_=>none
def av:Int->List c5->List c5
 |_,[]=>[]
 |k,d::r=>.tuple [.int k,d]::av (k+1) r
noncomputable def lu:List c5->Option (List c5)
 | [d]=>(bp d).bind λl=>some (av 0 l)
 |_=>none
theorem Cq(a b:Prop)[Decidable a][Decidable b]:(if a then some (PV.dat (.bool (decide b)))else some (PV.dat (.bool false)))=some (PV.dat (.bool (decide (a/\b)))):=by
 by_cases h:a
 . rw[c7 h];simp[h]
 . rw[c9 h];simp[h]
theorem BN(i:Int):intD [.int i]=some (.dat (.int i)):=rfl
theorem zv(b:Bool):intD [.bool b]=some (.dat (.int (if b=true then 1 else 0))):=rfl
theorem yS(l:List c5):xT [.list l]=(intsOf l).bind λis=>some (.dat (.int is.sum)):=rfl
theorem zE(d:c5):lu [d]=(bp d).bind λl=>some (av 0 l):=rfl
theorem P9{gt:c5->Ds->Option Ds}{G:DO}{d:c5}{ds ds1 ds2:Ds}(h1:gt d ds=some ds1)(h2:G ds1=some (.next ds2)):M5 gt G (d::r) ds=M5 gt G r ds2:=by rw[M5,h1];simp only[i7];rw[h2];rfl
theorem comp_map{α:Type}{g f:α->c5}{Fe:DV}{ds:Ds}:∀{l:List α},(∀x∈l,∃pv,Fe (some (.dat (g x))::ds)=some pv/\pv.d=f x)->D6 k8 k7 Fe ds (l.map g)=some (l.map f)
 | [],_=>rfl
 |x::r,h=>by
  obtain⟨pv,h2,h3⟩:=h x B7;rw[o5];unfold D6;simp only[k8,i7,k7,w9,jT,mn,Z4,aO];rw[h2];simp only[i7];rw[comp_map (λy hy=>h y (A0 _ hy))]
  simp[h3]
theorem ints_map{α:Type}(f:α->Int):∀l:List α,intsOf (l.map λx=>.int (f x))=some (l.map f)
 | []=>rfl
 |x::r=>by rw[o5,intsOf,ints_map f r];rfl
theorem rO{α β:Type}{o:Option α}{f:α->Option β}{b:β}(h:o.bind f=some b):∃a,o=some a/\f a=some b:=by
 cases o with
 |none=>cases h
 |some a=>exact⟨a,rfl,h⟩
section
variable{X:Cx}{fr:Bool}{b o:Expr}{tb:TE}{Fb:DV}{pos p:Pos}
theorem Xh(i:Nat)(ho:PE X o (E9 i))(hb:PX X fr b tb Fb)(hs:jk b:=by intro _ _;rfl):PX X fr (.Subscript o b pos) (nA (yZ X.K) (E9 i) tb) (uP i Fb):=⟨Ad vS ho hb.p hs,by
 intro O e8 as σ H ds pv Q S hf q;unfold uP at hf;split at hf
 . rename_i d hd;obtain⟨k,h1,hf⟩:=rO hf;obtain⟨v,e1,hv⟩:=S.slot i _ hd;refine⟨v,e1,hb.t O e8 as σ H ds k _ S h1 λy H1 s1 r1=>?_⟩
   exact Wg O (U9 fr as) H1 v y d k.d pv Q (S.grow s1).dm (hv.same (gv.trans (L6 s1))) (r1.dt S.dm) hf λu H2 e2 r2=>q u H2 (s1.trans e2) (r2.back s1)
 . rename_i l hd;obtain⟨k,h1,hf⟩:=rO hf;obtain⟨a,xs,e1,e2,e3,hv⟩:=S.slot i _ hd;refine⟨_,e1,hb.t O e8 as σ H ds k _ S h1 λy H1 s1 r1=>?_⟩
   have dy:=r1.dt S.dm;generalize k.d=kk at hf dy;cases dy with
   |int j =>
    have hf':((L2.K7 l j).bind λd=>some (PV.dat d))=some pv:=hf
    obtain⟨d,h2,hf'⟩:=rO hf';cases hf';obtain⟨v,h3,h4⟩:=hv.K7 h2;exact .inl ⟨a,xs,j,v,rfl,rfl,D9.of (s1 _ _ e3),h3,q v H1 s1 (Dt.same (gv.trans (L6 s1)) h4)⟩
   |_=>cases hf
 . cases hf⟩
theorem AW{x:Str}{u:c8}{v:V}{d:c5}(hg:Gl X x)(h:X.mg x=some u/\RelV v u/\∀H,Dt X.K H v d)(hd:(x==("__debug__" : Str))=false:=by decide):PX X fr (.Name x pos) (tC v) (fC d) :=
 AX (Vi hg h.1 h.2.1 hd) h.2.2
end
theorem zG{mg:Str->Option c8}{x:Str}{a:Addr}{dd:Option Addr}{its:Array c8}{n:Nat}{sl:Array (Option c8)}{vs:List V}(hm:mg x=some (.ref a))(hk:K.lookup a=some ⟨.type "tuple",dd,.seq its n,sl⟩)(hz:its.size<=1000)(r:Vals vs its.toList)(hd:∀H,o8 K H vs ds):
  mg x=some (.ref a)/\RelV (.ref a) (.ref a)/\∀H,Dt K H (.ref a) (.tuple ds):=⟨hm,rfl,λH=>.tup (.inr ⟨_,its,n,hk,rfl,rfl,P4 hz (by rw[iu];decide),r⟩) (hd H)⟩
theorem kZ:∀{ns:List Int} {us:List c8},Vals (ns.map V.int) us->S8 us ns
 | [],_,.nil=>.nil
 |n::r,_,.cons h t=>by obtain⟨k,rfl⟩:=h;exact .cons n k (kZ t)
def HG(K:i5):List V->Hp->VK->Prop:=λxs H Q=>∃(p:Addr) (ns:List Int),xs=[.ref p]/\D9 K H p (ns.map V.int)/\Q (.int ns.sum) H
theorem MA{X:Cx}(hh:X.A.handled=none):T9 X (.builtin "sum") (HG X.K):=by
 intro pins s σ H xs us Q I r h;obtain⟨p,ns,rfl,hq,q⟩:=h;obtain⟨u,rfl,ru⟩:=vals1 r;cases ru;obtain⟨its,rv,pl,hz⟩:=I.list hq;have hi:=kZ rv;obtain⟨ys,ey⟩:=hi.allInts.items;have hl:=pl.isList;rw[ey]at hl;have en:ys.toList.map (·.1)=ns:=by have h1:=hi.numsOf;rw[<-nums_intItems,<-ey];exact h1
 refine sum_intListG hh hl λh' tk t' kk=>?_
 rw[preSum_eq,NS (by simp),en]
 exact⟨.int ns.sum,H,I.kept kk,⟨t',rfl⟩,q⟩
theorem o8.ints{K:i5}{H:Hp}:∀{l:List c5} {xs:List V} {is:List Int},o8 K H xs l->intsOf l=some is->xs=is.map V.int
 | [],_,_,.nil,e=>by cases e;rfl
 |d::r,_,is,.cons (x:=x) h t,e=>by
  cases h with
  |int i =>
   rw[intsOf]at e;cases h2:intsOf r with
   |none=>rw[h2]at e;cases e
   |some js =>
    rw[h2]at e;cases e;rw[o8.ints t h2];rfl
  |_=>cases e
theorem Wb:oT K (HG K) xT:=by
 intro O va H xs ds pv Q D hd hf q;unfold xT at hf;split at hf
 . rename_i l;obtain⟨x,rfl,hx⟩:=hd.inv1;cases hx with
   |lst hs ht =>
    rename_i a ys;cases h1:intsOf l with
    |none=>rw[h1]at hf;cases hf
    |some is =>
     rw[h1]at hf;cases hf;have e:=ht.ints h1;subst e;exact⟨a,is,rfl,o6.seq hs,q _ H (i0.refl H) (Dt.int _)⟩
 . cases hf
section
variable{X:Cx}{bs nb:List Str}{elt tg iter:Expr}{ifs:List Expr}{scope:Y4}{cpos pos pos':Pos}{wi:TI}{g:TG}{tt:TT}{te:TE}{Fi:DL}{gt:c5->Option (List c5)}{Fc:DB}{Fe:DV}{i:Nat}{x:Str}
theorem Ki(hN:X.N.Nodup)(hi':X.N[i]? = some x)(hx:Loc X.env.scope x)(hc:X.calm=true)(B:lG X bs nb scope)(hi:jU X true tg iter wi Fi)(go:nc bs.length g)(hg:∀cl C fp s H pins,PG (X4 X bs nb scope cl C fp s H pins) tg g)(hgt:zO X.K bs.length g gt)(ht:∀cl C fp s H pins,lA (X4 X bs nb scope cl C fp s H pins) ifs tt Fc)(he:∀cl C fp s H pins,PX (X4 X bs nb scope cl C fp s H pins) true elt te Fe)(hsw:aK (.ListComp elt [⟨tg,iter,ifs,0⟩] scope cpos) (some (.Name x pos')) pos.line X.env=pure true:=by rfl)(hf:X.fn x=true\/X.env.scope.names.lookup x=some .local:=by first|exact .inl rfl|exact .inr rfl|assumption)(hs:∀x,eu iter X.env x=pure x:=by intro _;rfl):J3 X (.Assign [.Name x pos'] (.ListComp elt [⟨tg,iter,ifs,0⟩] scope cpos) pos) (lO (lg bs wi g tt te) (Y8 i)) (j0 i (k6 Fi gt Fc Fe)) :=
 ⟨FW hN hi' hx hc B hi.p go hg (λ_ _ _ _ _ _=>(ht _ _ _ _ _ _).p) (λ_ _ _ _ _ _=>(he _ _ _ _ _ _).p) hsw hf hs,by
 have hF:=(xZ (pos:=cpos) hc B hi go hg hgt ht he hs).t;intro O e8 as σ H ds D o S h q;unfold j0 at h;cases e1:k6 Fi gt Fc Fe ds with
 |none=>rw[e1]at h;cases h
 |some pv =>
  rw[e1]at h;cases h;refine hF O e8 as σ H ds pv _ S e1 λv H1 s1 r1=>?_
  exact q _ _ _ ((S.grow s1).set i (r1.dt S.dm))⟩
theorem Kh(hN:X.N.Nodup)(hi':X.N[i]? = some x)(hx:Loc X.env.scope x)(hc:X.calm=true)(B:lG X bs nb scope)(hi:jU X true tg iter wi Fi)(go:nc bs.length g)(hg:∀cl C fp s H pins,PG (X4 X bs nb scope cl C fp s H pins) tg g)(hgt:zO X.K bs.length g gt)(ht:∀cl C fp s H pins,lA (X4 X bs nb scope cl C fp s H pins) ifs tt Fc)(he:∀cl C fp s H pins,PX (X4 X bs nb scope cl C fp s H pins) true elt te Fe)(hsw:aK (.ListComp elt [⟨tg,iter,ifs,0⟩] scope cpos) (some (.Name x pos')) pos.line X.env=pure true:=by rfl)(hf:X.fn x=true\/X.env.scope.names.lookup x=some .local:=by first|exact .inl rfl|exact .inr rfl|assumption)(hs:∀x,eu iter X.env x=pure x:=by intro _;rfl):J3 X (.Assign [.Name x pos'] (.ListComp elt [⟨tg,iter,ifs,0⟩] scope cpos) pos) (lO (lg bs wi g tt te) (Y8 i)) (K4 i (k6 Fi gt Fc Fe)) :=
 ⟨FW hN hi' hx hc B hi.p go hg (λ_ _ _ _ _ _=>(ht _ _ _ _ _ _).p) (λ_ _ _ _ _ _=>(he _ _ _ _ _ _).p) hsw hf hs,by
 have hF:=(xZ (pos:=cpos) hc B hi go hg hgt ht he hs).t;intro O e8 as σ H ds D o S h q;unfold K4 at h;cases e1:k6 Fi gt Fc Fe ds with
 |none=>rw[e1]at h;cases h
 |some pv =>
  rw[e1]at h;cases h;refine hF O e8 as σ H ds pv _ S e1 λv H1 s1 r1=>?_
  obtain⟨as',S'⟩:=S.store s1 i r1;exact q _ _ _ S'⟩
end
end
section
variable{X:Cx}{p:Array Nat}
mutual
def LF:c5->Bool
 | .none=>true
 | .bool _=>true
 | .int _=>true
 | .str _=>true
 | .tuple l=>fE l
 |_=>false
def fE:List c5->Bool
 | []=>true
 |d::r=>LF d&&fE r
end
theorem Uu{K:i5}{H H':Hp}{a:Addr}{xs:List V}(e:∀b o,H b=some o->¬Cell o->H' b=some o)(h:N6 K H a xs):N6 K H' a xs:=by
 rcases h with (h|⟨o,h⟩)|h
 . exact .inl (.inl (e _ _ h (λz=>by rcases z with ⟨_,z⟩|⟨_,z⟩|⟨_,_,_,z⟩<;>cases z)))
 . exact .inl (.inr ⟨o,e _ _ h (λz=>by rcases z with ⟨_,z⟩|⟨_,z⟩|⟨_,_,_,z⟩<;>cases z)⟩)
 . exact .inr h
mutual
theorem Dt.lf{K:i5}{H H':Hp}(e:∀b o,H b=some o->¬Cell o->H' b=some o){x:V}{d:c5}(h:Dt K H x d)(f:LF d=true):Dt K H' x d:=by
 cases h with
 |non=>exact .non
 |bl b=>exact .bl b
 |int i=>exact .int i
 |str y=>exact .str y
 |tup hs ht=>exact .tup (Uu e hs) (o8.lf e ht (by rw[LF]at f;exact f))
 |lst hs ht=>simp[LF]at f
 |exc _ _ _ _ _=>simp[LF,yy]at f
 |fn _=>simp[LF,Tn]at f
 |ins _ _ _ _=>simp[LF,rC]at f
 |dct _ _ _=>simp[LF,yE]at f
theorem o8.lf{K:i5}{H H':Hp}(e:∀b o,H b=some o->¬Cell o->H' b=some o){xs:List V}{ds:List c5}(h:o8 K H xs ds)(f:fE ds=true):o8 K H' xs ds:=by
 cases h with
 |nil=>exact .nil
 |cons a t =>
  rw[fE,ek]at f;exact .cons (Dt.lf e a f.1) (o8.lf e t f.2)
end
def AS(K:i5):V->List V->Hp->VK->Prop:=λx vs H Q=>∃(p:Addr) (ns:List Int) (k:Int),x=.ref p/\vs=[.int k]/\D9 K H p (ns.map V.int)/\k∈ns/\ns.length<=1000000/\Q (.int (ns.idxOf k:Nat)) H
theorem QH:TV X "list.index" (AS X.K):=by
 intro pins s σ H x vs v us Q I rx rv h;obtain⟨p,ns,k,rfl,rfl,hq,hk,hz,q⟩:=h;cases rx;obtain⟨u,rfl,ru⟩:=vals1 rv;obtain⟨t,rfl⟩:=ru;obtain⟨its,rv,pl,_⟩:=I.list hq;have hi:=kZ rv;obtain⟨⟨cls,dd,data,sl⟩,ho,hc,n,hd⟩:=id pl.isList;simp only at hc hd;subst hc hd;have hlen:=hi.length;have hj:ns.idxOf k<ns.length:=(List.idxOf_lt_length_iff).2 hk;refine oY Ob ⟨_,ho,rfl⟩ PySem.F.entry_list_index (PySem.F.args_list_index_2 _ _)
  (PySem.SeqAt.list_indexAt p its.toArray n dd sl (.int k t) (isInt k) (ns.idxOf k) (by simpa [hlen]using hj) (by lia) ?_ ?_) ⟨ho,λy hy=>(eq_isInt k t hi y (by simpa using hy)).at _ _,?_⟩
 . show isInt k its[ns.idxOf k]=true
   rw[isInt_at k hi _ (by lia) hj]
   simpa using Nw hj
 . intro j hjs hlt;show isInt k its[j]=false
   rw[isInt_at k hi j (by simpa using hjs) (by lia)]
   exact ne_of_lt_idxOf hlt _
 . exact⟨.int _,H,I.tok _,⟨_,rfl⟩,q⟩
def jQ:c5->List c5->Option PV
 | .list l,[.int k]=>(intsOf l).bind λns=>if k∈ns/\ns.length<=1000000 then some (.dat (.int (ns.idxOf k:Nat)))else none
 |_,_=>none
noncomputable def lr(f:c5->List c5->Option PV)(Fo:DV)(Fl:DL):DV:=λds=>(Fo ds).bind λo=>(Fl ds).bind λl=>f o.d l
theorem Py {fr:Bool} {o e:Expr} {to:TE} {t:TA} {Fo:DV} {Fl:DL} {apos cpos:Pos} (ho:PX X fr o to Fo) (ha:eU X fr [e] t Fl) (hbase:V8 o "index" X.env (eval o X.env)=eval o X.env:=by rfl) (hfew:((A9 cpos (j4 [e] X.env)).all (λx=>!x.1)&&(aw cpos (cq [] X.env)).all (λx=>x.1.isSome)
   && decide ([e].length+([]:List W8).length+(if ([]:List W8).isEmpty then 0 else 1)<30))=true:=by rfl)
  (hline:(apos.endLine==cpos.line)=true:=by rfl) (hs:j4 [e] X.env=(false,eval e X.env)::j4 [] X.env:=by rfl) (hplain:(A9 cpos (j4 [] X.env)).any (·.1)=false:=by rfl) :
  PX X fr (.Call (.Attribute o "index" apos) [e] [] cpos) (Fq X.K "list" (AS X.K) to t) (lr jQ Fo Fl) :=
 ⟨Ae pH Ob PySem.F.type_list_index QH ho.p ha.p hbase hfew hline hs hplain,by
 intro O e8 as σ H ds pv Q S hf q;unfold lr at hf;cases h1:Fo ds with
 |none=>rw[h1]at hf;cases hf
 |some x =>
  cases h2:Fl ds with
  |none=>rw[h1,h2]at hf;cases hf
  |some l =>
   rw[h1,h2]at hf;simp only[i7]at hf;refine ho.t O e8 as σ H ds x _ S h1 λv H1 e1 r1=>?_
   have d1:=r1.dt S.dm;generalize x.d=xd at hf d1;unfold jQ at hf;split at hf
   . rename_i l' k;cases d1 with
     |lst hsq ht =>
      rename_i a xs;cases h3:intsOf l' with
      |none=>rw[h3]at hf;cases hf
      |some ns =>
       rw[h3]at hf;simp only[i7]at hf;split at hf
       . rename_i hk;cases hf;have ex:=ht.ints h3;subst ex;refine⟨.inl ⟨rfl,_,o6.seq hsq⟩,?_⟩;refine ha.t O e8 as σ H1 ds _ _ (S.grow e1) h2 λvs H2 e2 r2=>?_
         obtain⟨y,rfl,hy⟩:=r2.inv1;cases hy;exact⟨a,ns,k,rfl,rfl,e2.seq (o6.seq hsq),hk.1,hk.2,q _ H2 (e1.trans e2) (Dt.int _)⟩
       . cases hf
   . cases hf⟩
def IH{α:Type}(c:Nat->Nat->Bool):pk α->α
 | .ret a=>a
 | .ask i j k=>IH c (k (c i j))
def br(n:Nat){α:Type}(R:α->Prop):pk α->Prop
 | .ret a=>R a
 | .ask i j k=>i<n/\j<n/\∀b,br n R (k b)
theorem dS{n:Nat}{α β:Type}{R:α->Prop}{R':β->Prop}{f:α->pk β}(hf:∀a,R a->br n R' (f a)):∀t:pk α,br n R t->br n R' (t.bind f)
 | .ret a,h=>hf a h
 | .ask i j k,h=>⟨h.1,h.2.1,λb=>dS hf (k b) (h.2.2 b)⟩
theorem zr{n:Nat}{α:Type}{R:α->Prop}(c:Nat->Nat->Bool):∀t:pk α,br n R t->R (IH c t)
 | .ret _,h=>h
 | .ask i j k,h=>zr c (k (c i j)) (h.2.2 _)
theorem ZR{n:Nat}{α:Type}{R:α->Prop}{c:Nat->Nat->Bool}{cmp:Nat->Nat->(Bool->h8->Prop)->h8->Prop}{Q:α->h8->Prop}{s:h8}(hc:∀i j C,i<n->j<n->C (c i j) s->cmp i j C s):
  ∀t:pk α,br n R t->Q (IH c t) s->t.kasWp cmp Q s
 | .ret _,_,q=>q
 | .ask i j k,h,q=>hc i j _ h.1 h.2.1 (ZR hc (k (c i j)) (h.2.2 _) q)
def Pm(n:Nat)(p:Array Nat):Prop:=p.Perm (List.toArray (v8 n))
theorem Pm.lt{n:Nat}(h:Pm n p)(hn:0<n)(i:Nat):p.getD i 0<n:=by
 by_cases hi:i<p.size
 . have e:p.getD i 0=p[i]:=by simp[Array.getD,hi]
   have m:p[i]∈p:=Array.getElem_mem hi;have:=h.mem_iff.mp m;rw[e];simpa using this
 . have e:p.getD i 0=0:=by simp[Array.getD,hi]
   lia
theorem Pm.rev{n:Nat}(h:Pm n p)(i j:Nat):Pm n (MO p i j):=(mirror_perm _ _ _ _).trans h
theorem Pm.bub{n:Nat}(h:Pm n p)(i j:Nat):Pm n (bubble p i j):=(bubble_perm _ _ _).trans h
theorem BH{n:Nat}{p:Array Nat}(h:Pm n p)(hn:0<n):∀f m,br n (λ_=>True) (PySem.W.kas_asc p f m)
 | 0,_=>cF
 |f+1,m=>⟨h.lt hn _,h.lt hn _,λb=>by
  cases b with
  |true=>exact cF
  |false=>exact BH h hn f (m+1)⟩
theorem sZ{n:Nat}(hn:0<n):∀f (p:Array Nat) m q,Pm n p->br n (λr=>Pm n r.1) (PySem.W.kas_desc f p m q)
 | 0,_,_,_,h=>h
 |f+1,p,m,q,h=>⟨h.lt hn _,h.lt hn _,λb=>by
  cases b with
  |true =>
   show br n _ (if q>0 then _ else _)
   split
   . exact sZ hn f _ _ _ (h.rev _ _)
   . exact sZ hn f _ _ _ h
  |false =>
   refine⟨h.lt hn _,h.lt hn _,λd=>?_⟩
   cases d with
   |true=>exact h
   |false=>exact sZ hn f _ _ _ h⟩
theorem BG{n:Nat}(h:Pm n p)(hn:0<n)(a b:Nat):br n (λr=>Pm n r.2) (Nk a b p):=by delta Nk;exact dS (R:=λ_=>True) (R':=λr:Nat×Array Nat=>Pm n r.2) (f:=λm=>.ret (m,MO p 0 a)) (λm _=>h.rev 0 a) _ (BH (h.rev _ _) hn _ _)
theorem tU{n:Nat}(h:Pm n p)(hn:0<n)(a b:Nat):br n (λr=>Pm n r.2) (NK a b p):=by
 delta NK;refine dS (R:=λr=>Pm n r.1) (λr hr=>?_) _ (sZ hn _ _ _ _ h)
 split
 . exact BG (hr.rev _ _) hn _ _
 . exact BG hr hn _ _
theorem QU{n:Nat}(h:Pm n p)(hn:0<n)(b:Nat):br n (λr=>Pm n r.2) (Nj b p):=by
 delta Nj;refine dS (R:=λ_=>True) (λm _=>?_) _ (BH h hn _ _)
 split
 . exact h
 . split
   . refine⟨h.lt hn _,h.lt hn _,λc=>?_⟩
     cases c with
     |true=>exact h
     |false=>exact tU (h.rev _ _) hn _ _
   . exact tU h hn _ _
theorem uI{n:Nat}{p:Array Nat}(h:Pm n p)(hn:0<n)(k:Nat):∀f l r,br n (λ_=>True) (PySem.W.kas_place p k f l r)
 | 0,_,_=>cF
 |f+1,l,r=>by
  show br n _ (if l>=r then _ else _)
  split
  . exact cF
  . refine⟨h.lt hn _,h.lt hn _,λc=>?_⟩
    cases c with
    |true=>exact uI h hn k f _ _
    |false=>exact uI h hn k f _ _
theorem Ly{n:Nat}(hn:0<n):∀f (p:Array Nat) k,Pm n p->br n (Pm n) (PySem.W.kas_bin f p k)
 | 0,_,_,h=>h
 |f+1,p,k,h=>dS (λl _=>Ly hn f _ _ (h.bub _ _)) _ (uI h hn k _ _ _)
theorem Gz{n:Nat}(hn:0<n):br n (Pm n) (DE n):=by
 delta DE;refine dS (R:=λr=>Pm n r.2) (λr hr=>?_) _ (QU (show Pm n _ from .refl _) hn _)
 split
 . exact Ly hn _ _ _ hr
 . exact hr
end
def BE(fin:Bool):List Int->List Int->Bool
 |a::r,b::t=>if a=b then BE fin r t else decide (a<b)
 |_,_=>fin
def QQ(x y:List Int):Bool:=BE (decide (x.length<y.length)) x y
theorem BJ{prog:B1}{w:t9}{A:A2}{fin:Bool}{Q:Bool->h8->Prop}{s:h8}:∀{us vs:List c8} {xs ys:List Int} (i:Nat),S8 us xs->S8 vs ys->Q (BE fin xs ys) s->PySem.W.KatLex prog w A true fin Q (us.zip vs) i s
 |_,_,[],_,_,.nil,_,q=>by rw[Nn];exact q
 |_,_,_::_,[],_,_,.nil,q=>by rw[Ny];exact q
 |_,_,a::r,b::t,i,.cons _ tk h,.cons _ tk' h',q=>by
  rw[kx];refine PySem.W.kat_cons (wpAny_eqBool_int ?_);by_cases e:a=b
  . rw[show(a==b)=true by simpa using e]
    refine PySem.W.kat_yes (BJ (i+1) h h' ?_);rw[BE,c7 e]at q;exact q
  . rw[show(a==b)=false by simpa using e]
    rw[BE,c9 e]at q;refine PySem.W.kat_no ?_;cases i with
    |zero=>exact oneLt_int q
    |succ i=>exact PySem.W.kat_one _ _ (lt_int (show PySem.W.BoolBack Q (.bool (decide (a<b))) s from q))
def eh(h:Heap):List c8->List (List Int)->Prop
 | [],[]=>True
 |v::vs,k::ks=>(∃a o xs n,v=.ref a/\h.get? a=some o/\o.cls=.type "tuple"/\o.data=.seq xs n/\S8 xs.toList k)/\eh h vs ks
 |_,_=>False
theorem eh.keeps{h h':Heap}(kp:∀b o,h.get? b=some o->(∃xs n,o.data=.seq xs n)->h'.get? b=some o):∀{vs:List c8} {ks:List (List Int)},eh h vs ks->eh h' vs ks
 | [],[],_=>cF
 |_::_,_::_,⟨⟨a,o,xs,n,e,ho,hc,hd,hi⟩,t⟩=>⟨⟨a,o,xs,n,e,kp _ _ ho ⟨_,_,hd⟩,hc,hd,hi⟩,eh.keeps kp t⟩
theorem eh.LY{h:Heap}:∀{vs:List c8} {ks:List (List Int)},eh h vs ks->(∀k∈ks,k≠[])->∃fs,PySem.W.KatTups h vs fs/\fs.length=ks.length/\∀f∈fs,∃i t,f=.int i t
 | [],[],_,_=>⟨[],.nil,rfl,by simp⟩
 |_::_,k::ks,⟨⟨a,o,xs,n,rfl,ho,hc,hd,hi⟩,t⟩,hn=>by
  obtain⟨fs,h1,h2,h3⟩:=eh.LY t (λk hk=>hn k (A0 _ hk))
  cases hi':xs.toList with
  |nil=>rw[hi']at hi;cases hi;exact absurd rfl (hn [] B7)
  |cons u r =>
   rw[hi']at hi;cases hi with
   |cons i tk hr =>
    refine⟨.int i tk::fs,.cons ho hc hd ?_ h1,by simp[h2],?_⟩
    . have:xs[0]? = xs.toList[0]?:=by simp
      rw[this,hi'];rfl
    . intro f hf;rcases List.mem_cons.mp hf with rfl|hf
      . exact⟨i,tk,rfl⟩
      . exact h3 f hf
theorem eh.get{h:Heap}:∀{vs:List c8} {ks:List (List Int)} {i:Nat},eh h vs ks->i<ks.length->∃a o xs n,vs.getD i .none=.ref a/\h.get? a=some o/\o.data=.seq xs n/\S8 xs.toList (ks.getD i [])
 | [],[],_,_,hi=>by simp at hi
 |v::_,k::_,0,⟨⟨a,o,xs,n,e,ho,hc,hd,hi⟩,t⟩,_=>⟨a,o,xs,n,by simpa using e,ho,hd,by simpa using hi⟩
 |_::vs,_::ks,i+1,⟨_,t⟩,hi=>by
  obtain⟨a,o,xs,n,h1,h2⟩:=eh.get (i:=i) t (by simpa using hi)
  exact⟨a,o,xs,n,by simpa using h1,by simpa using h2⟩
def rh(ks:List (List Int)):List Nat:=(IH (λi j=>QQ (ks.getD i []) (ks.getD j [])) (DE ks.length)).toList
theorem rf{ks:List (List Int)}(h:0<ks.length):(rh ks).Perm (v8 ks.length):=by
 have:=zr (λi j=>QQ (ks.getD i []) (ks.getD j [])) _ (Gz h)
 have e:=Array.Perm.toList this;simpa [rh]using e
def yH(h:Heap)(L:Addr):List (Addr×Obj):=(v8 h.objs.size).filterMap λb=>if b=L then none else(h.get? b).map λo=>(b,o)
theorem jv{h:Heap}{L b:Addr}{o:Obj}:(b,o)∈yH h L↔h.get? b=some o/\b≠L:=by
 delta yH;rw[xt];constructor
 . rintro⟨c,_,e⟩;split at e
   . cases e
   . rename_i hc;cases hg:h.get? c with
     |none=>rw[hg]at e;cases e
     |some u=>rw[hg]at e;cases e;exact⟨hg,hc⟩
 . rintro⟨e,hb⟩;exact⟨b,mem_range.mpr (B4 e),by rw[c9 hb,e];rfl⟩
def Ka(K:i5):List V->Hp->VK->Prop:=λxs H Q=>∃(p:Addr) (ys:List V) (ks:List (List Int)),xs=[.ref p]/\D9 K H p ys/\2<=ks.length/\ks.length<64/\(∀k∈ks,k≠[])/\ys.length=ks.length /\
 (∀i y,ys[i]? = some y->∃a,y=.ref a/\N6 K H a ((ks.getD i []).map V.int))/\∀l,H l=none->Q (.ref l) (upd H l (.lst ((rh ks).map λi=>ys.getD i .non)))
section
variable{X:Cx}{pins:List (Addr×Obj)}{σ:St}{H:Hp}{s:h8}
theorem Ax(I:Inv X pins σ H s):∀{ys:List V} {its:List c8} {ks:List (List Int)},Vals ys its->ys.length=ks.length->(∀i y,ys[i]? = some y->∃a,y=.ref a/\N6 X.K H a ((ks.getD i []).map V.int))->eh s.heap its ks
 | [],_,[],.nil,_,_=>cF
 |y::ys,_,k::ks,.cons r t,hl,h=>by
  obtain⟨a,rfl,hq⟩:=h 0 y rfl;cases r;obtain⟨its,rv,⟨o,e,c,n,dd⟩,_⟩:=I.tuple hq;refine⟨⟨a,o,_,n,rfl,e,c,dd,by simpa using kZ rv⟩,Ax I t (by simpa using hl) λi y hy=>?_⟩
  obtain⟨b,h1,h2⟩:=h (i+1) y (by simpa using hy)
  exact⟨b,h1,by simpa using h2⟩
end
section
variable{a D:Addr}{m m':Str->Option c8}
section
variable{X:Cx}{pins:List (Addr×Obj)}{σ:St}{H:Hp}{s:h8}{h':Heap}
theorem Li{h:Heap}(x:h.Ns a m)(y:h.Ns a m'):m=m':=by
 obtain⟨o,es,ep,ho,hd,_,r⟩:=x;obtain⟨o',es',ep',ho',hd',_,r'⟩:=y;rw[ho]at ho';cases ho';rw[hd]at hd';cases hd'
 funext n
 exact(r n).symm.trans (r' n)
theorem V3.get{P:B1}{w:t9}{H:Hp}{h:Heap}{a:Addr}{o:HO}(x:V3 P w H h a o):∃ob,h.get? a=some ob:=by
 induction o with
 |lst xs=>obtain⟨_,_,_,_,e⟩:=x;exact⟨_,e⟩
 |tup xs=>obtain⟨_,_,_,o,e,_⟩:=x;exact⟨_,e⟩
 |dK kvs=>obtain⟨_,_,_,_,o,_,_,e,_⟩:=x;exact⟨_,e⟩
 |dT kvs=>obtain⟨_,_,_,_,o,_,_,e,_⟩:=x;exact⟨_,e⟩
 |set S n=>obtain⟨o,_,_,_,e,_⟩:=x;exact⟨_,e⟩
 |ins C dx fs=>obtain⟨_,_,_,e,_⟩:=x;exact⟨_,e⟩
 |own y=>exact x
 |xd fs=>obtain⟨_,⟨o,_,_,e,_⟩,_⟩:=x;exact⟨_,e⟩
 |met f y=>exact⟨_,x⟩
 |rng lo hi=>obtain⟨_,_,_,e⟩:=x;exact⟨_,e⟩
 |U0 o u ih=>exact⟨_,x.1⟩
 |tbl ps=>exact⟨_,x⟩
 |ext φ=>exact x.2.1
theorem Inv.news{t':Nat}{its:List c8}{c:Nat}{ys:List V}(I:Inv X pins σ H s)(hm:s.heap.Ns X.env.locals m)(hm':h'.Ns X.env.locals m)(k:∀b o,b≠X.env.locals->s.heap.get? b=some o->h'.get? b=some o)(hD:h'.get? D=some {cls:=.type "list",data:=.seq its.toArray c})(hDn:s.heap.get? D=none)(r:Vals ys its)(hz:ys.length<=B2):H D=none/\Inv X pins σ (upd H D (.lst ys)) {s with heap:=h',toks:=t'}:=by
 have hH:H D=none:=by
  cases q:H D with
  |none=>rfl
  |some u =>
   obtain⟨o,e⟩:=V3.get (I.A7 D u q);rw[hDn]at e;cases e
 refine⟨hH,?_⟩;have ne:∀b o,s.heap.get? b=some o->b≠D:=λb o e z=>by rw[z,hDn]at e;cases e
 have nh:∀b u,H b=some u->b≠D:=λb u e z=>by rw[z,hH]at e;cases e
 have nl:∀b u,H b=some u->b≠X.env.locals:=λb u e z=>by rw[z,I.free]at e;cases e
 have hup:∀b u,H b=some u->upd H D (.lst ys) b=some u:=λb u e=>by rw[A3 (nh b u e)];exact e
 refine I.step (H':=upd H D (.lst ys)) (g':=s.gens) (d':=s.drawn) (ch:=[]) (λb hb=>absurd hb (by simp)) (λb o h1 _ _ e _=>k b o h1 e) (λb o h1 _ _ e _=>⟨o.slots,k b o h1 e⟩) (λb o _ e n=>by rw[A3 (ne b o e)];exact n)
  (λb o _ e=>?_) (λb xs e=>hup b _ e) (λb ob u e=>hup b _ e) (λb ps e=>⟨#[],by rw[hup b _ e];simp⟩) (λm' hm''=>?_) (λb u e=>?_) I.bare
 . by_cases hb:b=X.env.locals
   . obtain⟨o',_,_,ho,_⟩:=hm';exact⟨o',by rw[hb];exact ho⟩
   . exact⟨o,k b o hb e⟩
 . rw[<-Li hm hm''];exact hm'
 . by_cases hb:b=D
   . subst hb;rw[E8]at e;cases e;exact⟨hz,its,c,r,hD⟩
   . rw[A3 hb]at e;refine(I.A7 b u e).qP (λc v hc q=>k c v ?_ q) (λc q=>hup c _ q) λc xs q=>hup c _ q
     rcases hc with z|z
     . rw[z];exact nl b u e
     . exact nl c _ z
theorem Aq{ys:List V}{its:List c8}(r:Vals ys its):∀l:List Nat,(∀i∈l,i<ys.length)->Vals (l.map λi=>ys.getD i .non) (l.map λi=>its.getD i fJ)
 | [],_=>.nil
 |i::l,h=>by
  have hi:=h i B7;have e1:ys[i]? = some (ys.getD i .non):=by simp[O2,hi]
  obtain⟨u,e2,ru⟩:=r.get e1;have e3:its.getD i fJ=u:=by simp[O2,e2]
  rw[o5,o5,e3];exact .cons ru (Aq r l λj hj=>h j (A0 _ hj))
theorem Cs:T9 X (.builtin "sorted") (Ka X.K):=by
 intro pins s σ H xs us Q I r h;obtain⟨p,ys,ks,rfl,hq,h2,h64,hn,hl,ht,q⟩:=h;obtain⟨u,rfl,ru⟩:=vals1 r;cases ru;obtain⟨its,rv,pl,hz⟩:=I.list hq;obtain⟨m,hm,_⟩:=I.loc;have il:its.length=ks.length:=by rw[<-rv.length];exact hl
 have T:=Ax I rv hl ht;have e0:∀b,({}:Heap).get? b=none:=λb=>NO (bN _)
 have F:Fr ({}:Heap) X.env.locals s.heap m:=⟨hm,λb o e=>(by rw[e0]at e;cases e),bN _⟩
 have N:News ({}:Heap) X.env.locals s.heap (yH s.heap X.env.locals):=λ⟨b,o⟩ hp=>by obtain⟨h1,h2⟩:=jv.mp hp;exact⟨h1,h2,e0 b⟩
 refine PySem.W.kat_sorted F N pl.isList (by lia) (by lia) λD e1 h1 F1 N1 hlt=>?_
 have k1:∀b o,b≠X.env.locals->s.heap.get? b=some o->h1.get? b=some o:=λb o hb e=>(N1 (b,o) (A0 _ (jv.mpr ⟨e,hb⟩))).1
 have hDL:D≠X.env.locals:=(N1 _ B7).2.1;have hDn:s.heap.get? D=none:=by
  cases e:s.heap.get? D with
  |none=>rfl
  |some o=>exact absurd (hlt _ (jv.mpr ⟨e,hDL⟩)) (X6 _)
 have T1:eh h1 its ks:=T.keeps λb o e ⟨xs,n,hd⟩=>k1 b o (λz=>by obtain⟨o',es,ep,ho,hd',_⟩:=hm;rw[z,ho]at e;cases e;rw[hd]at hd';cases hd') e
 obtain⟨fs,f1,f2,f3⟩:=T1.LY hn;refine PySem.W.kat_kind (T:=.type "int") f1 (by lia) (λv hv=>?_) (by decide) ?_
 . obtain⟨i,t,rfl⟩:=f3 v hv;exact PySem.W.Looks.of_pure rfl
 rw[show(oZ "int" != oZ "tuple")=true by decide]
 rw[il];refine ZR (R:=Pm ks.length) (c:=λi j=>QQ (ks.getD i []) (ks.getD j [])) (λi j C hi hj hC=>?_) _ (Gz (by lia)) ?_
 . obtain⟨a,o,xs,n,g1,g2,g3,g4⟩:=T1.get hi;obtain⟨a',o',xs',n',g1',g2',g3',g4'⟩:=T1.get hj;delta PySem.W.kas_ask;rw[g1,g1'];refine PySem.W.kat_lt g2 g3 g2' g3' (BJ 0 g4 g4' ?_);have l1:xs.size=(ks.getD i []).length:=by rw[<-g4.length];simp
   have l2:xs'.size=(ks.getD j []).length:=by rw[<-g4'.length];simp
   rw[l1,l2];exact hC
 . have hp:=rf (ks:=ks) (by lia)
   refine PySem.W.KasFin.intro F1 N1 (.head λq hq z=>?_) λh2 c F2 N2=>?_
   . have:=hlt q hq;rw[z]at this;exact absurd this (X6 _)
   . have ho:∀i∈rh ks,i<ys.length:=λi hi=>by
       have:=mem_range.mp (hp.mem_iff.mp hi)
       lia
     obtain⟨g1,g2⟩:=Inv.news (t':=s.toks) (ys:=(rh ks).map λi=>ys.getD i .non) I hm F2.ns (λb o hb e=>(N2 (b,o) (A0 _ (jv.mpr ⟨e,hb⟩))).1) (N2 _ B7).1 hDn (Aq rv _ ho) (by rw[F9,hp.length_eq,ku,iu];lia)
     exact⟨.ref D,_,g2,rfl,q D g1⟩
end
end
section
variable{us:List c8}
section
variable{prog:B1}{w:t9}{A:A2}{E:c8->h8->Prop}{s:h8}
theorem OX{x:Addr}{k:Nat}{P:PySem.Fin->h8->Prop}(hx:s.heap.get? x=some (bL "list" us.toArray k))(hu:us.length<2)(hP:P (.done (.ret .none)) {s with heap:=sortedHeap s.heap x us us.toArray}):
  wpAny (model prog w) A (Builtin.«list.sort» ⟨[.ref x],[]⟩) P E s:=by
 have lx:x<s.heap.objs.size:=B4 hx;obtain⟨e1,h1⟩:∃e1,(s.heap.update x (dB λ_=>(#[]:Array c8))).get? x=some (bL "list" #[] e1):=⟨_,get?_update_seq hx λ_=>#[]⟩
 have Ts:us.toArray.size<2:=by rw[L4];exact hu
 have line:us.toArray.size<=B2:=by rw[iu];lia
 have h2:(((s.heap.update x (dB λ_=>(#[]:Array c8))).push (bL "tuple" us.toArray 0)).push (bL "list" #[] 0)).get? x=some (bL "list" #[] e1) :=
  E5 _ (E5 _ h1)
 rw[list_sort_plain];refine wpAny_bind (listItems_at hx rfl (wpAny_bind (listUpdate_at hx rfl (hsz:=line) (hsz2:=bN _) (wpAny_bind (seqEpoch_at h1 rfl (wpAny_bind (wpAny_newTuple (hsz:=by simpa using line) (wpAny_bind (wpAny_newList (kh ?_) (bN _))))))))))
 show wpAny (model prog w) A _ P E {s with heap:=((s.heap.update x (dB λ_=>(#[]:Array c8))).push (bL "tuple" us.toArray 0)).push (bL "list" #[] 0)}
 dsimp only;rw[c7 Ts,c7 Ts];refine wpAny_bind (n9 ?_);rw[StateT.run_pure];refine wpAny_bind (n9 (wpAny_bind (seqEpoch_at h2 rfl (wpAny_bind (listUpdate_at h2 rfl ?_ (hsz:=bN _) (hsz2:=?_))))))
 . simp only[bne_self_eq_false,aB,N9];have e:(arrOf (SortSt.mk' general' (us.toArray.zip us.toArray) #[] 7 none)).map (·.2)=us.toArray:=by
    show(us.toArray.zip us.toArray).map (·.2)=us.toArray
    simp;exact List.map_snd_zip (l5 _)
   rw[e];exact n9 hP
 . show((us.toArray.zip us.toArray).map (·.2)).size<=_
   simp
   lia
theorem Hy{x:Addr}{Q:c8->h8->Prop}(hx:s.heap.IsList x us.toArray)(hu:us.length<2)(h:Q (.ref (s.heap.objs.size+1)) {s with heap:=sortedAll s.heap us us.toArray}):
  wpAny (model prog w) A (call (.builtin "sorted") [.ref x]) Q E s:=by
 have line:us.length<=B2:=by rw[iu];lia
 have sz:((s.heap.push (bL "list" #[] 0)).update s.heap.objs.size (dB (·++us.toArray))).objs.size=s.heap.objs.size+1:=(Heap.size_update ..).trans (size_push' ..);have at1:(((s.heap.push (bL "list" #[] 0)).update s.heap.objs.size (dB (·++us.toArray))).push (bL "list" us.toArray 0)).get? (s.heap.objs.size+1)=some (bL "list" us.toArray 0):=sz▸S7 _ rfl;refine Calls.call_function_entry kind_sorted plain_sorted entry_sorted (args_sorted1 _) (show wpAny _ _ (Builtin.«sorted» _) _ _ _ from ?_)
 delta Builtin.«sorted»;refine wpAny_bind (m:=checkCount "sorted" 1 1 _) (n9 (wpAny_bind (collect_list (hsz:=line) hx (wpAny_bind (wpAny_newList ?_ line)))));show wpAny _ _ _ _ _ {s with heap:=((s.heap.push (bL "list" #[] 0)).update s.heap.objs.size (dB (·++us.toArray))).push (bL "list" us.toArray 0)}
 rw[sz];exact wpAny_bind (kh (kq slot_list_sort ⟨_,at1,rfl⟩ entry_list_sort (OX at1 hu ⟨_,rfl,n9 ⟨_,rfl,h⟩⟩) (args_list_sort _)))
end
def AQ(K:i5):List V->Hp->VK->Prop:=λxs H Q=>(∃(p:Addr) (ys:List V),xs=[.ref p]/\D9 K H p ys/\ys.length<2/\∀l,H l=none->Q (.ref l) (upd H l (.lst ys)))\/Ka K xs H Q
theorem Ct{X:Cx}:T9 X (.builtin "sorted") (AQ X.K):=by
 intro pins s σ H xs us Q I r h;rcases h with ⟨p,ys,rfl,hq,h2,q⟩|h
 . obtain⟨u,rfl,ru⟩:=vals1 r;cases ru;obtain⟨its,rv,pl,hz⟩:=I.list hq;refine Hy pl.isList (by rw[<-rv.length];exact h2) ?_
   obtain⟨e,he⟩:=sortedAll_at s.heap its its.toArray;refine⟨.ref (s.heap.objs.size+1),upd H (s.heap.objs.size+1) (.lst ys),I.laid (t':=s.toks) (λb o hb=>sortedAll_old hb) (wO _) ⟨hz,its,e,rv,he⟩,rfl,q _ (I.A7.fresh (wO _))⟩
 . exact Cs pins s σ H xs us Q I r h
def keysOf:List c5->Option (List (List Int))
 | []=>some []
 | .tuple l::r=>(intsOf l).bind λk=>(keysOf r).bind λks=>some (k::ks)
 |_=>none
def jq:FV
 | [.list l]=>if l.length<2 then some (.own l)else(keysOf l).bind λks=>if l.length<64/\(∀k∈ks,k≠[])then some (.own ((rh ks).map λi=>l.getD i .none))else none
 |_=>none
theorem BI:∀{l:List c5} {ks:List (List Int)},keysOf l=some ks->ks.length=l.length
 | [],_,e=>by cases e;rfl
 |d::r,ks,e=>by
  cases d with
  |tuple l =>
   rw[keysOf]at e;cases h1:intsOf l with
   |none=>rw[h1]at e;cases e
   |some k =>
    cases h2:keysOf r with
    |none=>rw[h1,h2]at e;cases e
    |some ks' =>
     rw[h1,h2]at e;cases e;rw[O1,O1,BI h2]
  |_=>cases e
theorem o8.keys{K:i5}{H:Hp}:∀{l:List c5} {ys:List V} {ks:List (List Int)},o8 K H ys l->keysOf l=some ks->∀i y,ys[i]? = some y->∃a,y=.ref a/\N6 K H a ((ks.getD i []).map V.int)
 | [],_,_,.nil,e=>by intro i y hy;simp at hy
 |d::r,_,ks,.cons (x:=x) hx ht,e=>by
  intro i y hy;cases hx with
  |tup hs hd =>
   rename_i a xs l;rw[keysOf]at e;cases h1:intsOf l with
   |none=>rw[h1]at e;cases e
   |some k =>
    cases h2:keysOf r with
    |none=>rw[h1,h2]at e;cases e
    |some ks' =>
     rw[h1,h2]at e;cases e;cases i with
     |zero =>
      simp at hy;subst hy;have:=hd.ints h1;subst this;exact⟨a,rfl,by simpa using hs⟩
     |succ i =>
      obtain⟨b,h3,h4⟩:=o8.keys ht h2 i y (by simpa using hy)
      exact⟨b,h3,by simpa using h4⟩
  |_=>cases e
theorem o8.ord{K:i5}{H:Hp}{l:List c5}{ys:List V}(h:o8 K H ys l):∀o:List Nat,(∀i∈o,i<l.length)->o8 K H (o.map λi=>ys.getD i .non) (o.map λi=>l.getD i .none)
 | [],_=>.nil
 |i::o,ho=>by
  have hi:=ho i B7;have hl:=h.length;have e1:ys[i]? = some (ys.getD i .non):=by simp[O2,show i<ys.length by lia]
  obtain⟨d,e2,e3⟩:=h.get' e1;have e4:l.getD i .none=d:=by simp[O2,e2]
  rw[o5,o5,e4];exact .cons e3 (o8.ord h o λj hj=>ho j (A0 _ hj))
theorem Jw{K:i5}:oT K (AQ K) jq:=by
 intro O va H xs ds pv Q D hd hf q;unfold jq at hf;split at hf
 . rename_i l;obtain⟨x,rfl,hx⟩:=hd.inv1;cases hx with
   |lst hs ht =>
    rename_i a ys;have hl:=ht.length;split at hf
    . rename_i h2;cases hf;exact .inl ⟨a,ys,rfl,o6.seq hs,by lia,λp hp=>q _ _ (i0.new hp) (fk hp ht)⟩
    . cases h1:keysOf l with
      |none=>rw[h1]at hf;cases hf
      |some ks =>
       rw[h1]at hf;simp only[i7]at hf;split at hf
       . rename_i h2 h3;cases hf;have kl:=BI h1;have hp:=rf (ks:=ks) (by lia)
         refine .inr ⟨a,ys,ks,rfl,o6.seq hs,by lia,by lia,h3.2,by lia,λi y hy=>?_,λp hp'=>q _ _ (i0.new hp') (fk hp' (ht.ord _ λi hi=>?_))⟩
         . obtain⟨b,h4,h5⟩:=ht.keys h1 i y hy;exact⟨b,h4,o6.cL h5⟩
         . have:=mem_range.mp (hp.mem_iff.mp hi)
           lia
       . cases hf
 . cases hf
end
section
variable{kd:Bool}{prog P:B1}{w:t9}{es:List Expr}{k:Nat}{tp:Pos}
theorem EG(kd:Bool)(l:Addr)(xs:Array c8):
  Meets (Builtin.«enumerate.__new__» ⟨[.type "enumerate",.ref l],[]⟩) (λ_ R s=>fW kd s.heap l xs /\
   R (.ok (.ret (.ref (s.heap.push (oI kd l)).objs.size))) {s with heap:=(s.heap.push (oI kd l)).push {cls:=.type "enumerate",data:=.fields #[.none,.bool false,.ref s.heap.objs.size,jV 0,.none,.none]}}) :=
 .of_wp λprog w A R s h=>by
  obtain⟨hp,g,d,tk,os⟩:=s;obtain⟨x1,h⟩:=h;have hsub:=sub_enumerate;have y1:fW kd (CQ ⟨hp,g,d,tk,os⟩) l xs:=x1
  wp_walk using tj y1
  refine wpAny_stack_any λst=>n9 ?_
  split
  . rename_i c _ _ _ _ _;cases(c==oZ "enumerate")
    . wp_walk using tj y1
      exact⟨_,rfl,h⟩
    . wp_walk using tj y1
      exact⟨_,rfl,h⟩
  . wp_walk using tj y1
    exact⟨_,rfl,h⟩
section
variable{prog:B1}{w:t9}{A:A2}{E:c8->h8->Prop}{s:h8}
theorem Jl{l:Addr}{xs:Array c8}{Q:c8->h8->Prop}(x1:fW kd s.heap l xs)(h:∀h',IsEnum h' (s.heap.objs.size+1) s.heap.objs.size 0 .none->iT kd h' s.heap.objs.size l 0->(∀b o,s.heap.get? b=some o->h'.get? b=some o)->Q (.ref (s.heap.objs.size+1)) {s with heap:=h'}):
  wpAny (model prog w) A (call (.type "enumerate") [.ref l]) Q E s:=by
 refine callType_new F.called_enumerate (by decide) (F.typeCall_enumerate_1 _) (F.newCall_enumerate_1 _) (λobj=>F.args_object_init_2 obj _) F.entry_enumerate_new (EG kd l xs) ⟨x1,?_⟩
 have hz:(s.heap.push (oI kd l)).objs.size=s.heap.objs.size+1:=hU ..;have f1:(oI kd l).isFreed=false:=by cases kd<;>rfl
 show _/\_
 rw[hz];have he:IsEnum ((s.heap.push (oI kd l)).push {cls:=.type "enumerate",data:=.fields #[.none,.bool false,.ref s.heap.objs.size,jV 0,.none,.none]}) (s.heap.objs.size+1) s.heap.objs.size 0 .none:=by have:=S7 (s.heap.push (oI kd l)) (o:={cls:=.type "enumerate",data:=.fields #[.none,.bool false,.ref s.heap.objs.size,jV 0,.none,.none]}) rfl;rw[hz]at this;exact this
 exact⟨⟨_,he,rfl⟩,h _ he (.new (E5 _ (S7 _ f1))) λb o x=>E5 _ (E5 _ x)⟩
end
theorem YF{A:A2}(hh:A.handled=none)(it l:Addr)(hne:l≠it)(xs:Array c8):
  Draws prog w A it [it,l] xs.size (λi v=>xs[i]? = some v) (λi h=>kY kd h it l i xs) where
 live:=λi h st=>by
  cases kd
  . exact(Draws.list (prog:=prog) (w:=w) hh it l hne xs).live i h st
  . obtain⟨o,ho,_⟩:=(show h.IsTupleIter it l i/\h.IsTuple l xs from st).1
    exact⟨o,ho⟩
 frame:=λi h h' st hk=>st.kept λb o hb e=>hk b (by rcases hb with rfl|rfl<;>simp) o e
 item:=λi s Q E hi st hQ=>by
  refine lj st hne (x:=xs[i]) (by simp[hi]) λh' it' sb=>?_
  refine hQ _ h' s.toks (by simp[hi]) ?_ sb
  have k2:∀o,s.heap.get? l=some o->h'.get? l=some o:=λo e=>sb.extBut l o hne e
  cases kd
  . obtain⟨_,o,eo,r⟩:=(show s.heap.IsListIter it l i/\s.heap.IsList l xs from st)
    exact⟨it',o,k2 o eo,r⟩
  . obtain⟨_,o,eo,r⟩:=(show s.heap.IsTupleIter it l i/\s.heap.IsTuple l xs from st)
    exact⟨it',o,k2 o eo,r⟩
 done:=λs Q E st hE=>nH hh st (by simp) hE
def Ite(kd:Bool)(K:i5)(a:Addr):It :=
 ⟨λi H=>∃xs x,cA kd K H a xs/\xs[i]? = some x,
  λi H v H'=>∃p,v=.ref p/\H p=none/\∃x,H'=upd H p (.tup [.int i,x])/\∀xs,cA kd K H a xs->xs[i]? = some x,
  λi H=>∃xs,cA kd K H a xs/\xs.length<=i⟩
theorem JG{K:i5}{pos:Pos}{e it a:Addr}(hei:e≠it):
  Turn P w K (.Tuple es k pos) (Ite kd K a) [e,it] e (λi h=>(∃old,IsEnum h e it i old)/\iT kd h it a i) where
 mem:=by simp
 obj:=λi h st c hc=>by
  have hc':c=e\/c=it:=by simpa using hc
  rcases hc' with rfl|rfl
  . obtain⟨old,q⟩:=st.1;exact⟨_,q,λv z=>by cases z⟩
  . exact st.2.obj
 keep:=λi h h' st kk=>by obtain⟨old,q⟩:=st.1;exact⟨⟨old,kk e (by simp) _ q⟩,st.2.at λo z=>kk it (by simp) o z⟩
 item:=by
  intro X hP hw hK hc i pins s σ H E I hf st hg;subst hP hw hK;obtain⟨xs,x,sx,ex⟩:=hg;obtain⟨us,rx,ox⟩:=I.Fy sx st.2;obtain⟨u,hu,ru⟩:=rx.get ex;obtain⟨old,he⟩:=st.1;have fe:=hf e (by simp)
  have fi:=hf it (by simp)
  have ai:a≠it:=sx.x.ne I fi;have ae:a≠e:=sx.x.ne I fe;have hlt:i<us.toArray.size:=by
   have:i<us.length:=by
    by_cases c:i<us.length
    . exact c
    . rw[lC (by lia)]at hu;cases hu
   simpa using this
  have hhd:X.A.in1.handled=none:=I.ok.hd hc;have D:Draws X.prog X.w X.A.in1 it [it,a] us.toArray.size (λi v=>us.toArray[i]? = some v) (λi h=>kY kd h it a i us.toArray):=YF hhd it a ai us.toArray
  refine wpAny_pyNext_enum_itemD D he ox hlt hei (by simp;exact⟨hei,ae.symm⟩) λx' h' tk hP ho hs' hT' hsz hk=>?_
  have ux:x'=u:=by
   have:us.toArray[i]? = some u:=by simpa using hu
   rw[this]at hP;cases hP;rfl
  subst ux;have hT:H s.heap.objs.size=none:=I.A7.fresh (l5 _);have I1:Inv X pins σ H {s with heap:=h',toks:=tk+1}:=I.sJ (t':=tk+1) (ch:=[e,it]) (λc o hc z=>hk c o (λq=>hc (by simp[q])) (λq=>hc (by simp[q])) z) (λc hc=>hf c (by simpa using hc))
  have hTloc:s.heap.objs.size≠X.env.locals:=mL I.lt;have I2:Inv X pins σ (upd H s.heap.objs.size (.tup [.int i,x])) {s with heap:=h',toks:=tk+1}:=I1.Hw hT hTloc (.inr I.sz)
   (λn c z q=>by obtain⟨vv,q2⟩:=I.cell n c z;exact absurd q2.lt (by rw[q];exact X6 _))
   (λp hp q=>absurd (B4 (I.pin p hp).1) (by rw[q];exact X6 _))
   ⟨by show 2<=B2;rw[iu];decide,[.int i tk,x'],.cons ⟨_,rfl⟩ (.cons ru .nil),⟨_,hT',rfl,_,rfl⟩⟩
  refine⟨_,rfl,wpAny_letOwnedTupleGo_enum ho λh2 z2 b2=>?_⟩
  have el:e<s.heap.objs.size:=B4 he;have uz:∀c,c∈[e,it]->(upd H s.heap.objs.size (.tup [.int i,x])) c=none:=λc hc=>by
   have hlt:c<s.heap.objs.size:=by
    have hc':c=e\/c=it:=by simpa using hc
    rcases hc' with rfl|rfl
    . exact el
    . obtain⟨o,z,_⟩:=st.2.obj;exact B4 z
   rw[A3 (X5 hlt)];exact(hf c hc).1
  have I3:Inv X pins σ (upd H s.heap.objs.size (.tup [.int i,x])) {s with heap:=h2,toks:=tk+1}:=Inv.turned (s:={s with heap:=h',toks:=tk+1}) I2 (t':=tk+1) (it:=e) (λc o hc z=>b2.extBut c o hc z) (uz e (by simp)) fe.2.1 fe.2.2.2.1 fe.2.2.2.2.1 fe.2.2.2.2.2
  refine⟨.ref s.heap.objs.size,_,I3,rfl,⟨_,rfl,hT,x,rfl,λxs' hx'=>?_⟩,⟨⟨_,z2⟩,?_⟩,uz⟩
  . rw[hx'.inj I sx];exact ex
  . have it':iT kd h' it a (i+1):=by
      cases kd
      . exact(show h'.IsListIter it a (i+1)/\_ from hs').1
      . exact(show h'.IsTupleIter it a (i+1)/\_ from hs').1
    exact it'.at λo q=>b2.extBut _ _ hei.symm q
 done:=by
  intro X hP hw hK hc i pins s σ H E I hf st hg;subst hP hw hK;obtain⟨xs,sx,hend⟩:=hg;obtain⟨us,rx,ox⟩:=I.Fy sx st.2;obtain⟨old,he⟩:=st.1;have fi:=hf it (by simp)
  have fe:=hf e (by simp)
  have ai:a≠it:=sx.x.ne I fi;have hhd:X.A.in1.handled=none:=I.ok.hd hc;have lx:=rx.length;have hT:s.TypeIs (.ref e) "enumerate":=⟨_,he,rfl⟩;delta jW;refine wpAny_bind (wY (qx (name:=dG "__next__") hT NP (kq NP hT F.entry_enumerate_next ?_ (F.args_enumerate_next_1 _))));show wpAny _ _ (field (.ref e) 2 >>= _) _ _ _
  refine wpAny_bind (bx he rfl (x:=.ref it) rfl ?_);refine wpAny_bind (nH hhd ox (by simp;lia) λh' x he' hx'=>?_)
  obtain⟨o,ho,hc'⟩:=hx';refine wpAny_bind (wpAny_isInstance (T:="StopIteration") (b:=true) ⟨o,ho,hc'⟩ isSubtype_stop ?_);refine n9 ⟨rfl,?_⟩;exact I.sJ (t':=s.toks) (ch:=[it]) (λc o hc z=>he' c o (λq=>hc (by simp[q])) z) (λc hc=>hf c (by
   have:c=it:=by simpa using hc
   simp[this]))
 self:=λ_ _ _ _ _ st h=>by obtain⟨old,q⟩:=st.1;exact wpAny_pyIter_enum q h
section
variable{X:Cx}{fr:Bool}{a:Expr}{ta:TA}{Fl:DL}{p pos:Pos}
def LL(K:i5)(ta:TA):TI:=λσ H R=>ta σ H λvs H1=>∃a kd,vs=[.ref a]/\(∃xs,cA kd K H1 a xs)/\R (Ite kd K a) H1
theorem boot_enumerate:ej "enumerate" = some (.type "enumerate"):=by decide +kernel
theorem Ql(hg:Gl X "enumerate")(hm:X.mg "enumerate" = none)(ha:PA X [a] ta)(hs:j4 [a] X.env=[(false,eval a X.env)]:=by rfl):
  PI X (.Tuple es k tp) (.Call (.Name "enumerate" p) [a] [] pos) (LL X.K ta):=by
 intro pins s σ H R I h;refine Call_ (oH I hg hm boot_enumerate (xM (C4 (ha pos pins s σ H _ I h) λus s1 ⟨vs,H1,I1,r1,q1⟩=>?_) (by rw[hs];rfl) (by rfl)))
 obtain⟨x,kd,e,⟨xs,hx⟩,q⟩:=q1;subst e;obtain⟨u,e,r2⟩:=vals1 r1;subst e;cases r2;obtain⟨us,sx⟩:=I1.aq hx;refine Jl sx λh' Z1 Z2 kk=>?_
 refine wpAny_pyIter_enum Z1 ?_;have I2:Inv X pins σ H1 {s1 with heap:=h'}:=I1.kept (t':=s1.toks) kk
 refine⟨s1.heap.objs.size+1,_,_,_,H1,rfl,I2,JG (e:=s1.heap.objs.size+1) (it:=s1.heap.objs.size) (by show @Ne Nat _ _;lia),⟨⟨_,Z1⟩,Z2⟩,λb hb=>?_,q⟩
 have hb':b=s1.heap.objs.size+1\/b=s1.heap.objs.size:=by simpa using hb
 have hge:s1.heap.objs.size<=b:=by
  rcases hb' with e|e<;>rw[e]
  . exact se _ _
  . exact l5 _
 exact I1.yt hge (I1.A7.fresh hge)
theorem Cb:∀(l:List c5) (k:Int) (i:Nat),(av k l)[i]? = (l[i]?).map λd=>.tuple [.int (k+(i:Nat)),d]
 | [],k,i=>by simp[av]
 |d::r,k,0=>by simp[av]
 |d::r,k,i+1=>by have:=Cb r (k+1) i;simp only[av,R4];rw[this,show k+1+(i:Int)=k+((i+1:Nat):Int) by lia]
theorem Ca:∀(l:List c5) (k:Int),(av k l).length=l.length
 | [],k=>rfl
 |d::r,k=>by rw[av,O1,Ca r,O1]
theorem Qh(hg:Gl X "enumerate")(hm:X.mg "enumerate" = none)(ha:eU X fr [a] ta Fl)(hs:j4 [a] X.env=[(false,eval a X.env)]:=by rfl):
  jU X fr (.Tuple es k tp) (.Call (.Name "enumerate" p) [a] [] pos) (LL X.K ta) (D5 lu Fl):=⟨Ql hg hm ha.p hs,by
 intro O e8 as σ H ds items R S hf q;unfold D5 at hf;cases h1:Fl ds with
 |none=>rw[h1]at hf;cases hf
 |some l =>
  rw[h1]at hf;simp only[i7]at hf;refine ha.t O e8 as σ H ds l _ S h1 λvs H1 e1 r1=>?_
  unfold lu at hf;split at hf
  . rename_i d1;cases hl:bp d1 with
    |none=>rw[hl]at hf;cases hf
    |some l1 =>
     rw[hl]at hf;cases hf;cases r1 with
     |cons r rr =>
      cases rr;obtain⟨a,kd,xs,rfl,s1,t1⟩:=r.aq hl;refine⟨a,kd,rfl,⟨xs,o6.aq s1⟩,q _ H1 e1 λH' e' i=>?_⟩
      have s1':cA kd X.K H' a xs:=e'.aq (vV.aq s1);have g1:=t1.length;rw[Ca];refine⟨λhi=>⟨xs,xs[i]'(by lia),s1',G0 _⟩,λhi=>⟨xs,s1',by lia⟩,λx H'' y hi=>?_⟩
      obtain⟨pp,z1,z2,x',z3,z4⟩:=y;have z5:=z4 xs s1';subst z1;subst z3;obtain⟨dx,ex,hx⟩:=t1.get' z5;refine⟨i0.new z2,.tuple [.int (i:Int),dx],by rw[Cb,ex];simp,λvb hv hO=>?_⟩
      refine .tup (N6.of (F0.mpr ⟨λz=>?_,λz=>?_,E8⟩)) (.cons (.int _) (.cons (rB hx e' (i0.new z2) hv) .nil))
      . obtain⟨o,z⟩:=hO _ z;rw[e' _ _ z]at z2;cases z2
      . obtain⟨_,o,z⟩:=hv _ z;rw[z]at z2;cases z2
  . cases hf⟩
end
end
section
variable{K:i5}{H e8 H':Hp}{nm m:Str}
theorem j6{α β:Type}{o:Option α}{f:α->Option β}{b:β}(h:o.bind f=some b):∃a,o=some a/\f a=some b:=by
 cases o with
 |none=>cases h
 |some a=>exact⟨a,rfl,h⟩
def F4(f:Str):List c5->List c5->Option c5
 | .str n::ns,d::l=>if n=f then some d else F4 f ns l
 |_,_=>none
def tq(nm:Str):c5->Option (List c5×List c5)
 | .dict [(.tuple [.str n,.list ns],.tuple l)]=>if n=nm then some (ns,l)else none
 |_=>none
theorem LK(nm:Str)(ns:List Str)(l:List c5):tq nm (rC nm ns l)=some (ns.map .str,l):=by
 show(if nm=nm then some (ns.map PyData.str,l)else none)=_
 rw[c7 rfl]
theorem zw{v:V}{d:c5}{ns l:List c5}(h:Dt K H v d)(e:tq nm d=some (ns,l)):
  ∃a C dx fv ms vs,v=.ref a/\dF K T8 nm=some (some (.ref C))/\H a=some (.ins C dx fv)/\fv=List.zip ms vs/\ns=ms.map .str/\o8 K H vs l:=by
 cases h with
 |ins h1 h2 h3 t =>
  rename_i a C dx fv nm' ms vs l';have e':(if nm'=nm then some (ms.map PyData.str,l')else none)=some (ns,l):=e
  split at e'
  . rename_i hn;cases e';subst hn;exact⟨a,C,dx,fv,ms,vs,rfl,h1,h2,h3,rfl,t⟩
  . cases e'
 |_=>cases e
theorem rm{K:i5}{H:Hp}{f:Str}:∀{ms:List Str} {vs:List V} {l:List c5},o8 K H vs l->(F4 f (ms.map .str) l=none/\(List.zip ms vs).lookup f=none)\/∃d u,F4 f (ms.map .str) l=some d/\(List.zip ms vs).lookup f=some u/\Dt K H u d
 | [],vs,l,h=>.inl ⟨rfl,rfl⟩
 |m::ms,[],[],.nil=>.inl ⟨rfl,rfl⟩
 |m::ms,v::vs,d::l,.cons h t=>by
  rw[o5,F4,kx,ko];by_cases c:m=f
  . subst c;rw[c7 rfl];exact .inr ⟨d,v,rfl,by simp,h⟩
  . have c':(f==m)=false:=by simpa using λz=>c z.symm
    rw[c9 c,c'];exact rm t
structure bS(K:i5)(nm:Str)(C:Addr):Prop where
 ns:dF K T8 nm=some (some (.ref C))
 cl:sI K C
theorem bS.eq{C C':Addr}(T:bS K nm C)(h:dF K T8 nm=some (some (.ref C'))):C'=C:=by rw[T.ns]at h;cases h;rfl
def R9(nm f:Str)(d:c5):Option c5:=(tq nm d).bind λp=>F4 f p.1 p.2
noncomputable def z9(nm f:Str)(F:DV):DV:=λds=>(F ds).bind λpv=>(R9 nm f pv.d).bind λd=>some (.dat d)
section
variable{X:Cx}{fr:Bool}{o e:Expr}{es:List Expr}{to te:TE}{t:TA}{F Fo:DV}{Fl:DL}{nm f:Str}{C:Addr}{pos apos:Pos}
theorem UM(T:bS X.K nm C)(n:W7 X.K C f)(h:PX X fr o to F)(hb:V8 o f X.env (eval o X.env)=eval o X.env:=by rfl):PX X fr (.Attribute o f pos) (pS X.K to f) (z9 nm f F):=⟨qW h.p hb,by
 intro O e8 as σ H ds pv Q S hf q;obtain⟨p,h1,hf⟩:=j6 hf;obtain⟨d,h2,hf⟩:=j6 hf;cases hf;obtain⟨⟨ns,l⟩,h3,h4⟩:=j6 h2;refine h.t O e8 as σ H ds p _ S h1 λv H1 s1 r1=>?_
 obtain⟨a,C',dx,fv,ms,vs,rfl,c1,c2,rfl,rfl,c3⟩:=zw (r1.dt S.dm) h3;have ec:=T.eq c1;subst ec;rcases rm (f:=f) (ms:=ms) c3 with ⟨z1,z2⟩|⟨d',u,z1,z2,z3⟩
 . have h4':F4 f (ms.map .str) l=some d:=h4;rw[z1]at h4';cases h4'
 . have h4':F4 f (ms.map .str) l=some d:=h4;rw[z1]at h4';cases h4';exact⟨a,C',dx,_,u,rfl,o6 _ _ c2,T.cl,n,z2,q u H1 s1 z3⟩⟩
noncomputable def L9(nm m:Str)(f:FV)(Fo:DV)(Fl:DL):DV:=λds=>(Fo ds).bind λpv=>(tq nm pv.d).bind λp=>match F4 m p.1 p.2 with
 |none=>(Fl ds).bind λl=>f (pv.d::l)
 |some _=>none
theorem Fn{E:XK}{f:FV}(T:bS X.K nm C)(ho:PX X fr o to Fo)(h:eU X fr es t Fl):TX X.K fr (la C m (B3 X.K f) [] E to t) (L9 nm m f Fo Fl):=by
 intro O e8 as σ H ds pv Q S hf q;obtain⟨p,h1,hf⟩:=j6 hf;obtain⟨⟨ns,l0⟩,h3,hf⟩:=j6 hf;refine ho.t O e8 as σ H ds p _ S h1 λv H1 s1 r1=>?_
 have dv:=r1.dt S.dm;obtain⟨a,C',dx,fv,ms,vs0,rfl,c1,c2,rfl,rfl,c3⟩:=zw dv h3;have ec:=T.eq c1;subst ec;rcases rm (f:=m) (ms:=ms) c3 with ⟨z1,z2⟩|⟨d',u,z1,z2,z3⟩
 . have hf':(match F4 m (ms.map .str) l0 with
     |none=>(Fl ds).bind λl=>f (p.d::l)
     |some _=>none)=some pv:=hf
   rw[z1]at hf';obtain⟨l,h4,hf⟩:=j6 hf';refine⟨a,dx,_,rfl,o6 _ _ c2,z2,?_⟩;refine h.t O e8 as σ H1 ds l _ (S.grow s1) h4 λvs H2 s2 r2=>?_
   have D:=((S.grow s1).grow s2).dm (fr:=fr);rw[cX];have hh:∀H,m7 H (U9 fr as) O=m7 H [] (O++(U9 fr as).filterMap id):=λH=>oJ (bs:=[])
   refine⟨O++(U9 fr as).filterMap id,p.d::l,pv,λb hb=>?_,by rw[<-hh];exact .cons (dv.same (L6 s2)) r2,hf,λv H3 e3 r3=>q v H3 ((s1.trans s2).trans e3) ?_⟩
   . rcases List.mem_append.mp hb with hb|hb
     . exact D.o b hb
     . obtain⟨x,hx,e⟩:=List.mem_filterMap.mp hb;have e':x=some b:=e;subst e';exact D.a b hx
   . have s12:=s1.trans s2;cases pv with
     |dat d =>
      have r2':Dt X.K (m7 H3 [] (O++(U9 fr as).filterMap id)) v d:=r3;rw[<-hh]at r2';exact r2'
     |own l =>
      obtain⟨b,xs,e3,e4,e5,r3⟩:=r3;refine⟨b,xs,e3,s12.free e4,e5,?_⟩;rw[show(some b::U9 fr as:As)=[some b]++U9 fr as from rfl,oJ]
      exact r3
     |ob w c =>
      obtain⟨o,R,e3,e4,e5,r3⟩:=r3;refine⟨o,R,e3,e4,λb hb=>s12.free (e5 b hb),?_⟩
      rw[oJ];rw[cX]at r3;exact r3
 . have hf':(match F4 m (ms.map .str) l0 with
     |none=>(Fl ds).bind λl=>f (p.d::l)
     |some _=>none)=some pv:=hf
   rw[z1]at hf';cases hf'
noncomputable def G8(F:DV):DV:=λds=>(F ds).bind λpv=>match pv with
 | .dat d=>if LF d=true then some (.dat d)else none
 | .own l=>if fE l=true then some (.own l)else none
 | .ob _ _=>none
theorem DS.OK{O:List Addr}{as bs cs:As}{σ:St}{ds:Ds}(S:DS K O e8 as σ H ds)(e:i0 H H')(hb:∀b,some b∈cs->some b∈bs\/some b∈as)(a:Addr)(u:HO)(h:m7 H' bs O a=some u)(hu:¬Cell u):m7 H' cs O a=some u:=by
 obtain⟨z1,z2,z3⟩:=F0.mp h;refine F0.mpr ⟨z1,λz=>?_,z3⟩
 rcases hb a z with z|z
 . exact z2 z
 . obtain⟨_,c,zc⟩:=S.new a z;have:=e _ _ zc;rw[z3]at this;cases this;exact hu c.2
theorem Xj(h:PX X false e te F):PX X fr e te (G8 F):=⟨h.p,by
 intro O e8 as σ H ds pv Q S hf q;obtain⟨p,h1,hf⟩:=j6 hf;cases p with
 |dat d =>
  simp only at hf;split at hf
  . rename_i hi;cases hf;refine h.t O e8 as σ H ds _ _ S h1 λv H1 s1 r1=>q v H1 s1 ?_
    exact Dt.lf (H:=m7 H1 [] O) (S.OK s1 λb z=>.inr (om z)) r1 hi
  . cases hf
 |own l =>
  simp only at hf;split at hf
  . rename_i hi;cases hf;refine h.t O e8 as σ H ds _ _ S h1 λv H1 s1 r1=>q v H1 s1 ?_
    obtain⟨a,xs,e1,e2,e3,r⟩:=r1;refine⟨a,xs,e1,e2,e3,o8.lf (H:=m7 H1 (some a::[]) O) (S.OK s1 λb z=>?_) r hi⟩
    rcases List.mem_cons.mp z with z|z
    . exact .inl (by rw[z];exact B7)
    . exact .inr (om z)
  . cases hf
 |ob w c=>cases hf⟩
end
end
section
variable{ds:Ds}{w:Option Addr}{p p':PF}{R O:List Addr}{K:i5}{Hv H H1 e8:Hp}{fv:List (Str×V)}{as:As}{a C' dx:Addr}
def G7(f:Str)(p:PF):List (Str×PF)->List (Str×PF)
 | []=>[(f,p)]
 |(g,x)::r=>if g=f then(g,p)::r else(g,x)::G7 f p r
def p5(f:Str):List (Str×PF)->Option PF
 | []=>none
 |(g,x)::r=>if g=f then some x else p5 f r
inductive qJ(K:i5)(Hv H:Hp):V->PF->List Addr->Prop
 |dat {x d}:Dt K Hv x d->qJ K Hv H x (.dat d) []
 |own {a xs l}:H a=some (.lst xs)->o8 K Hv xs l->qJ K Hv H (.ref a) (.own l) [a]
 |dct {a kvs es}:H a=some (.dK kvs)->xP K Hv kvs es->qJ K Hv H (.ref a) (.dct es) [a]
section
variable{K:i5}{Hv Hv' H H':Hp}{v:Addr}{R Rf:List Addr}{c:OD}{fv:List (Str×V)}{fs:List (Str×PF)}{f:Str}{y:V}{p:PF}
theorem M3.cons{n:Str}(h:qJ K Hv H y p Rf)(d:∀b∈Rf,b∉R)(t:M3 K Hv H fv fs R):M3 K Hv H ((n,y)::fv) ((n,p)::fs) (Rf++R):=by
 cases h with
 |dat h=>exact .dat h t
 |own h1 h2=>exact .own h1 h2 (d _ B7) t
 |dct h1 h2=>exact .dct h1 h2 (d _ B7) t
theorem M3.put(t:M3 K Hv H fv fs R)(h:qJ K Hv H y p Rf)(d:∀b∈Rf,b∉R):∃R',M3 K Hv H (aW f y fv) (G7 f p fs) R'/\∀b∈R',b∈Rf\/b∈R:=by
 induction t with
 |nil =>
  refine⟨Rf++[],M3.cons h (λb _=>by simp) .nil,λb hb=>.inl (by simpa using hb)⟩
 | @dat n x dd fv fs R hd t ih =>
  obtain⟨R',i1,i2⟩:=ih d;rw[aW,G7];by_cases c:n=f
  . rw[c7 c,c7 c];exact⟨Rf++R,M3.cons h d t,λb hb=>List.mem_append.mp hb⟩
  . rw[c9 c,c9 c];exact⟨R',.dat hd i1,i2⟩
 | @own n a xs l fv fs R h1 h2 h3 t ih =>
  obtain⟨R',i1,i2⟩:=ih λb hb z=>d b hb (A0 _ z)
  rw[aW,G7];by_cases c:n=f
  . rw[c7 c,c7 c];exact⟨Rf++R,M3.cons h (λb hb z=>d b hb (A0 _ z)) t,λb hb=>(List.mem_append.mp hb).imp id (A0 _)⟩
  . rw[c9 c,c9 c];refine⟨a::R',.own h1 h2 (λz=>?_) i1,λb hb=>?_⟩
    . rcases i2 a z with z|z
      . exact d a z B7
      . exact h3 z
    . rcases List.mem_cons.mp hb with rfl|hb
      . exact .inr B7
      . exact(i2 b hb).imp id (A0 _)
 | @dct n a kvs es fv fs R h1 h2 h3 t ih =>
  obtain⟨R',i1,i2⟩:=ih λb hb z=>d b hb (A0 _ z)
  rw[aW,G7];by_cases c:n=f
  . rw[c7 c,c7 c];exact⟨Rf++R,M3.cons h (λb hb z=>d b hb (A0 _ z)) t,λb hb=>(List.mem_append.mp hb).imp id (A0 _)⟩
  . rw[c9 c,c9 c];refine⟨a::R',.dct h1 h2 (λz=>?_) i1,λb hb=>?_⟩
    . rcases i2 a z with z|z
      . exact d a z B7
      . exact h3 z
    . rcases List.mem_cons.mp hb with rfl|hb
      . exact .inr B7
      . exact(i2 b hb).imp id (A0 _)
theorem gu{n:Str}{x:V}:dC f ((n,x)::fv)=if n=f then some x else dC f fv:=by
 rw[ko];by_cases c:n=f
 . subst c;simp
 . have c':(f==n)=false:=by simpa using λz=>c z.symm
   rw[c',c9 c]
theorem M3.XO(t:M3 K Hv H fv fs R)(h:p5 f fs=none):fv.lookup f=none:=by
 induction t with
 |nil=>rfl
 | dat hd t ih => rw [p5] at h; rw [gu]; split at h; · cases h
                  . rename_i c;rw[c9 c];exact ih h
 | own h1 h2 h3 t ih => rw [p5] at h; rw [gu]; split at h; · cases h
                        . rename_i c;rw[c9 c];exact ih h
 | dct h1 h2 h3 t ih => rw [p5] at h; rw [gu]; split at h; · cases h
                        . rename_i c;rw[c9 c];exact ih h
theorem M3.look(t:M3 K Hv H fv fs R)(h:p5 f fs=some p):∃x Rf,fv.lookup f=some x/\qJ K Hv H x p Rf/\(∀b∈Rf,b∈R) /\
  ∀{Hv' H':Hp} {p':PF},i0 Hv Hv'->(∀b∈R,b∉Rf->∀o,H b=some o->H' b=some o)->qJ K Hv' H' x p' Rf->M3 K Hv' H' fv (G7 f p' fs) R:=by
 induction t with
 |nil=>cases h
 | @dat n x d fv fs R hd t ih =>
  rw[p5]at h;rw[gu];by_cases c:n=f
  . rw[c7 c]at h ⊢;cases h;refine⟨x,[],rfl,.dat hd,λb hb=>absurd hb (by simp),λ{Hv' H' p'} e e2 k=>?_⟩
    rw[G7,c7 c];exact M3.cons (Rf:=[]) k (λb hb=>absurd hb (by simp)) (t.same e λb hb=>e2 b hb (by simp))
  . rw[c9 c]at h ⊢;obtain⟨y,Rf,i1,i2,i3,i4⟩:=ih h;refine⟨y,Rf,i1,i2,i3,λ{Hv' H' p'} e e2 k=>?_⟩
    rw[G7,c9 c];exact .dat (hd.same e) (i4 e e2 k)
 | @own n a xs l fv fs R h1 h2 h3 t ih =>
  rw[p5]at h;rw[gu];by_cases c:n=f
  . rw[c7 c]at h ⊢;cases h;refine⟨_,[a],rfl,.own h1 h2,λb hb=>by rw[mem_singleton.mp hb];exact B7,λ{Hv' H' p'} e e2 k=>?_⟩
    rw[G7,c7 c];refine M3.cons (Rf:=[a]) k (λb hb=>by rw[mem_singleton.mp hb];exact h3) (t.same e λb hb=>e2 b (A0 _ hb) λz=>?_)
    rw[mem_singleton.mp z]at hb;exact h3 hb
  . rw[c9 c]at h ⊢;obtain⟨y,Rf,i1,i2,i3,i4⟩:=ih h;refine⟨y,Rf,i1,i2,λb hb=>A0 _ (i3 b hb),λ{Hv' H' p'} e e2 k=>?_⟩
    rw[G7,c9 c];exact .own (e2 a B7 (λz=>h3 (i3 a z)) _ h1) (h2.same e) h3 (i4 e (λb hb=>e2 b (A0 _ hb)) k)
 | @dct n a kvs es fv fs R h1 h2 h3 t ih =>
  rw[p5]at h;rw[gu];by_cases c:n=f
  . rw[c7 c]at h ⊢;cases h;refine⟨_,[a],rfl,.dct h1 h2,λb hb=>by rw[mem_singleton.mp hb];exact B7,λ{Hv' H' p'} e e2 k=>?_⟩
    rw[G7,c7 c];refine M3.cons (Rf:=[a]) k (λb hb=>by rw[mem_singleton.mp hb];exact h3) (t.same e λb hb=>e2 b (A0 _ hb) λz=>?_)
    rw[mem_singleton.mp z]at hb;exact h3 hb
  . rw[c9 c]at h ⊢;obtain⟨y,Rf,i1,i2,i3,i4⟩:=ih h;refine⟨y,Rf,i1,i2,λb hb=>A0 _ (i3 b hb),λ{Hv' H' p'} e e2 k=>?_⟩
    rw[G7,c9 c];exact .dct (e2 a B7 (λz=>h3 (i3 a z)) _ h1) (h2.same e) h3 (i4 e (λb hb=>e2 b (A0 _ hb)) k)
end
def eV(nm:Str)(i:Nat)(ds:Ds):Option (Option Addr×List (Str×PF)):=match ds[i]? with
 |some (some (.ob w (.ins n fs)))=>if n=nm then some (w,fs)else none
 |_=>none
theorem aX{nm:Str}{i:Nat}{fs:List (Str×PF)}(h:eV nm i ds=some (w,fs)):ds[i]? = some (some (.ob w (.ins nm fs))):=by
 unfold eV at h;split at h
 . rename_i w' n fs' hd;split at h
   . rename_i hn;cases h;rw[hd,hn]
   . cases h
 . cases h
def Ce:PF->Option c5
 | .dat d=>some d
 |_=>none
def qZ:PF->Option (List c5)
 | .own l=>some l
 |_=>none
theorem Rt{d:c5}(h:Ce p=some d):p=.dat d:=by cases p<;>cases h;rfl
theorem uA{d:List c5}(h:qZ p=some d):p=.own d:=by cases p<;>cases h;rfl
noncomputable def F8(nm:Str)(i:Nat)(f:Str):DV:=λds=>(eV nm i ds).bind λx=>(p5 f x.2).bind λp=>(Ce p).bind λd=>some (.dat d)
noncomputable def gT(nm:Str)(i:Nat)(f:Str)(Fb:DV):DV:=λds=>(eV nm i ds).bind λx=>(p5 f x.2).bind λp=>(qZ p).bind λl=>(Fb ds).bind λk=>i6 (.list l) k.d
section
variable{X:Cx}{fr:Bool}{i:Nat}{o e b:Expr}{te tb:TE}{F Fb:DV}{nm f:Str}{C:Addr}{pos pos' apos cpos:Pos}
theorem UG(T:bS X.K nm C)(n:W7 X.K C f)(h:PE X o (E9 i))(hb:V8 o f X.env (eval o X.env)=eval o X.env:=by rfl):PX X fr (.Attribute o f pos) (pS X.K (E9 i) f) (F8 nm i f):=⟨qW h hb,by
 intro O e8 as σ H ds pv Q S hf q;obtain⟨⟨w,fs⟩,h1,hf⟩:=j6 hf;obtain⟨p,h2,hf⟩:=j6 hf;obtain⟨d,h3,hf⟩:=j6 hf;cases hf;have e3:=Rt h3;subst e3;obtain⟨v,R,e1,_,_,C',dx,fv,R',rfl,c1,c2,c3⟩:=S.slot i _ (aX h1);have ec:=T.eq c1;subst ec;obtain⟨x,Rf,l1,l2,_⟩:=c3.look h2;cases l2 with
 |dat l2=>exact⟨_,e1,v,C',dx,fv,x,rfl,c2,T.cl,n,l1,q x H (i0.refl H) (l2.same gv)⟩⟩
theorem Xd(T:bS X.K nm C)(n:W7 X.K C f)(h:PE X o (E9 i))(hb:PX X fr b tb Fb)(hbs:V8 o f X.env (eval o X.env)=eval o X.env:=by rfl)(hs:jk b:=by intro _ _;rfl):PX X fr (.Subscript (.Attribute o f apos) b pos) (nA (yZ X.K) (pS X.K (E9 i) f) tb) (gT nm i f Fb):=⟨Ad vS (qW h hbs) hb.p hs,by
 intro O e8 as σ H ds pv Q S hf q;obtain⟨⟨w,fs⟩,h1,hf⟩:=j6 hf;obtain⟨p,h2,hf⟩:=j6 hf;obtain⟨l,h3,hf⟩:=j6 hf;obtain⟨k,h4,hg⟩:=j6 hf;have e3:=uA h3;subst e3;obtain⟨v,R,e1,_,hR,C',dx,fv,R',rfl,c1,c2,c3⟩:=S.slot i _ (aX h1);have ec:=T.eq c1;subst ec;obtain⟨x,Rf,l1,l2,l3,l4⟩:=c3.look h2;cases l2 with
 |own y1 y2 =>
  rename_i a xs;refine⟨_,e1,v,C',dx,fv,_,rfl,c2,T.cl,n,l1,hb.t O e8 as σ H ds k _ S h4 λy H1 s1 r1=>?_⟩
  have dy:=r1.dt S.dm;generalize k.d=kk at hg dy;cases dy with
  |int j =>
   have hf':((L2.K7 l j).bind λd=>some (PV.dat d))=some pv:=hg
   cases h5:L2.K7 l j with
   |none=>rw[h5]at hf';cases hf'
   |some d =>
    rw[h5]at hf';cases hf';obtain⟨v,h3,h4⟩:=y2.K7 h5;exact .inl ⟨a,xs,j,v,rfl,rfl,D9.of (s1 _ _ y1),h3,q v H1 s1 (Dt.same (gv.trans (L6 s1)) h4)⟩
  |_=>cases hg⟩
end
section
variable{K:i5}{O:List Addr}{e8 H H1:Hp}{as:As}{σ:St}{ds:Ds}
theorem DS.adopt(S:DS K O e8 as σ H ds)(e1:i0 H H1)(i:Nat)(hR:∀b∈R,H b=none)(hC:∀b∈R,∃u:Cl,H1 b=some u.1):
  DS K O e8 (R.map some++as) σ H1 ds/\∀rg:Nat->List Addr,(∀i b,b∈rg i->some b∈as)->(∀i j b,b∈rg i->b∈rg j->i=j)->(∀(i:Nat) (pv:PV),ds[i]? = some (some pv)->aI K O as H σ[i]? (rg i) pv) ->
   ∃rg':Nat->List Addr,(∀i b,b∈rg' i->some b∈R.map some++as)/\(∀i j b,b∈rg' i->b∈rg' j->i=j)/\(∀(i:Nat) (pv:PV),ds[i]? = some (some pv)->aI K O (R.map some++as) H1 σ[i]? (rg' i) pv)/\(∀b∈R,b∈rg' i)/\∀b∈rg i,b∈rg' i:=by
 have hn:∀b∈R,some b∉as:=λb hb z=>by obtain⟨_,o,z⟩:=S.new b z;rw[hR b hb]at z;cases z
 have key:∀rg:Nat->List Addr,(∀i b,b∈rg i->some b∈as)->(∀i j b,b∈rg i->b∈rg j->i=j)->(∀(i:Nat) (pv:PV),ds[i]? = some (some pv)->aI K O as H σ[i]? (rg i) pv) ->
   ∃rg':Nat->List Addr,(∀i b,b∈rg' i->some b∈R.map some++as)/\(∀i j b,b∈rg' i->b∈rg' j->i=j)/\(∀(i:Nat) (pv:PV),ds[i]? = some (some pv)->aI K O (R.map some++as) H1 σ[i]? (rg' i) pv)/\(∀b∈R,b∈rg' i)/\∀b∈rg i,b∈rg' i:=λrg r1 r2 r3=>by
  refine⟨λj=>if j=i then R++rg j else rg j,λj b hb=>?_,λj k b h1 h2=>?_,λj pv hj=>(r3 j pv hj).yY (nL e1 hR) (λb _ o z=>e1 _ _ z) λb z=>?_,λb hb=>by dsimp only;rw[c7 rfl];exact ia _ hb,λb hb=>by dsimp only;rw[c7 rfl];exact M9 _ hb⟩
  . dsimp only at hb;split at hb
    . rcases List.mem_append.mp hb with z|z
      . exact ia _ (mem_map.mpr ⟨b,z,rfl⟩)
      . exact M9 _ (r1 j b z)
    . exact M9 _ (r1 j b hb)
  . dsimp only at h1 h2;split at h1
    . rename_i z1;split at h2
      . rename_i z2;rw[z1,z2]
      . rcases List.mem_append.mp h1 with z|z
        . exact absurd (r1 k b h2) (hn b z)
        . exact r2 j k b z h2
    . split at h2
      . rcases List.mem_append.mp h2 with z|z
        . exact absurd (r1 j b h1) (hn b z)
        . exact r2 j k b h1 z
      . exact r2 j k b h1 h2
  . dsimp only;split
    . exact M9 _ z
    . exact z
 obtain⟨rg,r1,r2,r3⟩:=S.gp;obtain⟨rg',k1,k2,k3,_⟩:=key rg r1 r2 r3;refine⟨⟨S.ls,S.same.trans e1,λb hb=>?_,S.dg,rg',k1,k2,k3⟩,key⟩
 rcases List.mem_append.mp hb with z|z
 . obtain⟨b',z1,z2⟩:=mem_map.mp z;cases z2;exact⟨S.same.free (hR b z1),hC b z1⟩
 . exact⟨(S.new b z).1,let ⟨o,z⟩:=(S.new b z).2;⟨o,e1 _ _ z⟩⟩
end
def dP:PV->Option PF
 | .dat d=>some (.dat d)
 | .own l=>some (.own l)
 | .ob _ (.dct es)=>some (.dct es)
 |_=>none
def gW(pv:PV):Option PF:=some (.dat pv.d)
noncomputable def T7(nm:Str)(i:Nat)(f:Str)(kp:PV->Option PF)(F:DV):DO:=λds=>(F ds).bind λpv=>(kp pv).bind λp=>(eV nm i ds).bind λx=>if x.2.length<900 then some (.next (ds.set i (some (.ob x.1 (.ins nm (G7 f p x.2))))))else none
theorem M3.len{fs:List (Str×PF)}(h:M3 K Hv H fv fs R):fv.length=fs.length:=by
 induction h with
 |nil=>rfl
 |dat _ _ ih=>rw[O1,O1,ih]
 |own _ _ _ _ ih=>rw[O1,O1,ih]
 |dct _ _ _ _ ih=>rw[O1,O1,ih]
section
variable{X:Cx}{fr:Bool}{i:Nat}{o e b:Expr}{te tb:TE}{F Fb Fk:DV}{nm f:Str}{C:Addr}{pos pos' apos cpos:Pos}
theorem GB{v:V}{pv:PV}(D:pK H as O)(r:RX K O as H H1 v pv)(h:dP pv=some p\/gW pv=some p):∃Rf,(∀b∈Rf,H b=none)/\(∀b∈Rf,∃u:Cl,H1 b=some u.1)/\qJ K (m7 H1 (Rf.map some++as) O) H1 v p Rf:=by
 rcases h with h|h
 . cases pv with
   |dat d=>cases h;exact⟨[],λb hb=>absurd hb (by simp),λb hb=>absurd hb (by simp),.dat r⟩
   |own l =>
    cases h;obtain⟨a,xs,rfl,e2,e3,r⟩:=r;refine⟨[a],λb hb=>?_,λb hb=>?_,.own e3 r⟩
    . rw[mem_singleton.mp hb];exact e2
    . rw[mem_singleton.mp hb];exact⟨Cl.l xs,e3⟩
   |ob w c =>
    cases c with
    |dct es =>
     cases h;obtain⟨a,R,rfl,_,e3,kvs,rfl,e4,e5⟩:=r;refine⟨[a],e3,λb hb=>?_,.dct e4 e5⟩
     rw[mem_singleton.mp hb];exact⟨Cl.d kvs,e4⟩
    |ins _ _=>cases h
    |seq _ _=>cases h
 . cases h;exact⟨[],λb hb=>absurd hb (by simp),λb hb=>absurd hb (by simp),.dat (r.dt D)⟩
theorem PN{kp:PV->Option PF}(T:bS X.K nm C)(n:W7 X.K C f)(h:PE X o (E9 i))(hk:∀pv p,kp pv=some p->dP pv=some p\/gW pv=some p)(he:PX X true e te F)(hs:aK e (some (.Attribute o f pos')) pos.line X.env=pure false:=by rfl):J3 X (.Assign [.Attribute o f pos'] e pos) (WL X.K (E9 i) te f) (T7 nm i f kp F):=⟨Xr h he.p hs,by
 intro O e8 as σ H ds D r S hf q;obtain⟨pv,h1,hf⟩:=j6 hf;obtain⟨p,h2,hf⟩:=j6 hf;obtain⟨⟨w,fs⟩,h3,hf⟩:=j6 hf;simp only at hf;split at hf
 . rename_i hl;cases hf;refine he.t O e8 as σ H ds pv _ S h1 λy H1 s1 r1=>?_
   obtain⟨Rf,k1,k2,k3⟩:=GB (S.dm (fr:=true)) r1 (hk pv p h2);obtain⟨S1,ad⟩:=S.adopt s1 i k1 k2;obtain⟨rg,r1',r2',r3'⟩:=S.gp;obtain⟨rg',g1,g2,g3,g4,g5⟩:=ad rg r1' r2' r3';obtain⟨v,R,e1,ew,hR,C',dx,fv,R',rfl,c1,c2,c3⟩:=g3 i _ (aX h3);have ec:=T.eq c1;subst ec;obtain⟨v0,R0,e10,ew0,hR0,C0,dx0,fv0,R0',rfl,c10,c20,c30⟩:=r3' i _ (aX h3);rw[e1]at e10;cases e10;have c2':=s1 _ _ c20;rw[c2]at c2';cases c2';have c30':=c30.same (H':=H1) (nL (as:=as) (O:=O) s1 k1) λb _ o z=>s1 _ _ z
   have dj:∀b∈Rf,b∉R0':=λb hb z=>by obtain⟨u,_,z⟩:=c30.at b z;rw[k1 b hb]at z;cases z
   obtain⟨R2,p1,p2⟩:=c30'.put (f:=f) k3 dj;refine⟨_,e1,v,C',dx,fv,rfl,c2,T.cl,n,by rw[c30.len];lia,q (Rf.map some++as) σ _ ?_⟩
   have nv:∀b∈R2,b≠v:=λb hb z=>by subst z;obtain⟨u,hu,z⟩:=p1.at b hb;rw[c2]at z;cases z;rcases hu with ⟨_,hu⟩|⟨_,hu⟩<;>cases hu
   have hv:v∈rg' i:=hR v B7;refine S1.vj (u:=Cl.i C' dx (aW f y fv)) (aX h3) g1 g2 g3 hv λsm=>⟨v,v::R2,e1,ew,λb hb=>?_,C',dx,_,R2,rfl,c1,E8,p1.same sm λb hb o z=>by rw[A3 (nv b hb)];exact z⟩
   rcases List.mem_cons.mp hb with rfl|hb
   . exact hv
   . rcases p2 b hb with z|z
     . exact g4 b z
     . exact g5 b (hR0 b (A0 _ z))
 . cases hf⟩
noncomputable def bu(nm:Str)(i:Nat)(f:Str)(Fk Fv:DV):DO:=λds=>(Fv ds).bind λpv=>(Fk ds).bind λk=>(eV nm i ds).bind λx=>(p5 f x.2).bind λp=>(qZ p).bind λl=>match k.d with
 | .int k=>(eO l.length k).bind λj=>some (.next (ds.set i (some (.ob x.1 (.ins nm (G7 f (.own (l.set j pv.d)) x.2))))))
 |_=>none
noncomputable def nM(nm:Str)(i:Nat)(f:Str)(F:DV):DO:=λds=>(F ds).bind λpv=>(eV nm i ds).bind λx=>(p5 f x.2).bind λp=>(qZ p).bind λl=>if l.length<1000000 then some (.next (ds.set i (some (.ob x.1 (.ins nm (G7 f (.own (l++[pv.d])) x.2))))))else none
theorem DS.Sk{σ:St}{fs:List (Str×PF)}{u:Cl}{v:Addr}(S:DS K O e8 as σ H ds)(hd:ds[i]? = some (some (.ob w (.ins nm fs))))(hl:p5 f fs=some p)(e1:σ[i]? = some (some (.ref v)))(hH:H v=some (.ins C' dx fv))(hx:fv.lookup f=some (.ref a))(hp:∀d,p≠.dat d)(hv:∀{Hv':Hp},i0 (m7 H as O) Hv'->qJ K Hv' (upd H a u.1) (.ref a) p' [a]):DS K O e8 as σ (upd H a u.1) (ds.set i (some (.ob w (.ins nm (G7 f p' fs))))):=by
 obtain⟨rg,r1,r2,r3⟩:=S.gp;obtain⟨v0,R0,e10,ew0,hR0,C0,dx0,fv0,R0',rfl,c10,c20,c30⟩:=r3 i _ hd;rw[e1]at e10;cases e10;rw[hH]at c20;cases c20;obtain⟨x0,Rf,l1,l2,l3,l4⟩:=c30.look hl;rw[hx]at l1;cases l1;have eR:Rf=[a]:=by
  cases l2 with
  |dat _=>exact absurd rfl (hp _)
  |own _ _=>rfl
  |dct _ _=>rfl
 subst eR;have ha:a∈R0':=l3 a B7;have nv:v≠a:=λz=>by subst z;obtain⟨u',hu,z⟩:=c30.at v ha;rw[hH]at z;cases z;rcases hu with ⟨_,hu⟩|⟨_,hu⟩<;>cases hu
 refine S.vj (u:=u) hd r1 r2 r3 (hR0 a (A0 _ ha)) λsm=>⟨v,v::R0',e1,ew0,hR0,C',dx,fv,R0',rfl,c10,by rw[A3 nv];exact hH,l4 sm (λb hb hn o z=>?_) (hv sm)⟩
 rw[A3 (λz=>hn (by rw[z];exact B7))]
 exact z
theorem PM {k:Expr} {tk:TE} {ipos:Pos} (T:bS X.K nm C) (n:W7 X.K C f) (ho:PE X o (E9 i)) (hk:PX X true k tk Fk) (he:PX X true e te F) (hbs:V8 o f X.env (eval o X.env)=eval o X.env:=by rfl) (ha:∀v,assign (.Subscript (.Attribute o f apos) k ipos) X.env v=(do
   let ov <- holding [v] (eval (.Attribute o f apos) X.env)
   let iv <- holding [v,ov] (eval k X.env)
   cD ipos
   holding [v,ov,iv] (setItem ov iv v)
   release [v,ov,iv] []):=by intro _;rfl)
  (hs:Dk [.Subscript (.Attribute o f apos) k ipos] e pos.line X.env=pure false:=by rfl) (hw:Dj [.Subscript (.Attribute o f apos) k ipos] e X.env=pure none:=by rfl)
  (h1:(jY [.Subscript (.Attribute o f apos) k ipos] X.env).map (·.2)=[assign (.Subscript (.Attribute o f apos) k ipos) X.env]:=by rfl) :
  J3 X (.Assign [.Subscript (.Attribute o f apos) k ipos] e pos) (lO te (Rg (pS X.K (E9 i) f) tk HH)) (bu nm i f Fk F):=⟨Kq he.p (Kx (qW ho hbs) hk.p set_list ha) hs hw h1,by
 intro O e8 as σ H ds D r S hf q;obtain⟨pv,e1,hf⟩:=j6 hf;obtain⟨kv,e2,hf⟩:=j6 hf;obtain⟨⟨w,fs⟩,e3,hf⟩:=j6 hf;obtain⟨p,e4,hf⟩:=j6 hf;obtain⟨l,e5,hg⟩:=j6 hf;have e6:=uA e5;subst e6;split at hg
 . rename_i kk hkk;obtain⟨j,e7,hg⟩:=j6 hg;cases hg;refine he.t O e8 as σ H ds pv _ S e1 λv H1 s1 r1=>?_
   have S1:=S.grow s1;obtain⟨v0,R,z1,_,hR,C',dx,fv,R',rfl,c1,c2,c3⟩:=S1.slot i _ (aX e3);have ec:=T.eq c1;subst ec;obtain⟨x,Rf,l1,l2,l3,l4⟩:=c3.look e4;cases l2 with
   |own y1 y2 =>
    rename_i a xs;refine⟨_,z1,v0,C',dx,fv,_,rfl,c2,T.cl,n,l1,?_⟩;refine hk.t O e8 as σ H1 ds kv _ S1 e2 λw' H2 s2 r2=>?_
    have dk:=r2.dt S1.dm;rw[hkk]at dk;cases dk;have dv:=(r1.grow s2).dt S.dm;refine⟨a,xs,kk,j,rfl,rfl,s2 _ _ y1,by rw[y2.length];exact e7,q as σ _ ?_⟩
    exact(S1.grow s2).Sk (u:=Cl.l _) (aX e3) e4 z1 (s2 _ _ c2) l1 (λd z=>by cases z) λsm=>.own E8 (((y2.same (L6 s2)).set j dv).same sm)
 . cases hg⟩
theorem PQ (T:bS X.K nm C) (n:W7 X.K C f) (ho:PE X o (E9 i)) (he:PX X true e te F) (hbs:V8 o f X.env (eval o X.env)=eval o X.env:=by rfl) (hst:j4 [e] X.env=(false,eval e X.env)::j4 [] X.env:=by rfl) (hbase:V8 (.Attribute o f pos') "append" X.env (eval (.Attribute o f pos') X.env)=eval (.Attribute o f pos') X.env:=by rfl) (hfew:((A9 cpos (j4 [e] X.env)).all (λx=>!x.1)&&(aw cpos (cq [] X.env)).all (λx=>x.1.isSome)
   && decide ([e].length+([]:List W8).length+(if ([]:List W8).isEmpty then 0 else 1)<30))=true:=by rfl)
  (hline:(apos.endLine==cpos.line)=true:=by rfl) (hplain:(A9 cpos (j4 [] X.env)).any (·.1)=false:=by rfl)
  (hs:aK (.Call (.Attribute (.Attribute o f pos') "append" apos) [e] [] cpos) none pos.line X.env=pure false:=by rfl) :
  J3 X (.Expr (.Call (.Attribute (.Attribute o f pos') "append" apos) [e] [] cpos) pos) (pT (Fq X.K "list" xY (pS X.K (E9 i) f) (cP te gI))) (nM nm i f F) :=
 ⟨lK (Ae pH Oh Og ze (qW ho hbs) (bD he.p gR hst) hbase hfew hline hst hplain) hs,by
 intro O e8 as σ H ds D r S hf q;obtain⟨pv,e1,hf⟩:=j6 hf;obtain⟨⟨w,fs⟩,e3,hf⟩:=j6 hf;obtain⟨p,e4,hf⟩:=j6 hf;obtain⟨l,e5,hg⟩:=j6 hf;have e6:=uA e5;subst e6;split at hg
 . rename_i hl;cases hg;obtain⟨v0,R,z1,_,hR,C',dx,fv,R',rfl,c1,c2,c3⟩:=S.slot i _ (aX e3);have ec:=T.eq c1;subst ec;obtain⟨x,Rf,l1,l2,l3,l4⟩:=c3.look e4;cases l2 with
   |own y1 y2 =>
    rename_i a xs;refine⟨_,z1,v0,C',dx,fv,_,rfl,c2,T.cl,n,l1,.inl ⟨rfl,xs,D9.of y1⟩,?_⟩;refine he.t O e8 as σ H ds pv _ S e1 λv H1 s1 r1=>?_
    have hx:=y2.length;refine⟨a,xs,v,rfl,rfl,s1 _ _ y1,M8 (by lia) (lQ (l5 _)),q as σ _ ?_⟩
    exact(S.grow s1).Sk (u:=Cl.l _) (aX e3) e4 z1 (s1 _ _ c2) l1 (λd z=>by cases z) λsm=>.own E8 (((y2.same (L6 s1)).append (.cons (r1.dt S.dm) .nil)).same sm)
 . cases hg⟩
end
end
section
variable{N ps:List Str}{G:DO}
def jM(K:i5)(f:List PV->Option (PV×Ds)):Sp:=λvs H Q _=>∃(O:List Addr) (e8:Hp) (as:As) (args:List PV) (pv:PV) (ds':Ds),
 DS K O e8 as (vs.map some) H (args.map some)/\f args=some (pv,ds')/\∀as' Hm H' v,DS K O e8 as' (vs.map some) Hm ds'->i0 Hm H'->RX K O as' Hm H' v pv->Q v H'
def aV(t:Nat->Addr):Nat->List PV->List PV
 |_,[]=>[]
 |i,.ob _ c::r=>.ob (some (t i)) c::aV t (i+1) r
 |i,x::r=>x::aV t (i+1) r
def K5(t:Nat->Addr):Nat->List PV->Ds->Ds
 |_,[],_=>[]
 |i,.ob _ _::a,some (.ob w c)::r=>(if w=some (t i)then some (.ob none c)else none)::K5 t (i+1) a r
 |i,_::a,_::r=>none::K5 t (i+1) a r
 |i,_::a,[]=>none::K5 t (i+1) a []
def kI(args:List PV)(t:Nat->Addr):Out->Option (PV×Ds)
 | .retO pv ds=>some (pv,K5 t 0 args ds)
 | .next ds=>some (.dat .none,K5 t 0 args ds)
 |_=>none
noncomputable def oM(n N:Nat)(G:DO):List PV->Option (PV×Ds):=λargs=>if args.length=n then
 (open Classical in if h:∃r,∀t,(G ((aV t 0 args).map some++v5 (N-n) none)).bind (kI args t)=some r then some h.choose else none)else none
theorem md{n N:Nat}{args:List PV}{r:PV×Ds}(hl:args.length=n)(h:∀t,(G ((aV t 0 args).map some++v5 (N-n) none)).bind (kI args t)=some r):oM n N G args=some r:=by
 delta oM;rw[c7 hl];have hx:∃r,∀t,(G ((aV t 0 args).map some++v5 (N-n) none)).bind (kI args t)=some r:=⟨r,h⟩;rw[dif_pos hx];have:=hx.choose_spec λ_=>(0:Nat)
 rw[h λ_=>(0:Nat)]at this
 exact this.symm
theorem GN{n N:Nat}{args:List PV}{r:PV×Ds}(h:oM n N G args=some r):args.length=n/\∀t,(G ((aV t 0 args).map some++v5 (N-n) none)).bind (kI args t)=some r:=by
 unfold oM at h;split at h
 . rename_i hl;split at h
   . rename_i hx;cases h;exact⟨hl,hx.choose_spec⟩
   . cases h
 . cases h
theorem AB(t:Nat->Addr):∀(args:List PV) (i k:Nat),(aV t i args)[k]? = (args[k]?).map λpv=>match pv with
  | .ob _ c=>.ob (some (t (i+k))) c
  |pv=>pv
 | [],i,k=>by simp[aV]
 |x::r,i,0=>by cases x<;>simp[aV]
 |x::r,i,k+1=>by
  have:=AB t r (i+1) k;rw[show i+1+k=i+(k+1)from by lia]at this
  cases x<;>(simp only[aV,R4];exact this)
theorem uM(t:Nat->Addr):∀(args:List PV) (i k:Nat) (ds:Ds) (pv:PV),(K5 t i args ds)[k]? = some (some pv)->∃c w c0,pv=.ob none c/\args[k]? = some (.ob w c0)/\ds[k]? = some (some (.ob (some (t (i+k))) c))
 | [],i,k,ds,pv,h=>by simp[K5]at h
 |x::a,i,0,[],pv,h=>by cases x<;>simp[K5]at h
 |x::a,i,k+1,[],pv,h=>by
  have h':(K5 t (i+1) a [])[k]? = some (some pv):=by cases x<;>simpa [K5]using h
  obtain⟨c,w,c0,_,_,h⟩:=uM t a (i+1) k [] pv h';simp at h
 |x::a,i,0,y::r,pv,h=>by
  cases x with
  |ob w0 c0 =>
   cases y with
   |none=>simp[K5]at h
   |some y =>
    cases y with
    |ob w c =>
     simp only[K5,xE,DH]at h;split at h
     . rename_i hw;cases h;exact⟨c,w0,c0,rfl,rfl,by simp[hw]⟩
     . cases h
    |dat _=>simp[K5]at h
    |own _=>simp[K5]at h
  |dat _=>simp[K5]at h
  |own _=>simp[K5]at h
 |x::a,i,k+1,y::r,pv,h=>by
  have h':(K5 t (i+1) a r)[k]? = some (some pv):=by
   cases x with
   |ob w0 c0 =>
    cases y with
    |none=>simpa [K5]using h
    |some y=>cases y<;>simpa [K5]using h
   |dat _=>simpa [K5]using h
   |own _=>simpa [K5]using h
  obtain⟨c,w,c0,h1,h2,h3⟩:=uM t a (i+1) k r pv h';exact⟨c,w,c0,h1,by rw[R4,h2],by rw[R4,h3,show i+1+k=i+(k+1)from by lia]⟩
theorem jh(t:Nat->Addr):∀(args:List PV) (i:Nat) (ds:Ds),(K5 t i args ds).length=args.length
 | [],_,_=>by simp[K5]
 |x::a,i,[]=>by cases x<;>simp[K5,jh t a]
 |x::a,i,y::r=>by
  cases x with
  |ob w c =>
   cases y with
   |none=>simp[K5,jh t a]
   |some y=>cases y<;>simp[K5,jh t a]
  |dat _=>simp[K5,jh t a]
  |own _=>simp[K5,jh t a]
section
variable{K:i5}{O:List Addr}{e8 H:Hp}{as:As}{σ:St}{ds:Ds}
theorem DS.slots(S:DS K O e8 as σ H ds){σ':St}{ds':Ds}(hl:σ'.length=ds'.length)(h:∀(i:Nat) (pv:PV),ds'[i]? = some (some pv)->∃pv0,ds[i]? = some (some pv0)/\∀rg,aI K O as H σ[i]? rg pv0->aI K O as H σ'[i]? rg pv):DS K O e8 as σ' H ds':=by
 obtain⟨rg,r1,r2,r3⟩:=S.gp;refine⟨hl,S.same,S.new,S.dg,rg,r1,r2,λi pv hd=>?_⟩
 obtain⟨pv0,h1,h2⟩:=h i pv hd;exact h2 _ (r3 i pv0 h1)
end
section
variable{P:B1}{w:t9}{K:i5}{mg:Str->Option c8}{base:Heap}
def addrOf:Option V->Addr
 |some (.ref a)=>a
 |_=>(0:Nat)
theorem DS.WC{O:List Addr}{e8 H:Hp}{as:As}{vs:List V}{args:List PV}(S:DS K O e8 as (vs.map some) H (args.map some)):
  DS K O e8 as (L2.start N vs) H ((aV (λi=>addrOf vs[i]?) 0 args).map some++v5 (N.length-args.length) none):=by
 have hl:vs.length=args.length:=by have:=S.ls;simpa using this
 have lt:(aV (λi=>addrOf vs[i]?) 0 args).length=args.length:=by
  have:∀(a:List PV) (i:Nat) (t:Nat->Addr),(aV t i a).length=a.length:=by
   intro a;induction a with
   |nil=>intro i t;rfl
   |cons x r ih=>intro i t;cases x<;>simp[aV,ih]
  exact this _ _ _
 refine S.slots (by delta L2.start;simp[lt,hl]) λi pv hd=>?_
 rw[DW]at hd;split at hd
 . rename_i hi;rw[P5,AB,Option.map_map]at hd;have hi':i<args.length:=by simpa [lt]using hi
   have hiv:i<vs.length:=by lia
   rw[G0 hi']at hd;have es:(L2.start N vs)[i]? = (vs.map some)[i]?:=by delta L2.start;rw[sD (by simpa using hiv)]
   have ea:(args.map some)[i]? = some (some args[i]):=by rw[P5,G0 hi'];rfl
   refine⟨args[i],ea,λrg h=>?_⟩
   rw[es];simp only[mO,Function.comp,DH]at hd;generalize args[i]=x at hd h;cases x with
   |dat d=>simp only at hd;rw[<-hd];exact h
   |own l=>simp only at hd;rw[<-hd];exact h
   |ob w c =>
    simp only at hd;rw[<-hd];obtain⟨v,R,z1,z2,z3,z4⟩:=h;refine⟨v,R,z1,.inr ?_,z3,z4⟩;rw[P5]at z1;rw[G0 hiv]at z1;have z1':vs[i]=.ref v:=by simpa using z1
    rw[wQ,G0 hiv,z1'];rfl
 . have:=sA hd;simp[DQ]at this
theorem sG.okO {x qual:Str} {st:Stmt} {f:Addr} {fd:O0} {k:Nat} (F:sG K x qual st f fd) (S:jl N ps (D7 st)) (hN:ps.length<=N.length) (hbody:∀(cdv:c8) (A:A2) (outer:List Env) (s:h8) (H:Hp) (E:XK),J2 k (A.deeper (dz qual (D7 st) s.heap.objs.size f cdv)) ->
   ∃t,fX (mw pL P w K mg base N qual (D7 st) f cdv A outer s H E).vF (aF st) t G):Z5 P w K mg base pL (k+1) f fd ps (jM K (oM ps.length N.length G)):=by
 have ln:∀vs H Q E,jM K (oM ps.length N.length G) vs H Q E->vs.length=ps.length:=λvs H Q E h=>by
  obtain⟨O,e8,as,args,pv,ds',h1,h2,h3⟩:=h;have:=h1.ls;have hl:=(GN h2).1;simp at this
  lia
 refine F.ok S ln λcdv A outer s H vs Q E hr h=>?_
 obtain⟨O,e8,as,args,pv,ds',h1,h2,h3⟩:=h;obtain⟨t,ht⟩:=hbody cdv A outer s H E hr;refine⟨t,ht.p,?_⟩;obtain⟨hl,h2⟩:=GN h2;have e1:=h2 λi=>addrOf vs[i]?
 obtain⟨o,e1,e2⟩:=j6 e1;have S1:=DS.WC (N:=N) h1;rw[hl]at S1;have hv:vs.length=ps.length:=by have:=h1.ls;simp at this;lia
 have fin:∀as' σ' Hm ds1,DS K O e8 as' σ' Hm ds1->DS K O e8 as' (vs.map some) Hm (K5 (λi=>addrOf vs[i]?) 0 args ds1):=λas' σ' Hm ds1 S2=>by
  refine S2.slots (by rw[jh,F9];lia) λi pv hd=>?_
  obtain⟨c,w0,c0,rfl,h4,h5⟩:=uM _ _ _ _ _ _ hd;refine⟨_,h5,λrg hs=>?_⟩
  obtain⟨v,R,z1,z2,z3,z4⟩:=hs;refine⟨v,R,?_,.inl rfl,z3,z4⟩;have z2':addrOf vs[0+i]? = v:=by
   rcases z2 with z|z
   . cases z
   . exact aA z
  rw[wQ]at z2';obtain⟨v',_,y1,_⟩:=h1.slot i (.ob w0 c0) (by rw[P5,h4];rfl)
  rw[y1];rw[P5]at y1;cases e:vs[i]? with
  |none=>rw[e]at y1;cases y1
  |some x =>
   rw[e]at y1 z2';have y1':x=.ref v':=by simpa using y1
   rw[y1']at z2';have z3':v'=v:=z2';rw[z3']
 refine ht.t O e8 as (L2.start N vs) H _ _ o S1 e1 ?_;cases o with
 |next ds1=>cases e2;exact λas' σ' H' S'=>h3 as' H' H' _ (fin _ _ _ _ S') (i0.refl _) Dt.non
 |retO pv' ds1=>cases e2;exact λas' σ' Hm H' v S' s r=>h3 as' Hm H' v (fin _ _ _ _ S') s r
 |ret pv'=>cases e2
 |brk ds1=>cases e2
 |cont ds1=>cases e2
 |up x=>cases e2
end
end
section
variable{E:XK}{CX:nV}{k:Nat}{f C:Addr}{fd:O0}{ps:List Str}{nm m:Str}{pl:Sem Bool}{to:TE}{Fd:DL}
inductive AV where
 |d (x:c5)
 |s (i:Nat)
inductive zP(K:i5)(Hv:Hp)(σ:St):List V->List AV->Prop
 |nil:zP K Hv σ [] []
 |d {v x vs l}:Dt K Hv v x->zP K Hv σ vs l->zP K Hv σ (v::vs) (.d x::l)
 |s {v i vs l}:σ[i]? = some (some v)->zP K Hv σ vs l->zP K Hv σ (v::vs) (.s i::l)
def TAO(K:i5)(t:TA)(F:Ds->Option (List AV)):Prop :=
 ∀(O:List Addr) (e8:Hp) (as:As) (σ:St) (H:Hp) (ds:Ds) (l:List AV) (Q:List V->Hp->Prop),DS K O e8 as σ H ds->F ds=some l->(∀vs H',i0 H H'->zP K (m7 H' as O) σ vs l->Q vs H')->t σ H Q
structure rR(X:Cx)(es:List Expr)(t:TA)(F:Ds->Option (List AV)):Prop where
 p:PA X es t
 t:TAO X.K t F
noncomputable def cM:Ds->Option (List AV):=λ_=>some []
noncomputable def J5(F:DV)(G:Ds->Option (List AV)):Ds->Option (List AV):=λds=>(F ds).bind λx=>(G ds).bind λl=>some (.d x.d::l)
noncomputable def fO(i:Nat)(G:Ds->Option (List AV)):Ds->Option (List AV):=λds=>match ds[i]? with
 |some (some (.ob _ _))=>(G ds).bind λl=>some (.s i::l)
 |_=>none
section
variable{X:Cx}{e:Expr}{es:List Expr}{te:TE}{t:TA}{F:DV}{Fl:Ds->Option (List AV)}
theorem Vl:rR X [] gI cM:=⟨gR,by intro O e8 as σ H ds l Q S hf q;cases hf;exact q [] H (i0.refl H) .nil⟩
theorem Qs(h:PX X true e te F)(k:rR X es t Fl)(hs:j4 (e::es) X.env=(false,eval e X.env)::j4 es X.env:=by rfl):rR X (e::es) (cP te t) (J5 F Fl):=⟨bD h.p k.p hs,by
 intro O e8 as σ H ds l Q S hf q;obtain⟨x,h1,hf⟩:=j6 hf;obtain⟨m,h2,hf⟩:=j6 hf;cases hf;refine h.t O e8 as σ H ds x _ S h1 λv H1 e1 r1=>?_
 refine k.t O e8 as σ H1 ds m _ (S.grow e1) h2 λvs H2 e2 r2=>?_
 exact q (v::vs) H2 (e1.trans e2) (.d ((r1.grow e2).dt (S.dm (fr:=true))) r2)⟩
theorem Qr(i:Nat)(h:PE X e (E9 i))(k:rR X es t Fl)(hs:j4 (e::es) X.env=(false,eval e X.env)::j4 es X.env:=by rfl):rR X (e::es) (cP (E9 i) t) (fO i Fl):=⟨bD h k.p hs,by
 intro O e8 as σ H ds l Q S hf q;unfold fO at hf;split at hf
 . rename_i w c hd;obtain⟨m,h2,hf⟩:=j6 hf;cases hf;obtain⟨v,R,e1,_⟩:=S.slot i _ hd;refine⟨_,e1,?_⟩;refine k.t O e8 as σ H ds m _ S h2 λvs H2 e2 r2=>?_
   exact q (_::vs) H2 e2 (.s e1 r2)
 . cases hf⟩
end
def oa(ds:Ds):List AV->Option (List PV)
 | []=>some []
 | .d x::l=>(oa ds l).bind λr=>some (.dat x::r)
 | .s i::l=>match ds[i]? with
  |some (some (.ob _ c))=>(oa ds l).bind λr=>some (.ob none c::r)
  |_=>none
def O6:List AV->List Nat
 | []=>[]
 | .d _::l=>O6 l
 | .s i::l=>i::O6 l
def Io:Option PV->Option (Option PV)->Option PV
 |some (.ob _ c),some (some (.ob w _))=>some (.ob w c)
 |_,_=>none
theorem Lh{x:Option PV}{o:Option (Option PV)}{pv:PV}(h:Io x o=some pv):∃w c w0 c0,o=some (some (.ob w c0))/\x=some (.ob w0 c)/\pv=.ob w c:=by
 unfold Io at h;split at h
 . rename_i w0 c w c0;cases h;exact⟨w,c,w0,c0,rfl,rfl,rfl⟩
 . cases h
def bY:List AV->Ds->Ds->Ds
 | .s i::l,x::r,ds=>bY l r (ds.set i (Io x ds[i]?))
 | .d _::l,_::r,ds=>bY l r ds
 |_,_,ds=>ds
def gQ:List AV->Nat->Option Nat
 | [],_=>none
 | .d _::l,j=>(gQ l j).map (· + 1)
 | .s i::l,j=>if i=j then some 0 else(gQ l j).map (· + 1)
theorem jN:∀{l:List AV} {j k:Nat},gQ l j=some k->l[k]? = some (.s j)
 | [],j,k,h=>by cases h
 | .d x::l,j,k,h=>by simp only[gQ,Eb]at h;obtain⟨m,h1,rfl⟩:=h;rw[R4];exact jN h1
 | .s i::l,j,k,h=>by
  simp only[gQ]at h;split at h
  . rename_i e;cases h;rw[e];rfl
  . simp only[Eb]at h;obtain⟨m,h1,rfl⟩:=h;rw[R4];exact jN h1
theorem aG:∀{l:List AV} {j:Nat},j∈O6 l ↔ ∃k:Nat,l[k]? = some (AV.s j)
 | [],j=>by simp[O6]
 | .d x::l,j=>by
  rw[O6,aG];constructor
  . rintro⟨k,h⟩;exact⟨k+1,by rw[R4];exact h⟩
  . rintro⟨k,h⟩;cases k with
    |zero=>simp at h
    |succ k=>exact⟨k,by rw[R4]at h;exact h⟩
 | .s i::l,j=>by
  rw[O6,mM,aG];constructor
  . rintro(h|⟨k,h⟩)
    . exact⟨0,by rw[h];rfl⟩
    . exact⟨k+1,by rw[R4];exact h⟩
  . rintro⟨k,h⟩;cases k with
    |zero =>
     have h':i=j:=by simpa using h
     exact .inl h'.symm
    |succ k=>exact .inr ⟨k,by rw[R4]at h;exact h⟩
theorem iZ:∀{l:List AV} {j k:Nat},(O6 l).Nodup->l[k]? = some (.s j)->gQ l j=some k
 | [],j,k,_,h=>by simp at h
 | .d x::l,j,k,n,h=>by
  cases k with
  |zero=>simp at h
  |succ k =>
   rw[R4]at h;simp only[gQ,iZ (l:=l) n h,mO]
 | .s i::l,j,k,n,h=>by
  rw[O6,MN]at n;cases k with
  |zero =>
   have h':i=j:=by simpa using h
   simp[gQ,h']
  |succ k =>
   rw[R4]at h;have hij:i≠j:=λz=>n.1 (aG.mpr ⟨k,by rw[z];exact h⟩)
   simp only[gQ,c9 hij,iZ (l:=l) n.2 h,mO]
theorem CA{K:i5}{Hv:Hp}{σ:St}{ds:Ds}:∀{vs:List V} {l:List AV} {args:List PV},zP K Hv σ vs l->oa ds l=some args->vs.length=l.length/\args.length=l.length/\∀(k:Nat) (pv:PV),args[k]? = some pv ->
  (∃x v,l[k]? = some (AV.d x)/\pv=.dat x/\vs[k]? = some v/\Dt K Hv v x)\/∃i w c v,l[k]? = some (AV.s i)/\ds[i]? = some (some (.ob w c))/\pv=.ob none c/\vs[k]? = some v/\σ[i]? = some (some v)
 |_,_,args,.nil,h=>by cases h;exact⟨rfl,rfl,λk pv h=>by simp at h⟩
 |_,_,args,.d (v:=v) (x:=x) (vs:=vs) (l:=l) hd t,h=>by
  rw[oa]at h;obtain⟨r,h1,h⟩:=j6 h;cases h;obtain⟨i1,i2,i3⟩:=CA t h1;refine⟨by simp[i1],by simp[i2],λk pv h=>?_⟩
  cases k with
  |zero =>
   have h':PV.dat x=pv:=by simpa using h
   exact .inl ⟨x,v,rfl,h'.symm,rfl,hd⟩
  |succ k =>
   rw[R4]at h;simp only[R4];exact i3 k pv h
 |_,_,args,.s (v:=v) (i:=i) (vs:=vs) (l:=l) hd t,h=>by
  rw[oa]at h;split at h
  . rename_i w c hi;obtain⟨r,h1,h⟩:=j6 h;cases h;obtain⟨i1,i2,i3⟩:=CA t h1;refine⟨by simp[i1],by simp[i2],λk pv h=>?_⟩
    cases k with
    |zero =>
     have h':PV.ob none c=pv:=by simpa using h
     exact .inr ⟨i,w,c,v,rfl,hi,h'.symm,rfl,hd⟩
    |succ k =>
     rw[R4]at h;simp only[R4];exact i3 k pv h
  . cases h
theorem uq:∀{l:List AV} {ds' ds:Ds},(bY l ds' ds).length=ds.length
 | [],_,_=>by simp[bY]
 | .d _::l,x::r,ds=>by rw[bY];exact uq
 | .d _::l,[],ds=>by simp[bY]
 | .s i::l,[],ds=>by simp[bY]
 | .s i::l,x::r,ds=>by rw[bY,uq,mQ]
theorem ur:∀{l:List AV} {ds' ds:Ds} {j:Nat} {pv:PV},(O6 l).Nodup->ds'.length=l.length->(bY l ds' ds)[j]? = some (some pv) ->
  (j∉O6 l/\ds[j]? = some (some pv))\/∃(k:Nat) (w:Option Addr) (c:OD) (w0:Option Addr) (c0:OD),l[k]? = some (AV.s j)/\ds[j]? = some (some (.ob w c0))/\ds'[k]? = some (some (.ob w0 c))/\pv=.ob w c
 | [],_,ds,j,pv,_,_,h=>.inl ⟨by simp[O6],by simpa [bY]using h⟩
 | .d x::l,[],ds,j,pv,n,hl,h=>by simp at hl
 | .s x::l,[],ds,j,pv,n,hl,h=>by simp at hl
 | .d x::l,y::r,ds,j,pv,n,hl,h=>by
  rw[bY]at h;rcases ur (l:=l) n (by simpa using hl) h with h|⟨k,w,c,w0,c0,h1,h2,h3,h4⟩
  . exact .inl h
  . exact .inr ⟨k+1,w,c,w0,c0,by rw[R4];exact h1,h2,by rw[R4];exact h3,h4⟩
 | .s i::l,y::r,ds,j,pv,n,hl,h=>by
  rw[O6,MN]at n;rw[bY]at h;rcases ur (l:=l) n.2 (by simpa using hl) h with ⟨h1,h2⟩|⟨k,w2,c2,w0,c0,h1,h2,h3,h4⟩
  . by_cases hij:i=j
    . subst hij;rw[mW,c7 rfl]at h2;split at h2
      . obtain⟨w,c,w0,c0,e1,e2,e3⟩:=Lh (aA h2);exact .inr ⟨0,w,c,w0,c0,rfl,e1,by rw[e2];rfl,e3⟩
      . cases h2
    . rw[aD hij]at h2;exact .inl ⟨by rw[O6,mM];exact λz=>z.elim (λz=>hij z.symm) h1,h2⟩
  . have hij:i≠j:=λz=>n.1 (aG.mpr ⟨k,by rw[z];exact h1⟩)
    rw[aD hij]at h2;exact .inr ⟨k+1,w2,c2,w0,c0,by rw[R4];exact h1,h2,by rw[R4];exact h3,h4⟩
theorem LM{H:Hp}{as bs:As}{O P:List Addr}(h:∀b,(b∈O\/some b∈as)↔(b∈P\/some b∈bs)):m7 H as O=m7 H bs P:=by
 funext b
 delta m7;by_cases c:b∈O\/some b∈as
 . rw[c7 c,c7 ((h b).mp c)]
 . rw[c9 c,c9 λz=>c ((h b).mpr z)]
section
variable{K:i5}{O:List Addr}{e8 H:Hp}{as:As}{σ:St}{ds:Ds}
theorem DS.Tw(S:DS K O e8 as σ H ds){vs:List V}{l:List AV}{args:List PV}(ha:zP K (m7 H as O) σ vs l)(hp:oa ds l=some args)(hn:(O6 l).Nodup):
  ∃Oc Hc ac,DS K Oc Hc ac (vs.map some) H (args.map some)/\∀as' Hm ds',DS K Oc Hc as' (vs.map some) Hm ds'->∃as2,DS K O e8 as2 σ Hm (bY l ds' ds)/\∀H' v pv,i0 Hm H'->RX K Oc as' Hm H' v pv->RX K O as2 Hm H' v pv:=by
 obtain⟨rg,r1,r2,r3⟩:=S.gp;obtain⟨l1,l2,l3⟩:=CA ha hp;have hRI:∀b,b∈(O6 l).flatMap rg ↔ ∃i∈O6 l,b∈rg i:=λb=>List.mem_flatMap
 generalize hR:(O6 l).flatMap rg=RI at hRI;generalize hT:(as.filterMap id).filter (λb=>decide (b∉RI))=RT
 have hRT:∀b,b∈RT↔some b∈as/\b∉RI:=λb=>by
  rw[<-hT,List.mem_filter,xt,sk];constructor
  . rintro⟨⟨x,h1,h2⟩,h3⟩;have h2':x=some b:=h2;rw[h2']at h1;exact⟨h1,h3⟩
  . rintro⟨h1,h3⟩;exact⟨⟨_,h1,rfl⟩,h3⟩
 have RIas:∀b,b∈RI->some b∈as:=λb hb=>by obtain⟨i,_,h⟩:=(hRI b).mp hb;exact r1 i b h
 have mm:∀(R:List Addr) (b:Addr),some b∈R.map some↔b∈R:=λR b=>by rw[mem_map];exact⟨λ⟨x,h,e⟩=>by cases e;exact h,λh=>⟨b,h,rfl⟩⟩
 have hc:∀b o,m7 H (RI.map some) [] b=some o↔b∉RI/\H b=some o:=λb o=>by rw[F0,mm];exact⟨λ⟨_,h⟩=>h,λh=>⟨by simp,h⟩⟩
 have e0:∀H,m7 H (RI.map some) (O++RT)=m7 H as O:=λH=>LM λb=>by
  rw[mm,iz,hRT];constructor
  . rintro((h|⟨h,_⟩)|h)
    . exact .inl h
    . exact .inr h
    . exact .inr (RIas b h)
  . rintro(h|h)
    . exact .inl (.inl h)
    . by_cases c:b∈RI
      . exact .inr c
      . exact .inl (.inr ⟨h,c⟩)
 refine⟨O++RT,m7 H (RI.map some) [],RI.map some,⟨?_,o6,λa h=>?_,λa h=>?_,λk=>match l[k]? with|some (.s i)=>rg i|_=>[],λk b h=>?_,λk k' b h h'=>?_,λk pv h=>?_⟩,?_⟩
 . simp[l1,l2]
 . rw[mm]at h;exact⟨by delta m7;rw[c7 (.inr ((mm _ _).mpr h))],(S.new a (RIas a h)).2⟩
 . rcases List.mem_append.mp h with h|h
   . obtain⟨o,z⟩:=S.dg a h;exact⟨o,(hc a o).mpr ⟨λq=>S.nO (RIas a q) h,S.same _ _ z⟩⟩
   . obtain⟨h1,h2⟩:=(hRT a).mp h;obtain⟨_,u,z⟩:=S.new a h1;exact⟨_,(hc a _).mpr ⟨h2,z⟩⟩
 . dsimp only at h;split at h
   . rename_i i hi;rw[mm,hRI];exact⟨i,aG.mpr ⟨k,hi⟩,h⟩
   . simp at h
 . dsimp only at h h';split at h
   . rename_i i hi;split at h'
     . rename_i i' hi';have:=r2 i i' b h h';subst this;have q1:=iZ hn hi;rw[iZ hn hi']at q1;exact(aA q1).symm
     . simp at h'
   . simp at h
 . rw[P5]at h;cases hk:args[k]? with
   |none=>rw[hk]at h;cases h
   |some pv0 =>
    rw[hk]at h;have h':pv0=pv:=by simpa using h
    subst h';rcases l3 k pv0 hk with ⟨x,v,z1,rfl,z3,z4⟩|⟨i,w,c,v,z1,z2,rfl,z3,z4⟩
    . exact⟨v,by rw[P5,z3];rfl,by rw[e0];exact z4⟩
    . dsimp only;rw[z1];obtain⟨v',R,y1,y2,y3,y4⟩:=r3 i _ z2;rw[z4]at y1;have y1':v=.ref v':=by simpa using y1
      subst y1';exact⟨v',R,by rw[P5,z3];rfl,.inl rfl,y3,by rw[e0];exact y4⟩
 intro as' Hm ds' S';obtain⟨rg',q1,q2,q3⟩:=S'.gp;have hl':ds'.length=l.length:=by have:=S'.ls;simp at this;lia
 have na:∀b,some b∈as'->b∉O/\b∉RT/\e8 b=none:=λb hb=>by
  have z:=(S'.new b hb).1;refine⟨λq=>?_,λq=>?_,?_⟩
  . obtain⟨o,y⟩:=S.dg b q;rw[(hc b o).mpr ⟨λq'=>S.nO (RIas b q') q,S.same _ _ y⟩]at z
    cases z
  . obtain⟨h1,h2⟩:=(hRT b).mp q;obtain⟨_,u,y⟩:=S.new b h1;rw[(hc b _).mpr ⟨h2,y⟩]at z;cases z
  . cases y:e8 b with
    |none=>rfl
    |some o =>
     rw[(hc b o).mpr ⟨λq'=>?_,S.same _ _ y⟩]at z
     . cases z
     . rw[(S.new b (RIas b q')).1]at y;cases y
 have e1:∀(H:Hp) (xs:As),m7 H (xs++as') (O++RT)=m7 H (xs++(as'++RT.map some)) O:=λH xs=>LM λb=>by
  rw[iz,iz,iz,iz,mm];constructor
  . rintro((h|h)|h|h)
    . exact .inl h
    . exact .inr (.inr (.inr h))
    . exact .inr (.inl h)
    . exact .inr (.inr (.inl h))
  . rintro(h|h|h|h)
    . exact .inl (.inl h)
    . exact .inr (.inl h)
    . exact .inr (.inr h)
    . exact .inl (.inr h)
 have e2:∀H:Hp,m7 H as' (O++RT)=m7 H (as'++RT.map some) O:=λH=>e1 H []
 have sm:i0 (m7 H as O) (m7 Hm (as'++RT.map some) O):=cy λb o h1 h2 h3=>by
  have hb:b∉RI:=λz=>h2 (RIas b z)
  refine⟨h1,λz=>?_,S'.same _ _ ((hc b o).mpr ⟨hb,h3⟩)⟩
  rcases List.mem_append.mp z with z|z
  . have:=(S'.new b z).1;rw[(hc b o).mpr ⟨hb,h3⟩]at this;cases this
  . exact h2 ((hRT b).mp ((mm _ _).mp z)).1
 refine⟨as'++RT.map some,⟨by rw[uq];exact S.ls,λb o h=>S'.same _ _ ((hc b o).mpr ⟨λq'=>?_,S.same _ _ h⟩),λb h=>?_,S.dg,λj=>match gQ l j with|some k=>rg' k|none=>rg j,λj b h=>?_,λj j' b h h'=>?_,λj pv h=>?_⟩,λH' v pv s r=>?_⟩
 . rw[(S.new b (RIas b q')).1]at h;cases h
 . rcases List.mem_append.mp h with h|h
   . exact⟨(na b h).2.2,(S'.new b h).2⟩
   . obtain⟨h1,h2⟩:=(hRT b).mp ((mm _ _).mp h);obtain⟨z,u,y⟩:=S.new b h1;exact⟨z,u,S'.same _ _ ((hc b _).mpr ⟨h2,y⟩)⟩
 . dsimp only at h;split at h
   . exact ia _ (q1 _ b h)
   . rename_i hj;refine M9 _ ((mm _ _).mpr ((hRT b).mpr ⟨r1 j b h,λz=>?_⟩))
     obtain⟨i,hi,z⟩:=(hRI b).mp z;have:=r2 i j b z h;subst this;obtain⟨k,hk⟩:=aG.mp hi;rw[iZ hn hk]at hj;cases hj
 . have no:∀(j j' k:Nat),gQ l j=some k->gQ l j'=none->b∈rg' k->b∈rg j'->False:=λj j' k hj hj' hb hb'=>by
     have z:=q1 k b hb;have:b∉RI:=λz=>by obtain⟨i,hi,z⟩:=(hRI b).mp z;have:=r2 i j' b z hb';subst this;obtain⟨k,hk⟩:=aG.mp hi;rw[iZ hn hk]at hj';cases hj'
     exact(na b z).2.1 ((hRT b).mpr ⟨r1 j' b hb',this⟩)
   dsimp only at h h';split at h
   . rename_i k hk;split at h'
     . rename_i k' hk';have:=q2 k k' b h h';subst this;have z1:=jN hk;rw[jN hk']at z1;cases z1;rfl
     . rename_i hk';exact(no j j' k hk hk' h h').elim
   . rename_i hk;split at h'
     . rename_i k' hk';exact(no j' j k' hk' hk h' h).elim
     . exact r2 j j' b h h'
 . rcases ur hn hl' h with ⟨h1,h2⟩|⟨k,w,c,w0,c0,h1,h2,h3,rfl⟩
   . have:gQ l j=none:=by
       cases z:gQ l j with
       |none=>rfl
       |some k=>exact absurd (aG.mpr ⟨k,jN z⟩) h1
     dsimp only;rw[this];refine(r3 j pv h2).yY sm (λb hb o z=>S'.same _ _ ((hc b o).mpr ⟨λq=>?_,z⟩)) λb z=>z
     obtain⟨i,hi,y⟩:=(hRI b).mp q;have e:=r2 i j b y hb;subst e;exact h1 hi
   . dsimp only;rw[iZ hn h1];obtain⟨v',R,y1,y2,y3,y4⟩:=q3 k _ h3;obtain⟨v0,R0,x1,x2,_⟩:=r3 j _ h2;have hk:k<args.length:=by rw[l2];exact(List.getElem?_eq_some_iff.mp h1).1
     rcases l3 k _ (G0 hk)with ⟨x,v,z1,_⟩|⟨i,w',c',v,z1,z2,z3,z4,z5⟩
     . rw[h1]at z1;cases z1
     . rw[h1]at z1;cases z1;rw[P5,z4]at y1;have y1':v=.ref v':=by simpa using y1
       subst y1';rw[z5]at x1;have x1':v'=v0:=by simpa using x1
       subst x1';exact⟨v',R,z5,x2,y3,by rw[<-e2];exact y4⟩
 . cases pv with
   |dat d =>
    have r':Dt K (m7 H' as' (O++RT)) v d:=r;rw[e2]at r';exact r'
   |own l =>
    obtain⟨a,xs,y1,y2,y3,y4⟩:=r;refine⟨a,xs,y1,y2,y3,?_⟩;have:=e1 H' [some a];rw[show(some a::(as'++RT.map some):As)=[some a]++(as'++RT.map some)from rfl,<-this]
    exact y4
   |ob w c =>
    obtain⟨o,R,y1,y2,y3,y4⟩:=r;refine⟨o,R,y1,y2,y3,?_⟩;rw[<-e1 H' (R.map some)];exact y4
end
def YK(K:i5)(te:TE)(F:Ds->Option (PV×Ds)):Prop :=
 ∀(O:List Addr) (e8:Hp) (as:As) (σ:St) (H:Hp) (ds:Ds) (pv:PV) (ds':Ds) (Q:VK),DS K O e8 as σ H ds->F ds=some (pv,ds')->(∀as' Hm H' v,DS K O e8 as' σ Hm ds'->i0 Hm H'->RX K O as' Hm H' v pv->Q v H')->te σ H Q
structure uf(X:Cx)(e:Expr)(te:TE)(F:Ds->Option (PV×Ds)):Prop where
 p:PE X e te
 t:YK X.K te F
noncomputable def gU(f:List PV->Option (PV×Ds))(Fl:Ds->Option (List AV)):Ds->Option (PV×Ds):=λds=>(Fl ds).bind λl=>if (O6 l).Nodup then(oa ds l).bind λargs=>(f args).bind λr=>some (r.1,bY l r.2 ds)else none
section
variable{X:Cx}{e o:Expr}{es:List Expr}{te:TE}{t:TA}{F:DV}{FO:Ds->Option (PV×Ds)}{Fl:Ds->Option (List AV)}{pos pos' apos p:Pos}{f':List PV->Option (PV×Ds)}
theorem OI(ha:rR X es t Fl):YK X.K (pU (jM X.K f') [] E t) (gU f' Fl):=by
 intro O e8 as σ H ds pv ds' Q S hf q;obtain⟨l,h1,hf⟩:=j6 hf;split at hf
 . rename_i hn;obtain⟨args,h2,hf⟩:=j6 hf;obtain⟨⟨pv0,d0⟩,h3,hf⟩:=j6 hf;cases hf;refine ha.t O e8 as σ H ds l _ S h1 λvs H1 s1 r1=>?_
   obtain⟨Oc,Hc,ac,Sc,back⟩:=(S.grow s1).Tw r1 h2 hn;rw[cX];refine⟨Oc,Hc,ac,args,pv0,d0,Sc,h3,λas' Hm H' v S' s' r'=>?_⟩
   obtain⟨as2,S2,rr⟩:=back as' Hm d0 S';exact q as2 Hm H' v S2 s' (rr H' v pv0 s' r')
 . cases hf
theorem Pt{x:Str}(G:Z5 X.prog X.w X.K X.mg X.base CX k f fd ps (jM X.K f'))(hr:J2 k X.A)(hg:Gl X x)(hm:X.mg x=some (.ref f))(hk:fL X.K (.ref f)=true)(hb:Binds X.K fd ps [])(hx:Passes CX X E)(ha:rR X (e::es) t Fl)(hdb:(x==("__debug__" : Str))=false:=by decide)(he:j4 (e::es) X.env=(false,eval e X.env)::j4 es X.env:=by rfl)(hpl:(A9 pos (j4 es X.env)).any (·.1)=false:=by rfl):
  uf X (.Call (.Name x p) (e::es) [] pos) (pU (jM X.K f') [] E t) (gU f' Fl):=⟨Ga G hr hg hm hk hb .nil hx ha.p hdb he hpl,OI ha⟩
noncomputable def J1(nm m:Str)(i:Nat)(f:List PV->Option (PV×Ds))(Fl:Ds->Option (List AV)):Ds->Option (PV×Ds):=λds=>(eV nm i ds).bind λx=>match p5 m x.2 with
 |none=>gU f (fO i Fl) ds
 |some _=>none
theorem OH{i:Nat}(T:bS X.K nm C)(ha:rR X es t Fl):YK X.K (la C m (jM X.K f') [] E (E9 i) t) (J1 nm m i f' Fl):=by
 intro O e8 as σ H ds pv ds' Q S hf q;obtain⟨⟨w,fs⟩,h0,hf⟩:=j6 hf;have hd:=aX h0;have hf':(match p5 m fs with
  |none=>gU f' (fO i Fl) ds
  |some _=>none)=some (pv,ds'):=hf
 obtain⟨v,R,e1,_,hR,C',dx,fv,R',rfl,c1,c2,c3⟩:=S.slot i _ hd;have ec:=T.eq c1;subst ec;cases hl:p5 m fs with
 |some _=>rw[hl]at hf';cases hf'
 |none =>
  rw[hl]at hf';refine⟨_,e1,v,dx,fv,rfl,c2,c3.XO hl,?_⟩;obtain⟨l,h1,hf⟩:=j6 hf';unfold fO at h1;rw[hd]at h1;obtain⟨l',h1f,h1'⟩:=j6 h1;cases h1';split at hf
  . rename_i hn;obtain⟨args,h2,hf⟩:=j6 hf;obtain⟨⟨pv0,d0⟩,h3,hf⟩:=j6 hf;cases hf;refine ha.t O e8 as σ H ds l' _ S h1f λvs H1 s1 r1=>?_
    obtain⟨Oc,Hc,ac,Sc,back⟩:=(S.grow s1).Tw (.s e1 r1) h2 hn;rw[cX];refine⟨Oc,Hc,ac,args,pv0,d0,Sc,h3,λas' Hm H' v S' s' r'=>?_⟩
    obtain⟨as2,S2,rr⟩:=back as' Hm d0 S';exact q as2 Hm H' v S2 s' (rr H' v pv0 s' r')
  . cases hf
theorem iY {i:Nat} (T:bS X.K nm C) (ho:PE X o (E9 i)) (hm:Meth X.K C m f) (G:Z5 X.prog X.w X.K X.mg X.base CX k f fd ps (jM X.K f')) (hr:J2 k X.A) (hb:Binds X.K fd ps []) (hx:Passes CX X E) (ha:rR X (e::es) t Fl) (hst:j4 (e::es) X.env=(false,eval e X.env)::j4 es X.env:=by rfl) (hpl:(A9 pos (j4 es X.env)).any (·.1)=false:=by rfl) (ht:eval (.Call (.Attribute o m apos) (e::es) [] pos) X.env=(do
   let ov <- eval o X.env
   cD apos.atName
   let (f,first) <- holding [ov] (ip ov m pl)
   callWith pos f first (A9 pos (j4 (e::es) X.env)) (aw pos (cq [] X.env))):=by rfl) :
  uf X (.Call (.Attribute o m apos) (e::es) [] pos) (la C m (jM X.K f') [] E (E9 i) t) (J1 nm m i f' Fl):=⟨FZ ho T.cl hm G hr hb .nil hx ha.p hst hpl ht,OH T ha⟩
theorem UH {fr:Bool} {Fo:DV} {fF:FV} (T:bS X.K nm C) (ho:PX X fr o to Fo) (hm:Meth X.K C m f) (G:Z5 X.prog X.w X.K X.mg X.base CX k f fd ps (B3 X.K fF)) (hr:J2 k X.A) (hb:Binds X.K fd ps []) (hx:Passes CX X E) (ha:eU X fr (e::es) t Fd) (hst:j4 (e::es) X.env=(false,eval e X.env)::j4 es X.env:=by rfl) (hpl:(A9 pos (j4 es X.env)).any (·.1)=false:=by rfl) (ht:eval (.Call (.Attribute o m apos) (e::es) [] pos) X.env=(do
   let ov <- eval o X.env
   cD apos.atName
   let (f,first) <- holding [ov] (ip ov m pl)
   callWith pos f first (A9 pos (j4 (e::es) X.env)) (aw pos (cq [] X.env))):=by rfl) :
  PX X fr (.Call (.Attribute o m apos) (e::es) [] pos) (la C m (B3 X.K fF) [] E to t) (L9 nm m fF Fo Fd):=⟨FZ ho.p T.cl hm G hr hb .nil hx ha.p hst hpl ht,Fn T ho ha⟩
theorem Px {fr:Bool} {Fo:DV} {fF:FV} (T:bS X.K nm C) (ho:PX X fr o to Fo) (hm:Meth X.K C m f) (G:Z5 X.prog X.w X.K X.mg X.base CX k f fd ps (B3 X.K fF)) (hr:J2 k X.A) (hb:Binds X.K fd ps []) (hx:Passes CX X E) (ht:eval (.Call (.Attribute o m apos) [] [] pos) X.env=(do
   let ov <- eval o X.env
   cD apos.atName
   let (f,first) <- holding [ov] (ip ov m pl)
   callWith pos f first (A9 pos (j4 [] X.env)) (aw pos (cq [] X.env))):=by rfl) :
  PX X fr (.Call (.Attribute o m apos) [] [] pos) (la C m (B3 X.K fF) [] E to gI) (L9 nm m fF Fo m6):=⟨Qo ho.p T.cl hm G hr hb .nil hx ht,Fn T ho Gb⟩
noncomputable def J9(F:Ds->Option (PV×Ds)):DO:=λds=>(F ds).bind λr=>some (.next r.2)
noncomputable def ma:DO:=λds=>some (.retO (.dat .none) ds)
theorem Kl(he:uf X e te FO)(hs:aK e none pos.line X.env=pure false:=by rfl):J3 X (.Expr e pos) (pT te) (J9 FO):=⟨lK he.p hs,by intro O e8 as σ H ds D o S h q;obtain⟨⟨pv,d1⟩,e1,h⟩:=j6 h;cases h;exact he.t O e8 as σ H ds pv d1 _ S e1 λas' Hm H' v S' s' r'=>q _ _ _ (S'.grow s')⟩
theorem Kj:J3 X (.Return none pos) So ma:=⟨Va,by intro O e8 as σ H ds D o S h q;cases h;exact q as σ H H _ S (i0.refl H) Dt.non⟩
def Iu:PV×Ds->Option OD
 |(.dat .none,some (.ob _ c)::_)=>some c
 |_=>none
theorem Lp{r:PV×Ds}{c:OD}(h:Iu r=some c):∃w d,r=(.dat .none,some (.ob w c)::d):=by
 unfold Iu at h;split at h
 . rename_i w c' d;cases h;exact⟨w,d,rfl⟩
 . cases h
noncomputable def tI(nm:Str)(f:List PV->Option (PV×Ds))(Fl:DL):DV:=λds=>(Fl ds).bind λl=>(f (.ob none (.ins nm [])::l.map .dat)).bind λr=>(Iu r).bind λc=>some (.ob none c)
theorem UI{x:Str}(T:bS X.K x C)(M:Mk X.K C f)(G:Z5 X.prog X.w X.K X.mg X.base CX k f fd ps (jM X.K f'))(hr:J2 (k+1) X.A)(hg:Gl X x)(hm:X.mg x=some (.ref C))(hb:Binds X.K fd ps [])(hx:Passes CX X E)(ha:eU X true (e::es) t Fd)(hdb:(x==("__debug__" : Str))=false:=by decide)(he:j4 (e::es) X.env=(false,eval e X.env)::j4 es X.env:=by rfl)(hpl:(A9 pos (j4 es X.env)).any (·.1)=false:=by rfl):
  PX X true (.Call (.Name x p) (e::es) [] pos) (Su C (jM X.K f') [] E t) (tI x f' Fd):=⟨Vh M G hr hg hm hb .nil hx ha.p hdb he hpl,by
 intro O e8 as σ H ds pv Q S hf q;obtain⟨l,h1,hf⟩:=j6 hf;obtain⟨r0,h2,hf⟩:=j6 hf;obtain⟨c,h3,hf⟩:=j6 hf;cases hf;obtain⟨w,dr,rfl⟩:=Lp h3;refine ha.t O e8 as σ H ds l _ S h1 λvs H1 s1 r1=>λz dx hz hdx hne=>?_
 have S1:=S.grow s1;have nas:∀b,some b∈as->∃u,H1 b=some u:=λb hb=>let ⟨_,u,y⟩:=S1.new b hb;⟨_,y⟩
 generalize hT:as.filterMap id=RT;have hRT:∀b,b∈RT↔some b∈as:=λb=>by rw[<-hT,xt];exact⟨λ⟨x,h1,h2⟩=>by have h2':x=some b:=h2;rw[h2']at h1;exact h1,λh=>⟨_,h,rfl⟩⟩
 have sd:i0 H1 (upd H1 dx (.own z)):=i0.new hdx;have hzd:upd H1 dx (.own z) z=none:=by rw[A3 (λy=>hne y.symm)];exact hz
 have sz:i0 (upd H1 dx (.own z)) (upd (upd H1 dx (.own z)) z (.ins C dx [])):=i0.new hzd;have nz:∀b u,H1 b=some u->b≠z:=λb u h y=>by rw[y,hz]at h;cases h
 rw[cX];refine⟨O++RT,upd H1 dx (.own z),[some z],_,_,_,?_,h2,λas' Hm H' v S' s' r'=>?_⟩
 . have hl:=r1.length;refine⟨by simp[hl],sz,λa h=>?_,λa h=>?_,λk=>if k=0 then[z]else[],λk b h=>?_,λk k' b h h'=>?_,λk pv h=>?_⟩
   . have:a=z:=by simpa using h
     subst this;exact⟨hzd,Cl.i C dx [],E8⟩
   . rcases List.mem_append.mp h with h|h
     . obtain⟨u,y⟩:=S1.dg a h;exact⟨u,sd _ _ (S1.same _ _ y)⟩
     . obtain⟨u,y⟩:=nas a ((hRT a).mp h);exact⟨u,sd _ _ y⟩
   . dsimp only at h;split at h
     . rw[mem_singleton.mp h];exact B7
     . simp at h
   . dsimp only at h h';split at h
     . split at h'
       . rename_i z1 z2;rw[z1,z2]
       . simp at h'
     . simp at h
   . cases k with
     |zero =>
      have h':PV.ob none (OD.ins x [])=pv:=by simpa using h
      rw[<-h'];exact⟨z,[z],rfl,.inl rfl,λb hb=>hb,C,dx,[],[],rfl,T.ns,E8,.nil⟩
     |succ k =>
      simp only[o5,R4,dE,P5,Eb,Function.comp,DH]at h;obtain⟨d,h3,rfl⟩:=h;obtain⟨v,y1,y2⟩:=r1.get h3;refine⟨v,by simp[y1],y2.same (cy λb o z1 z2 z3=>⟨λy=>?_,λy=>?_,sz _ _ (sd _ _ z3)⟩)⟩
      . rcases List.mem_append.mp y with y|y
        . exact z1 y
        . exact z2 ((hRT b).mp y)
      . have:b=z:=by simpa using y
        exact nz b o z3 this
 . obtain⟨v',R,y1,_,y2,y3⟩:=S'.slot 0 (.ob w c) rfl;have y1':z=v':=by simpa using y1
   subst y1';have ev:v=.non:=by cases r';rfl
   refine⟨ev,q _ H' (s1.trans ((sd.trans S'.same).trans s')) ⟨z,R,rfl,.inl rfl,λb hb=>?_,y3.same (cy λb o z1 z2 z3=>⟨λy=>z1 (ia _ y),λy=>?_,s' _ _ z3⟩) λb _ o y=>s' _ _ y⟩⟩
   . have:=(S'.new b (y2 b hb)).1;exact s1.free (sd.free this)
   . rcases List.mem_append.mp y with y|y
     . obtain⟨b',q1,q2⟩:=mem_map.mp y;cases q2;exact z2 (y2 b q1)
     . exact z1 (M9 _ ((hRT b).mpr y))⟩
end
end
section
variable{Fc:DB}{G:DO}{ds:Ds}{o:Out}{m:Nat}{E Q:c8->h8->Prop}
section
variable{X:Cx}{K':i5}{fr:Bool}{i k:Nat}{o e b:Expr}{es:List Expr}{to tb:TE}{t:TA}{F Fo Fb:DV}{Fd:DL}{nm f m:Str}{C g:Addr}{fd:O0}{ps:List Str}{pos pos' apos cpos:Pos}{CX:nV}{E:XK}{pl:Sem Bool}{fF:FV}
theorem Pz(eK:X.K=K')(T:bS K' nm C)(n:W7 K' C f)(h:PX X fr o to F)(hb:V8 o f X.env (eval o X.env)=eval o X.env:=by rfl):PX X fr (.Attribute o f pos) (pS K' to f) (z9 nm f F):=by subst eK;exact UM T n h hb
theorem Pw(eK:X.K=K')(T:bS K' nm C)(n:W7 K' C f)(h:PE X o (E9 i))(hb:V8 o f X.env (eval o X.env)=eval o X.env:=by rfl):PX X fr (.Attribute o f pos) (pS K' (E9 i) f) (F8 nm i f):=by subst eK;exact UG T n h hb
theorem UE(eK:X.K=K')(T:bS K' nm C)(n:W7 K' C f)(h:PE X o (E9 i))(hb:PX X fr b tb Fb)(hbs:V8 o f X.env (eval o X.env)=eval o X.env:=by rfl)(hs:jk b:=by intro _ _;rfl):PX X fr (.Subscript (.Attribute o f apos) b pos) (nA (yZ K') (pS K' (E9 i) f) tb) (gT nm i f Fb):=by subst eK;exact Xd T n h hb hbs hs
theorem uo (eK:X.K=K') (T:bS K' nm C) (ho:PX X fr o to Fo) (hm:Meth K' C m g) (G:Z5 X.prog X.w K' X.mg X.base CX k g fd ps (B3 K' fF)) (hr:J2 k X.A) (hb:Binds K' fd ps []) (hx:Passes CX X E) (ha:eU X fr (e::es) t Fd) (hst:j4 (e::es) X.env=(false,eval e X.env)::j4 es X.env:=by rfl) (hpl:(A9 pos (j4 es X.env)).any (·.1)=false:=by rfl) (ht:eval (.Call (.Attribute o m apos) (e::es) [] pos) X.env=(do
   let ov <- eval o X.env
   cD apos.atName
   let (f,first) <- holding [ov] (ip ov m pl)
   callWith pos f first (A9 pos (j4 (e::es) X.env)) (aw pos (cq [] X.env))):=by rfl) :
  PX X fr (.Call (.Attribute o m apos) (e::es) [] pos) (la C m (B3 K' fF) [] E to t) (L9 nm m fF Fo Fd):=by subst eK;exact UH T ho hm G hr hb hx ha hst hpl ht
theorem Kb (eK:X.K=K') (T:bS K' nm C) (ho:PX X fr o to Fo) (hm:Meth K' C m g) (G:Z5 X.prog X.w K' X.mg X.base CX k g fd ps (B3 K' fF)) (hr:J2 k X.A) (hb:Binds K' fd ps []) (hx:Passes CX X E) (ht:eval (.Call (.Attribute o m apos) [] [] pos) X.env=(do
   let ov <- eval o X.env
   cD apos.atName
   let (f,first) <- holding [ov] (ip ov m pl)
   callWith pos f first (A9 pos (j4 [] X.env)) (aw pos (cq [] X.env))):=by rfl) :
  PX X fr (.Call (.Attribute o m apos) [] [] pos) (la C m (B3 K' fF) [] E to gI) (L9 nm m fF Fo m6):=by subst eK;exact Px T ho hm G hr hb hx ht
end
def Ir(Fc:DB)(G:DO):Ds->Nat:=λds=>open Classical in if h:∃m,∃o,E3 Fc G m ds=some o then h.choose else 0
theorem nX{Fc:DB}{G:DO}:∀{m:Nat} {ds:Ds} {o:Out},E3 Fc G m ds=some o->E3 Fc G (m+1) ds=some o
 | 0,ds,o,h=>by cases h
 |m+1,ds,o,h=>by
  rw[E3]at h ⊢;obtain⟨b,h1,h⟩:=j6 h;rw[h1];simp only[i7];cases b with
  |false=>exact h
  |true =>
   rw[c7 rfl]at h ⊢;obtain⟨r,h2,h⟩:=j6 h;rw[h2];simp only[i7];cases r with
   |next ds2=>exact nX h
   |cont ds2=>exact nX h
   |brk ds2=>exact h
   |ret pv=>exact h
   |up x=>exact h
   |retO pv ds2=>exact h
theorem yJ(h:E3 Fc G m ds=some o)(n:Nat):E3 Fc G (m+n) ds=some o:=by
 induction n with
 |zero=>exact h
 |succ n ih=>exact nX ih
theorem IU(h:E3 Fc G m ds=some o):fD (Ir Fc G) Fc G ds=some o:=by have hx:∃m,∃o,E3 Fc G m ds=some o:=⟨m,o,h⟩;delta fD Ir;rw[dif_pos hx];obtain⟨o',h'⟩:=hx.choose_spec;rw[h'];have e1:=yJ h' m;have e2:=yJ h hx.choose;rw[Nat.add_comm]at e2;rw[e1]at e2;exact e2
theorem mul_list{prog:B1}{w:t9}{A:A2}{s:h8}{l:Addr}{vs:List c8}{x:Int}{u:Tok}(hl:s.heap.IsList l vs.toArray)(hlo : -(2 ^ 63:Int)<=x)(hhi:x<2 ^ 63)(hsz:vs.length*x.toNat<=100000)(h:Q (.ref s.heap.objs.size) {s with heap:=s.heap.push {cls:=oZ "list",data:=Data.seq (v5 x.toNat vs).flatten.toArray}}):wpAny (model prog w) A (U1 .Mult (.ref l) (.int x u)) Q E s:=by
 obtain⟨⟨cls,d,data,sl⟩,ho,hcl,k,hd⟩:=id hl;simp only at hcl hd;subst hcl hd;have hsz':vs.toArray.size*x.toNat<=100000:=by simpa using hsz
 refine wpAny_binaryOp_repeat_ref (T:="list") (U:="int") (by decide) ⟨_,ho,rfl⟩ (λs'=>typeIs_int s' x u) noFill_list_mul F.fills_int_mul F.slot_int_rmul repeat_list F.slot_int_index.lookup
  (oY F.slot_int_rmul (typeIs_int s x u) F.entry_int_rmul (F.args_int_rmul_2 _ _) (lm_int_rmul_list_any x u l vs.toArray k d sl)
   ⟨ho,rfl,⟨_,ho,rfl⟩,oY F.slot_list_mul ⟨_,ho,rfl⟩ F.entry_list_mul (F.args_list_mul_2 _ _)
    (lm_list_mul_any l vs.toArray k d sl x u (by simp[Builtin.List.listFitsIndex];lia) (by lia) (by simp[xF,B2];lia))
    ⟨ho,?_⟩⟩)
 rw[listMul_foldl_if];exact h
def HJ(K:i5):R2:=λx y H Q=>∃a xs j,x=.ref a/\y=.int j/\D9 K H a xs/\(-(2 ^ 62)<j/\j<2 ^ 62)/\xs.length*j.toNat<=100000/\∀p,H p=none->Q (.ref p) (upd H p (.lst (v5 j.toNat xs).flatten))
theorem Ap{xs:List V}{us:List c8}(h:Vals xs us):∀n,Vals (v5 n xs).flatten (v5 n us).flatten
 | 0=>.nil
 |n+1=>by rw[xy,xy,xr,xr];exact h.append (Ap h n)
theorem Vo{X:Cx}:R8 X (U1 .Mult) (HJ X.K):=by
 intro pins s σ H x y v u Q I rx ry h;obtain⟨a,xs,j,rfl,rfl,hH,hj,hz,q⟩:=h;cases rx;obtain⟨t,rfl⟩:=ry;obtain⟨its,r,p1,z1⟩:=I.list hH;have hl:=r.length;refine mul_list p1.isList (by lia) (by lia) (by rw[<-hl];exact hz) ?_
 refine⟨.ref _,_,I.Ya (t':=s.toks) (Ap r _) ?_,rfl,q _ I.fresh⟩;rw[List.length_flatten,List.map_replicate,List.sum_replicate_nat,ph];exact P4 hz (lQ (by decide))
def nI:c5->c5->Option PV
 | .list l,.int j=>if (0<=j/\j.toNat<=100000)/\l.length*j.toNat<=100000 then some (.own (v5 j.toNat l).flatten)else none
 |_,_=>none
theorem GV{K:i5}{H:Hp}{xs:List V}{l:List c5}(h:o8 K H xs l):∀n,o8 K H (v5 n xs).flatten (v5 n l).flatten
 | 0=>.nil
 |n+1=>by rw[xy,xy,xr,xr];exact h.append (GV h n)
theorem Wd{K:i5}:cB K (HJ K) nI:=by
 intro O va H x y d e pv Q D hx hy hf q;cases hx with
 |lst hs ht =>
  cases hy with
  |int j =>
   rename_i a xs l;have hf':(if (0<=j/\j.toNat<=100000)/\l.length*j.toNat<=100000 then some (PV.own (v5 j.toNat l).flatten)else none)=some pv:=hf
   split at hf'
   . rename_i hz;cases hf';exact⟨a,xs,j,rfl,rfl,o6.seq hs,by lia,by rw[ht.length];exact hz.2,λp hp=>q _ _ (i0.new hp) (fk hp (GV ht _))⟩
   . cases hf'
  |_=>cases hf
 |_=>cases hf
end
def Pq(K:i5):R2:=λx y H Q=>(qD λi j=>.bl (decide (i<j))) x y H Q\/WU K x y H Q
theorem XF{X:Cx}(hu:X.A.units+64<cLine):R8 X (V5 .Lt) (Pq X.K):=HZ.or (XG (by lia))
def uH:c5->c5->Option PV
 | .int i,.int j=>some (.dat (.bool (decide (i<j))))
 | .tuple [.int i,.int j],.tuple [.int i2,.int j2]=>some (.dat (.bool (HT.lexLt [i,j] [i2,j2])))
 |_,_=>none
theorem YY{K:i5}:cB K (Pq K) uH:=by
 intro O va H x y d e pv Q D hx hy hf q;unfold uH at hf;split at hf
 . cases hx;cases hy;cases hf;exact .inl ⟨_,_,rfl,rfl,q _ H (i0.refl H) (Dt.bl _)⟩
 . cases hf;cases hx with
   |tup hs ht =>
    cases hy with
    |tup hs2 ht2 =>
     cases ht with
     |cons a1 t1 =>
      cases t1 with
      |cons a2 t2 =>
       cases t2;cases a1;cases a2;cases ht2 with
       |cons b1 t1 =>
        cases t1 with
        |cons b2 t2 =>
         cases t2;cases b1;cases b2;exact .inr ⟨_,_,_,_,rfl,rfl,o6.cL hs,o6.cL hs2,q _ H (i0.refl H) (Dt.bl _)⟩
 . cases hf
section
variable{α:Type}{K:i5}{Hv H e8:Hp}{R O:List Addr}{k:Nat}{ds:Ds}{w:Option Addr}{as:As}{σ:St}
def vI(l:List α):List (Str×α):=l.map λx=>(V4,x)
theorem SN(l:List α):(vI l).map (·.2)=l:=by delta vI;rw[dE];exact List.map_id l
theorem sT(l:List α):(vI l).length=l.length:=F9 _
theorem qJ.same{K:i5}{Hv Hv' H H':Hp}{x:V}{p:PF}{R:List Addr}(h:qJ K Hv H x p R)(e:i0 Hv Hv')(e2:∀b∈R,∀o,H b=some o->H' b=some o):qJ K Hv' H' x p R:=by
 cases h with
 |dat h=>exact .dat (h.same e)
 |own h1 h2=>exact .own (e2 _ B7 _ h1) (h2.same e)
 |dct h1 h2=>exact .dct (e2 _ B7 _ h1) (h2.same e)
def TAF(K:i5)(t:TA)(F:Ds->Option (List PF)):Prop :=
 ∀(O:List Addr) (e8:Hp) (as:As) (σ:St) (H:Hp) (ds:Ds) (fs:List PF) (Q:List V->Hp->Prop),DS K O e8 as σ H ds->F ds=some fs->(∀vs H' R,i0 H H'->(∀b∈R,H b=none)->M3 K (m7 H' (R.map some++as) O) H' (vI vs) (vI fs) R->Q vs H')->t σ H Q
structure Hl(X:Cx)(es:List Expr)(t:TA)(F:Ds->Option (List PF)):Prop where
 p:PA X es t
 t:TAF X.K t F
def uw:Ds->Option (List PF):=λ_=>some []
def bq(F:DV)(G:Ds->Option (List PF)):Ds->Option (List PF):=λds=>(F ds).bind λpv=>(dP pv).bind λp=>(G ds).bind λl=>some (p::l)
def tH(Fl:Ds->Option (List PF)):DV:=λds=>(Fl ds).bind λl=>if l.length<=1000000 then some (.ob none (.seq false (vI l)))else none
def Aj(Fl:Ds->Option (List PF)):DV:=λds=>(Fl ds).bind λl=>if l.length<=1000000 then some (.ob none (.seq true (vI l)))else none
section
variable{X:Cx}{fr:Bool}{e:Expr}{es:List Expr}{te:TE}{t:TA}{F:DV}{Fl:Ds->Option (List PF)}{pos:Pos}
theorem Vm:Hl X [] gI uw:=⟨gR,by intro O e8 as σ H ds l Q S hf q;cases hf;exact q [] H [] (i0.refl H) (λb hb=>absurd hb (by simp)) .nil⟩
theorem Qt(h:PX X true e te F)(k:Hl X es t Fl)(hs:j4 (e::es) X.env=(false,eval e X.env)::j4 es X.env:=by rfl):Hl X (e::es) (cP te t) (bq F Fl):=⟨bD h.p k.p hs,by
 intro O e8 as σ H ds fs Q S hf q;obtain⟨pv,h1,hf⟩:=j6 hf;obtain⟨p,h2,hf⟩:=j6 hf;obtain⟨l,h3,hf⟩:=j6 hf;cases hf;refine h.t O e8 as σ H ds pv _ S h1 λv H1 s1 r1=>?_
 obtain⟨Rf,k1,k2,k3⟩:=GB (S.dm (fr:=true)) r1 (.inl h2);obtain⟨S1,_⟩:=S.adopt s1 0 k1 k2;refine k.t O e8 _ σ H1 ds l _ S1 h3 λvs H2 R s2 n2 r2=>?_
 have nR:∀b∈R,b∉Rf:=λb hb z=>by obtain⟨u,y⟩:=k2 b z;rw[n2 b hb]at y;cases y
 refine q (v::vs) H2 (Rf++R) (s1.trans s2) (λb hb=>?_) ?_
 . rcases List.mem_append.mp hb with z|z
   . exact k1 b z
   . exact s1.free (n2 b z)
 . have m1:∀b,some b∈(Rf++R).map some++as->some b∈R.map some++(Rf.map some++as):=λb hb=>by
     rw[hV]at hb;simp only[iz]at hb ⊢;rcases hb with (h|h)|h
     . exact .inr (.inl h)
     . exact .inl h
     . exact .inr (.inr h)
   refine M3.cons (k3.same (cy λb o z1 z2 z3=>⟨z1,λz=>?_,s2 _ _ z3⟩) λb _ o z=>s2 _ _ z) (λb hb z=>nR b z hb) (r2.same (U6 (i0.refl _) m1) λ_ _ _ z=>z)
   rcases List.mem_append.mp (m1 b z)with y|y
   . obtain⟨b',y1,y2⟩:=mem_map.mp y;cases y2;rw[n2 b y1]at z3;cases z3
   . exact z2 y⟩
theorem UC{x1}(h:Hl X es t Fl):PX X true (.Tuple es x1 pos) (OQ t) (tH Fl):=⟨Ky h.p,by
 intro O e8 as σ H ds pv Q S hf q;obtain⟨l,h1,hf⟩:=j6 hf;split at hf
 . rename_i hl;cases hf;refine h.t O e8 as σ H ds l _ S h1 λvs H1 R s1 n1 r1=>⟨?_,λp hp=>?_⟩
   . have:=r1.len;rw[sT,sT]at this;rw[this];exact lQ hl
   . obtain⟨f1,f2⟩:=((S.grow s1).dm (fr:=true)).fresh hp;refine q _ _ (s1.trans (i0.new hp)) ⟨p,R,rfl,.inl rfl,n1,vI vs,F0.mpr ⟨f1,λz=>?_,by rw[SN];exact E8⟩,r1.same (L6 (i0.new hp)) λb _ o z=>i0.new hp _ _ z⟩
     rcases List.mem_append.mp z with z|z
     . obtain⟨b',z1,z2⟩:=mem_map.mp z;cases z2;obtain⟨u,_,y⟩:=r1.at p z1;rw[hp]at y;cases y
     . exact f2 z
 . cases hf⟩
theorem UD(h:Hl X es t Fl):PX X true (.List es pos) (OT t) (Aj Fl):=⟨Kz h.p,by
 intro O e8 as σ H ds pv Q S hf q;obtain⟨l,h1,hf⟩:=j6 hf;split at hf
 . rename_i hl;cases hf;refine h.t O e8 as σ H ds l _ S h1 λvs H1 R s1 n1 r1=>⟨?_,λp hp=>?_⟩
   . have:=r1.len;rw[sT,sT]at this;rw[this];exact lQ hl
   . refine q _ _ (s1.trans (i0.new hp)) ⟨p,p::R,rfl,.inl rfl,λb hb=>?_,vI vs,R,rfl,λz=>?_,by rw[SN];exact E8,r1.same (cy λb o z1 z2 z3=>⟨z1,λz=>?_,i0.new hp _ _ z3⟩) λb _ o z=>i0.new hp _ _ z⟩
     . rcases List.mem_cons.mp hb with rfl|hb
       . exact s1.free hp
       . exact n1 b hb
     . obtain⟨u,_,y⟩:=r1.at p z;rw[hp]at y;cases y
     . rcases List.mem_cons.mp z with z|z
       . cases z;rw[hp]at z3;cases z3
       . exact z2 z
 . cases hf⟩
def Yc:PF->Bool
 | .dat d=>LF d
 | .own l=>fE l
 | .dct _=>false
def wo(F:DV):DV:=λds=>(F ds).bind λpv=>match pv with
 | .ob w (.seq false fs)=>if (fs.all λf=>Yc f.2)=true then some (.ob w (.seq false fs))else none
 |_=>none
theorem M3.lf{K:i5}{Hv Hv' H:Hp}{fv:List (Str×V)}{fs:List (Str×PF)}{R:List Addr}(h:M3 K Hv H fv fs R)(e:∀a u,Hv a=some u->¬Cell u->Hv' a=some u):(fs.all λf=>Yc f.2)=true->M3 K Hv' H fv fs R:=by
 induction h with
 |nil=>exact λ_=>.nil
 |dat hd t ih=>intro z;simp only[fK,ek]at z;exact .dat (Dt.lf e hd z.1) (ih z.2)
 |own h1 h2 h3 t ih=>intro z;simp only[fK,ek]at z;exact .own h1 (o8.lf e h2 z.1) h3 (ih z.2)
 |dct h1 h2 h3 t ih=>intro z;simp only[fK,ek]at z;cases z.1
theorem UL(h:PX X false e te F):PX X true e te (wo F):=⟨h.p,by
 intro O e8 as σ H ds pv Q S hf q;obtain⟨p,h1,hf⟩:=j6 hf;split at hf
 . rename_i w fs;split at hf
   . rename_i hl;cases hf;refine h.t O e8 as σ H ds _ _ S h1 λv H1 s1 r1=>q v H1 s1 ?_
     obtain⟨o,R,e1,e2,e3,fv,y1,y2⟩:=r1;have tv:=λa u (z:m7 H1 (R.map some++U9 false as) O a=some u) hu=>S.OK s1 (cs:=R.map some++U9 true as) (bs:=R.map some++U9 false as) (λb z=>by
      rcases List.mem_append.mp z with z|z
      . exact .inl (ia _ z)
      . exact .inr (om z)) a u z hu
     refine⟨o,R,e1,e2,e3,fv,tv o _ y1 ?_,y2.lf tv hl⟩;rintro(⟨_,z⟩|⟨_,z⟩|⟨_,_,_,z⟩)<;>cases z
   . cases hf
 . cases hf⟩
end
theorem M3.pos{fv:List (Str×V)}{fs:List (Str×PF)}{n:Str}{l:List c5}(t:M3 K Hv H fv fs R):∀{k:Nat},fs[k]? = some (n,.own l) ->
  ∃a xs,fv[k]? = some (n,.ref a)/\H a=some (.lst xs)/\a∈R/\∀{Hv' H':Hp} {m:List c5} {ys:List V},i0 Hv Hv'->(∀b∈R,b≠a->∀o,H b=some o->H' b=some o)->H' a=some (.lst ys)->o8 K Hv' ys m->M3 K Hv' H' fv (fs.set k (n,.own m)) R:=by
 induction t with
 |nil=>intro k h;simp at h
 | @dat n' x d fv fs R hd t ih =>
  intro k h;cases k with
  |zero=>simp at h
  |succ k =>
   obtain⟨a,xs,i1,i2,i3,i4⟩:=ih (k:=k) (by simpa using h)
   exact⟨a,xs,by simpa using i1,i2,i3,λe e2 e3 e4=>.dat (hd.same e) (i4 e e2 e3 e4)⟩
 | @own n' a' xs' l' fv fs R h1 h2 h3 t ih =>
  intro k h;cases k with
  |zero =>
   have h':(n',PF.own l')=(n,PF.own l):=by simpa using h
   cases h';exact⟨a',xs',rfl,h1,B7,λe e2 e3 e4=>.own e3 e4 h3 (t.same e λb hb=>e2 b (A0 _ hb) λz=>h3 (z▸hb))⟩
  |succ k =>
   obtain⟨a,xs,i1,i2,i3,i4⟩:=ih (k:=k) (by simpa using h)
   exact⟨a,xs,by simpa using i1,i2,A0 _ i3,λe e2 e3 e4=>.own (e2 a' B7 (λz=>h3 (z▸i3)) _ h1) (h2.same e) h3 (i4 e (λb hb=>e2 b (A0 _ hb)) e3 e4)⟩
 | @dct n' a' kvs es fv fs R h1 h2 h3 t ih =>
  intro k h;cases k with
  |zero=>simp at h
  |succ k =>
   obtain⟨a,xs,i1,i2,i3,i4⟩:=ih (k:=k) (by simpa using h)
   exact⟨a,xs,by simpa using i1,i2,A0 _ i3,λe e2 e3 e4=>.dct (e2 a' B7 (λz=>h3 (z▸i3)) _ h1) (h2.same e) h3 (i4 e (λb hb=>e2 b (A0 _ hb)) e3 e4)⟩
def ownAt(i k:Nat)(ds:Ds):Option (Option Addr×Bool×List (Str×PF)×Str):=match ds[i]? with
 |some (some (.ob w (.seq b fs)))=>match fs[k]? with
  |some (n,.own _)=>some (w,b,fs,n)
  |_=>none
 |_=>none
theorem KG{i:Nat}{b:Bool}{fs:List (Str×PF)}{n:Str}(h:ownAt i k ds=some (w,b,fs,n)):ds[i]? = some (some (.ob w (.seq b fs)))/\∃l,fs[k]? = some (n,.own l):=by
 unfold ownAt at h;split at h
 . rename_i w' b' fs' hd;split at h
   . rename_i n' l hk;cases h;exact⟨hd,l,hk⟩
   . cases h
 . cases h
theorem DS.ZT{i:Nat}{b:Bool}{fs:List (Str×PF)}{n:Str}{l:List c5}(S:DS K O e8 as σ H ds)(hd:ds[i]? = some (some (.ob w (.seq b fs))))(hk:fs[k]? = some (n,.own l)):
  ∃v vs a xs,σ[i]? = some (some (.ref v))/\H v=some (if b=true then .lst vs else .tup vs)/\vs[k]? = some (.ref a)/\H a=some (.lst xs)/\v≠a/\vs.length=fs.length/\DS K O e8 as σ (upd H a (.lst [])) (ds.set i (some (.ob w (.seq b (fs.set k (n,.own [])))))):=by
 obtain⟨rg,r1,r2,r3⟩:=S.gp;obtain⟨v,R,e1,ew,hR,h⟩:=r3 i _ hd;have z2:∀{fv:List (Str×V)} {a:Addr},fv[k]? = some (n,.ref a)->(fv.map (·.2))[k]? = some (.ref a):=λ{fv a} z=>by rw[P5,z];rfl
 cases b with
 |true =>
  obtain⟨fv,R',rfl,nv,h2,h3⟩:=h;obtain⟨a,xs,p1,p2,p3,p4⟩:=h3.pos hk;have ne:v≠a:=λz=>nv (z▸p3)
  refine⟨v,fv.map (·.2),a,xs,e1,by rw[c7 rfl];exact h2,z2 p1,p2,ne,by rw[F9,h3.len],?_⟩
  refine S.vj (u:=Cl.l []) hd r1 r2 r3 (hR a (A0 _ p3)) λsm=>⟨v,v::R',e1,ew,hR,fv,R',rfl,nv,by rw[A3 ne];exact h2,p4 sm (λb _ nb o z=>by rw[A3 nb];exact z) E8 .nil⟩
 |false =>
  obtain⟨fv,h2,h3⟩:=h;obtain⟨a,xs,p1,p2,p3,p4⟩:=h3.pos hk;have h2':=o6 _ _ h2;have ne:v≠a:=λz=>by rw[z,p2]at h2';cases h2'
  refine⟨v,fv.map (·.2),a,xs,e1,by rw[c9 (by decide)];exact h2',z2 p1,p2,ne,by rw[F9,h3.len],?_⟩
  refine S.vj (u:=Cl.l []) hd r1 r2 r3 (hR a p3) λsm=>⟨v,R,e1,ew,hR,fv,sm _ _ h2,p4 sm (λb _ nb o z=>by rw[A3 nb];exact z) E8 .nil⟩
def qk(i k:Nat):DO:=λds=>(ownAt i k ds).bind λx=>some (.next (ds.set i (some (.ob x.1 (.seq x.2.1 (x.2.2.1.set k (x.2.2.2,.own [])))))))
section
variable{X:Cx}{o:Expr}{k:Nat}{j}{pos cpos apos ipos npos:Pos}
theorem AZ(i:Nat)(ho:PE X o (E9 i))(hbase:V8 (.Subscript o (.Constant (.int (k:Int)) j npos) ipos) "clear" X.env (eval (.Subscript o (.Constant (.int (k:Int)) j npos) ipos) X.env)=eval (.Subscript o (.Constant (.int (k:Int)) j npos) ipos) X.env:=by rfl)(hline:(apos.endLine==cpos.line)=true:=by rfl)(hs:aK (.Call (.Attribute (.Subscript o (.Constant (.int (k:Int)) j npos) ipos) "clear" apos) [] [] cpos) none pos.line X.env=pure false:=by rfl)(hx:jk (.Constant (.int (k:Int)) j npos):=by intro _ _;rfl):
  J3 X (.Expr (.Call (.Attribute (.Subscript o (.Constant (.int (k:Int)) j npos) ipos) "clear" apos) [] [] cpos) pos) (pT (OU X.K "list" vA (nA (yZ X.K) (E9 i) (tC (.int (k:Int)))))) (qk i k) :=
 ⟨lK (KC pH Oa NZ Bx (Ad vS ho KA hx) hbase hline) hs,by
 intro O e8 as σ H ds D r S h q;obtain⟨⟨w,b,fs,n⟩,h1,h⟩:=j6 h;cases h;obtain⟨hd,l,hk⟩:=KG h1;obtain⟨v,vs,a,xs,e1,e2,e3,e4,_,_,S'⟩:=S.ZT hd hk;have fin:Si X.K "list" (.ref a) H/\vA (.ref a) [] H (λ_ H1=>D.nx σ H1):=⟨.inl ⟨rfl,xs,D9.of e4⟩,a,xs,rfl,rfl,e4,q as σ _ S'⟩
 refine⟨_,e1,?_⟩;cases b with
 |true=>exact .inl ⟨v,vs,k,.ref a,rfl,rfl,D9.of e2,Hg e3,fin⟩
 |false=>exact .inr (.inl ⟨v,vs,k,.ref a,rfl,rfl,N6.of e2,Hg e3,fin⟩)⟩
end
def kO(k:Nat)(fs:List (Str×PF)):List (Str×PF):=(fs.take k).map (λf=>(f.1,PF.own []))++fs.drop k
def Yr:PF->Bool
 | .own _=>true
 |_=>false
theorem RM{fs:List (Str×PF)}(h:k<fs.length):(kO k fs)[k]? = some fs[k]/\(kO k fs).set k (fs[k].1,.own [])=kO (k+1) fs:=by
 have hl:((fs.take k).map (λf=>(f.1,PF.own []))).length=k:=by rw[F9,pB];lia
 delta kO;constructor
 . rw[sF (by lia),hl,CT,nU h]
   rfl
 . rw[List.set_append_right _ _ (by lia),hl,CT,nU h,V9,List.take_succ_eq_append_getElem h,hV,List.append_assoc]
   rfl
def tG(i j:Nat):DO:=λds=>match ds[i]? with
 |some (some (.ob w (.seq true fs)))=>if (i≠j/\j<ds.length)/\(fs.all λf=>Yr f.2)=true then some (.next ((ds.set i (some (.ob w (.seq true (fs.map λf=>(f.1,PF.own [])))))).set j none))else none
 |_=>none
theorem DS.FF(S:DS K O e8 as σ H ds)(j:Nat)(x:Option V):DS K O e8 as (σ.set j x) H (ds.set j none):=by
 refine S.slots (by rw[mQ,mQ,S.ls]) λi pv h=>?_
 by_cases c:j=i
 . subst c;rw[mW]at h;split at h
   . split at h<;>cases h
   . exact absurd rfl ‹_›
 . rw[aD c]at h;exact⟨pv,h,λrg z=>by rw[aD c];exact z⟩
section
variable{X:Cx}{tg o e:Expr}{pos cpos apos epos:Pos}{i j:Nat}
theorem HS(hp:oW (model X.prog X.w) X.A X.env X.xe)(hc:X.calm=true)(ho:PE X o (E9 i))(hg:PG X tg (Y8 j))(he:PE X e (E9 j))(hbase:V8 e "clear" X.env (eval e X.env)=eval e X.env:=by rfl)(hline:(apos.endLine==cpos.line)=true:=by rfl)(hs:aK (.Call (.Attribute e "clear" apos) [] [] cpos) none epos.line X.env=pure false:=by rfl)(hs2:∀x,eu o X.env x=pure x:=by intro _;rfl):
  J3 X (.For tg o [.Expr (.Call (.Attribute e "clear" apos) [] [] cpos) epos] [] pos) (Hx (IP X.K (E9 i)) (Y8 j) (pT (OU X.K "list" vA (E9 j)))) (tG i j) :=
 ⟨Kp hp hc (Kv ho) hg (FU (lK (KC pH Oa NZ Bx he hbase hline) hs)) hs2,by
 intro O e8 as σ H ds D r S h q;unfold tG at h;split at h
 . rename_i w fs hd;split at h
   . rename_i hij;obtain⟨⟨hij,hjd⟩,ho'⟩:=hij;cases h;obtain⟨v,R,e1,ew,hR,fv,R',rfl,nv,h2,h3⟩:=S.slot i _ hd;have hl:(fv.map (·.2)).length=fs.length:=by rw[F9,h3.len]
     have hli:i<ds.length:=by
      rcases CS i ds.length with z|z
      . exact z
      . rw[lC z]at hd;cases hd
     refine⟨_,e1,v,rfl,.inl ⟨⟨_,D9.of h2⟩,?_⟩⟩;refine Rj (a:=v) (xs:=fv.map (·.2)) (λk σ' H'=>DS X.K O e8 as σ' H' ((ds.set i (some (.ob w (.seq true (kO k fs))))).set j none)/\σ'[i]? = some (some (.ref v))/\H' v=some (.lst (fv.map (·.2)))) ?_ (λk σ' H' _ z=>D9.of z.2.2) (λk x σ' H' hx z=>?_) λσ' H' z=>?_
     . refine⟨?_,e1,h2⟩;have e0:ds.set i (some (.ob w (.seq true (kO 0 fs))))=ds:=by
        have:kO 0 fs=fs:=rfl;rw[this];apply Ni;intro m;by_cases c:i=m
        . subst c;rw[nT hli,hd]
        . rw[aD c]
       rw[e0];have:=S.FF j (σ[j]?.getD none);have e0:σ.set j (σ[j]?.getD none)=σ:=by
        apply Ni;intro m;by_cases c:j=m
        . subst c;rw[mW];rw[c7 rfl];split
          . rename_i hj;rw[G0 hj];rfl
          . rename_i hj;rw[lC (by lia)]
        . rw[aD c]
       rw[e0]at this;exact this
     . obtain⟨S1,z1,z2⟩:=z;have hk:k<fs.length:=by
        rcases CS k fs.length with y|y
        . exact y
        . rw[lC (by lia)]at hx;cases hx
       obtain⟨g1,g2⟩:=RM hk;have hown:∃l,fs[k]=(fs[k].1,PF.own l):=by
        have:=List.all_eq_true.mp ho' fs[k] (iA hk);generalize fs[k]=p at this;obtain⟨n,p⟩:=p;cases p with
        |own l=>exact⟨l,rfl⟩
        |dat d=>cases this
        |dct d=>cases this
       obtain⟨l,hown⟩:=hown;have hd1:((ds.set i (some (.ob w (.seq true (kO k fs))))).set j none)[i]? = some (some (.ob w (.seq true (kO k fs)))):=by rw[aD (λy=>hij y.symm),nT hli]
       have hk1:(kO k fs)[k]? = some (fs[k].1,.own l):=by rw[g1];exact E6 some hown
       obtain⟨v',vs,a,xs,q1,q2,q3,q4,q5,q6,S2⟩:=S1.ZT hd1 hk1;rw[z1]at q1;cases q1;rw[c7 rfl,z2]at q2;cases q2;rw[q3]at hx;cases hx;rw[g2,List.set_comm _ _ (λy=>hij y.symm),List.set_set]at S2
       have hjl:j<σ'.length:=by rw[S1.ls,mQ,mQ];exact hjd
       refine⟨_,nT hjl,.inl ⟨rfl,xs,D9.of q4⟩,a,xs,rfl,rfl,q4,?_⟩;refine⟨?_,by rw[aD (λy=>hij y.symm)];exact z1,by rw[A3 q5];exact z2⟩
       have:=S2.FF j (some (.ref a));rw[List.set_set]at this;exact this
     . rw[hl]at z;have e2:kO fs.length fs=fs.map λf=>(f.1,PF.own []):=by delta kO;rw[List.take_length,DF,cX]
       have z1:=z.1;rw[e2]at z1;exact q as σ' H' z1
   . cases h
 . cases h⟩
end
end
def SE:List V->Hp->VK->Prop:=λxs H Q=>∃j,xs=[.int j]/\∀p,H p=none->Q (.ref p) (upd H p (.rng 0 j))
def AR:List V->Hp->VK->Prop:=λxs H Q=>∃p j,xs=[.ref p]/\H p=some (.rng 0 j)/\(0<=j/\j<=1000)/\∀l,H l=none->Q (.ref l) (upd H l (.lst ((v8 j.toNat).map λk=>.int (k:Nat))))
section
variable{X:Cx}
theorem MB:T9 X (.type "range") SE:=by
 intro pins s σ H xs us Q I r h;obtain⟨j,rfl,q⟩:=h;obtain⟨u,rfl,t,rfl⟩:=vals1 r;refine call_range_1 ⟨.ref s.heap.objs.size,_,I.laid (t':=s.toks+1+1) (λb u e=>E5 _ e) (l5 _) ?_,rfl,q _ (I.A7.fresh (l5 _))⟩
 exact⟨_,_,_,S7 _ rfl⟩
theorem OE:∀(us:List c8) (n:Nat),us.length=n->(∀(j:Nat) (v:c8),us[j]? = some v->∃t,v=.int (0+j*1) t)->Vals ((v8 n).map λk=>V.int (k:Nat)) us:=by
 have key:∀(us:List c8) (n m:Nat),us.length=n->(∀(j:Nat) (v:c8),us[j]? = some v->∃t,v=.int ((m+j:Nat):Int) t)->Vals ((List.range' m n).map λk=>V.int (k:Nat)) us:=by
  intro us;induction us with
  |nil=>intro n m e _;subst e;exact .nil
  |cons v r ih =>
   intro n m e h;subst e;rw[O1,Na,o5];refine .cons (h 0 v rfl) (ih _ (m+1) rfl λj v hj=>?_)
   obtain⟨t,ht⟩:=h (j+1) v hj;exact⟨t,ht.trans (by congr 1;lia)⟩
 intro us n e h;rw[NL];refine key us n 0 e λj v hj=>?_
 obtain⟨t,ht⟩:=h j v hj;exact⟨t,ht.trans (by congr 1;lia)⟩
theorem Cv(hh:X.A.handled=none):T9 X (.type "list") AR:=by
 intro pins s σ H xs us Q I r h;obtain⟨p,j,rfl,hp,hj,q⟩:=h;obtain⟨u,rfl,rx⟩:=vals1 r;cases rx;obtain⟨t,u,v,e⟩:=(show V3 X.prog X.w H s.heap p (.rng 0 j)from I.A7 p _ hp)
 have hn:Oe 0 j 1=(j.toNat:Int):=by rw[rangeSize_one];split<;>lia
 refine call_list_range hh e (small_one (by lia) (by lia) (by lia) (by lia)) hn (by lia) λh' tk acc c hk hD hI=>?_
 refine⟨.ref s.heap.objs.size,_,I.laid (t':=tk) hk (l5 _) (show V3 X.prog X.w _ h' _ (.lst _)from⟨?_,acc.toList,c,?_,by rw[Array.toArray_toList];exact hD⟩),rfl,q _ (I.A7.fresh (l5 _))⟩
 . rw[F9,ku];exact lQ (by lia)
 . exact OE _ _ (by rw[xA];exact hI.1) λj v hj=>hI.2 j v (by rw[<-hj,Array.getElem?_toList])
def uO(F:DV):DV:=λds=>(F ds).bind λpv=>match pv.d with
 | .int j=>if 0<=j/\j<=1000 then some (.own ((v8 j.toNat).map λk=>.int (k:Nat)))else none
 |_=>none
theorem HN{fr:Bool}{e:Expr}{te:TE}{F:DV}{p p2 pos pos2:Pos}(hh:X.A.handled=none)(hg:Gl X "list")(hm:X.mg "list" = none)(hv:ej "list" = some (.type "list"))(hg2:Gl X "range")(hm2:X.mg "range" = none)(hv2:ej "range" = some (.type "range"))(h:PX X fr e te F)(he:j4 [.Call (.Name "range" p2) [e] [] pos2] X.env=(false,eval (.Call (.Name "range" p2) [e] [] pos2) X.env)::j4 [] X.env:=by rfl)(hpl:(A9 pos (j4 [] X.env)).any (·.1)=false:=by rfl)(he2:j4 [e] X.env=(false,eval e X.env)::j4 [] X.env:=by rfl)(hpl2:(A9 pos2 (j4 [] X.env)).any (·.1)=false:=by rfl):
  PX X fr (.Call (.Name "list" p) [.Call (.Name "range" p2) [e] [] pos2] [] pos) (vn AR (cP (vn SE (cP te gI)) gI)) (uO F) :=
 ⟨qX (Cv hh) hg hm hv (bD (qX MB hg2 hm2 hv2 (bD h.p gR he2) (by decide) (by decide) he2 hpl2) gR he) (by decide) (by decide) he hpl,by
 intro O e8 as σ H ds pv Q S hf q;obtain⟨w,h1,hf⟩:=j6 hf;refine h.t O e8 as σ H ds w _ S h1 λv H1 s1 r1=>?_
 have dv:=r1.dt S.dm;generalize w.d=z at hf dv;cases dv with
 |int j =>
  simp only at hf;split at hf
  . rename_i hj;cases hf;refine⟨j,rfl,λp hp=>⟨p,j,rfl,E8,hj,λl hl=>?_⟩⟩
    have s2:=i0.new (o:=HO.rng 0 j) hp;refine q _ _ ((s1.trans s2).trans (i0.new hl)) (RX.back (fk hl ?_) (s1.trans s2));generalize v8 j.toNat=rs;induction rs with
    |nil=>exact .nil
    |cons a t ih=>exact .cons (.int _) ih
  . cases hf
 |_=>cases hf⟩
end
section
variable{X:Cx}{K':i5}{fr:Bool}{tg b e o:Expr}{tb te:TE}{F Fb:DV}{pos:Pos}
theorem UJ(eK:X.K=K')(i:Nat)(ho:PE X o (E9 i))(hb:PX X fr b tb Fb)(hs:jk b:=by intro _ _;rfl):PX X fr (.Subscript o b pos) (nA (yZ K') (E9 i) tb) (uP i Fb):=by subst eK;exact Xh i ho hb hs
theorem Qg(eK:X.K=K')(h:PX X fr e te F):jU X fr tg e (IP K' te) (F7 F):=by subst eK;exact Ve h
theorem Kc {to:TE} {t:TA} {Fo:DV} {Fl:DL} {apos cpos:Pos} (eK:X.K=K') (ho:PX X fr o to Fo) (ha:eU X fr [e] t Fl) (hbase:V8 o "index" X.env (eval o X.env)=eval o X.env:=by rfl) (hfew:((A9 cpos (j4 [e] X.env)).all (λx=>!x.1)&&(aw cpos (cq [] X.env)).all (λx=>x.1.isSome)
   && decide ([e].length+([]:List W8).length+(if ([]:List W8).isEmpty then 0 else 1)<30))=true:=by rfl)
  (hline:(apos.endLine==cpos.line)=true:=by rfl) (hs:j4 [e] X.env=(false,eval e X.env)::j4 [] X.env:=by rfl) (hplain:(A9 cpos (j4 [] X.env)).any (·.1)=false:=by rfl) :
  PX X fr (.Call (.Attribute o "index" apos) [e] [] cpos) (Fq K' "list" (AS K') to t) (lr jQ Fo Fl):=by subst eK;exact Py ho ha hbase hfew hline hs hplain
end
end L2
section
local macro_rules | `(#[]) => `(by decide)
local macro_rules | `(∅) => `(by lia)
local macro_rules | `(tactic| symm) => `(tactic| walk_at "r")
namespace Sx
def sm:Nat->(Nat->Int)->Int
 | 0,_=>0
 |n+1,f=>sm n f+f n
theorem k9{n:Nat}{f g:Nat->Int}(h:∀i,i<n->f i=g i):sm n f=sm n g:=by
 induction n with
 |zero=>rfl
 |succ n ih=>rw[sm,sm,ih λi hi=>h i ∅,h n ∅]
theorem gm{n:Nat}{f:Nat->Int}(h:∀i,i<n->f i=0):sm n f=0:=by
 induction n with
 |zero=>rfl
 |succ n ih=>rw[sm,ih λi hi=>h i ∅,h n ∅];rfl
theorem gK(n:Nat)(f g:Nat->Int):sm n (λi=>f i+g i)=sm n f+sm n g:=by
 induction n with
 |zero=>rfl
 |succ n ih=>rw[sm,sm,sm,ih];lia
theorem C6(n:Nat)(a:Int)(f:Nat->Int):sm n (λi=>a*f i)=a*sm n f:=by
 induction n with
 |zero=>rw[sm,sm,K9]
 |succ n ih=>rw[sm,sm,ih,iq]
theorem Fz(n:Nat)(a:Int)(f:Nat->Int):sm n (λi=>f i*a)=sm n f*a:=by rw[D4,<-C6];exact k9 λi _=>D4 _ _
theorem P8{n k:Nat}{f:Nat->Int}(hk:k<n)(h:∀i,i<n->i≠k->f i=0):sm n f=f k:=by
 induction n with
 |zero=>lia
 |succ n ih =>
  rw[sm];by_cases c:k=n
  . subst c;rw[gm λi hi=>h i ∅ ∅]
    lia
  . rw[ih ∅ λi hi hk=>h i ∅ hk,h n ∅ λz=>c z.symm]
    lia
theorem WE{n k:Nat}{f:Nat->Int}(hk:k+1<n)(h:∀i,i<n->i≠k->i≠k+1->f i=0):sm n f=f k+f (k+1):=by
 induction n with
 |zero=>lia
 |succ n ih =>
  rw[sm];by_cases c:k+1=n
  . subst c;rw[P8 (k:=k) ∅ λi hi hk=>h i ∅ hk ∅]
  . rw[ih ∅ λi hi h1 h2=>h i ∅ h1 h2,h n ∅ ∅ λz=>c z.symm]
    lia
theorem ou(n m:Nat)(f:Nat->Nat->Int):sm n (λi=>sm m λj=>f i j)=sm m λj=>sm n λi=>f i j:=by
 induction n with
 |zero=>rw[sm];exact(gm λ_ _=>rfl).symm
 |succ n ih =>
  rw[sm,ih,<-gK];exact k9 λj _=>by rw[sm]
theorem gJ(n:Nat)(f g:Nat->Int):sm n (λi=>f i-g i)=sm n f-sm n g:=by
 have e:(λi=>f i-g i)=λi=>f i+(-1)*g i:=by funext i;lia
 rw[e,gK,C6];lia
theorem vp{n k:Nat}(f:Nat->Int)(hk:k<n):sm n f=f k+sm n λi=>if i=k then 0 else f i:=by
 have:sm n f=sm n λi=>(if i=k then f k else 0)+(if i=k then 0 else f i):=k9 λi _=>by
  by_cases c:i=k
  . rw[c7 c,c7 c,c];lia
  . rw[c9 c,c9 c];lia
 rw[this,gK,P8 hk λi _ h=>by rw[c9 h],c7 rfl]
def skip(j c:Nat):Nat:=if c<j then c else c+1
def det:Nat->(Nat->Nat->Int)->Int
 | 0,_=>1
 |n+1,M=>sm (n+1) λj=>(-1) ^ j*M j 0*det n λc r=>M (skip j c) (r+1)
theorem Uq{j c n:Nat}(hj:j<n+1)(hc:c<n):skip j c<n+1:=by delta skip;split<;>lia
theorem Up{j c:Nat}:skip j c≠j:=by delta skip;split<;>lia
theorem Q0:∀{n:Nat} {M M':Nat->Nat->Int},(∀c r,c<n->r<n->M c r=M' c r)->det n M=det n M'
 | 0,_,_,_=>rfl
 |n+1,M,M',h=>by
  rw[det,det];refine k9 λj hj=>?_
  rw[h j 0 hj ∅,Q0 λc r hc hr=>h _ _ (Uq hj hc) ∅]
def v7(M:Nat->Nat->Int)(k:Nat)(v:Nat->Int):Nat->Nat->Int:=λc r=>if c=k then v r else M c r
theorem ak(M:Nat->Nat->Int)(k:Nat)(v:Nat->Int)(r:Nat):v7 M k v k r=v r:=by delta v7;rw[c7 rfl]
theorem W2(M:Nat->Nat->Int){k c:Nat}(v:Nat->Int)(r:Nat)(h:c≠k):v7 M k v c r=M c r:=by delta v7;rw[c9 h]
def back(j k:Nat):Nat:=if k<j then k else k-1
theorem yU{j k:Nat}(h:k≠j):skip j (back j k)=k:=by
 delta back;by_cases c:k<j
 . rw[c7 c];delta skip;rw[c7 c]
 . rw[c9 c];delta skip;rw[c9 ∅];lia
theorem VU{j k n:Nat}(hj:j<n+1)(hk:k<n+1)(h:k≠j):back j k<n:=by delta back;split<;>lia
theorem OZ{j c d:Nat}(h:skip j c=skip j d):c=d:=by unfold skip at h;split at h<;>split at h<;>lia
theorem oO:∀{n k:Nat} (M:Nat->Nat->Int) (a b:Int) (u v:Nat->Int),k<n->det n (v7 M k λr=>a*u r+b*v r)=a*det n (v7 M k u)+b*det n (v7 M k v)
 | 0,k,M,a,b,u,v,h=>by lia
 |n+1,k,M,a,b,u,v,h=>by
  rw[det,det,det,<-C6,<-C6,<-gK];refine k9 λj hj=>?_
  by_cases c:k=j
  . subst c;have e:∀w:Nat->Int,det n (λc r=>v7 M k w (skip k c) (r+1))=det n (λc r=>M (skip k c) (r+1)):=λw=>Q0 λc r _ _=>W2 _ _ _ Up
    rw[e,e,e,ak,ak,ak];generalize det n _=D;generalize (-1:Int) ^ k=s;rw[iq,wN]
    congr 1
    . rw[<-H9,<-H9,<-H9,D4 s a]
    . rw[<-H9,<-H9,<-H9,D4 s b]
  . have e:∀w:Nat->Int,det n (λc r=>v7 M k w (skip j c) (r+1))=det n (v7 (λc r=>M (skip j c) (r+1)) (back j k) λr=>w (r+1)):=λw=>Q0 λc' r _ _=>by
      delta v7;by_cases d:c'=back j k
      . rw[c7 d,d,yU c,c7 rfl]
      . rw[c9 d,c9 λz=>d (OZ (j:=j) (by rw[z,yU c]))]
    rw[e,e,e,W2 _ _ _ (λz=>c z.symm),W2 _ _ _ (λz=>c z.symm),W2 _ _ _ (λz=>c z.symm),oO _ a b (λr=>u (r+1)) (λr=>v (r+1)) (VU hj h c)]
    generalize det n _=D;generalize det n _=D';generalize (-1:Int) ^ j*M j 0=s;rw[iq]
    congr 1
    . rw[<-H9,<-H9,D4 s a]
    . rw[<-H9,<-H9,D4 s b]
theorem tK:∀{n k:Nat} {M:Nat->Nat->Int},k+1<n->(∀r,r<n->M k r=M (k+1) r)->det n M=0
 | 0,k,M,h,_=>by lia
 |n+1,k,M,h,e=>by
  rw[det,WE (k:=k) h]
  . have e2:det n (λc r=>M (skip k c) (r+1))=det n (λc r=>M (skip (k+1) c) (r+1)):=Q0 λc r _ hr=>by
      by_cases d:c=k
      . subst d;rw[show skip c c=c+1 from by delta skip;rw[c9 ∅],show skip (c+1) c=c from by delta skip;rw[c7 ∅]]
        exact(e _ ∅).symm
      . rw[show skip k c=skip (k+1) c from by delta skip;split<;>split<;>lia]
    rw[e2,e 0 ∅,Int.pow_succ];generalize det n _=D;generalize (-1:Int) ^ k=s;rw[Int.mul_neg_one,mI,mI]
    lia
  . intro j hj h1 h2;have:det n (λc r=>M (skip j c) (r+1))=0:=by
     by_cases c:j<k
     . refine tK (k:=k-1) ∅ λr hr=>?_
       rw[show skip j (k-1)=k from by delta skip;rw[c9 ∅];lia,show skip j (k-1+1)=k+1 from by delta skip;rw[c9 ∅];lia]
       exact e _ ∅
     . refine tK (k:=k) ∅ λr hr=>?_
       rw[show skip j k=k from by delta skip;rw[c7 ∅],show skip j (k+1)=k+1 from by delta skip;rw[c7 ∅]]
       exact e _ ∅
    rw[this,K9]
theorem lN(M:Nat->Nat->Int)(k:Nat):v7 M k (M k)=M:=by
 funext c r
 delta v7;by_cases h:c=k
 . rw[c7 h,h]
 . rw[c9 h]
theorem JC(M:Nat->Nat->Int)(k:Nat)(u v:Nat->Int):v7 (v7 M k u) k v=v7 M k v:=by
 funext c r
 delta v7;by_cases h:c=k
 . rw[c7 h,c7 h]
 . rw[c9 h,c9 h,c9 h]
theorem fT(M:Nat->Nat->Int){k l:Nat}(u v:Nat->Int)(h:k≠l):v7 (v7 M k u) l v=v7 (v7 M l v) k u:=by
 funext c r
 delta v7;by_cases h1:c=l
 . rw[c7 h1,c9 ∅,c7 h1]
 . rw[c9 h1];by_cases h2:c=k
   . rw[c7 h2,c7 h2]
   . rw[c9 h2,c9 h2,c9 h1]
theorem yD{n k:Nat}(M:Nat->Nat->Int)(u v:Nat->Int)(h:k<n):det n (v7 M k λr=>u r+v r)=det n (v7 M k u)+det n (v7 M k v):=by have:=oO (n:=n) (k:=k) M 1 1 u v h;simpa using this
theorem uc{n i j:Nat}(hi:i<n)(hj:j<n)(hij:i≠j)(M:Nat->Nat->Int)(z:∀w,det n (v7 (v7 M i w) j w)=0)(u v:Nat->Int):det n (v7 (v7 M i u) j v) = - det n (v7 (v7 M i v) j u):=by
 have h:=z λr=>u r+v r
 rw[yD _ _ _ hj,fT _ _ _ hij,fT _ _ _ hij,yD _ _ _ hi,yD _ _ _ hi,fT _ _ _ hij.symm,fT _ _ _ hij.symm,fT _ _ _ hij.symm,fT _ _ _ hij.symm,z u,z v]at h
 lia
theorem uT:∀(d:Nat) {n a:Nat} {M:Nat->Nat->Int},a+d+1<n->(∀r,r<n->M a r=M (a+d+1) r)->det n M=0
 | 0,n,a,M,h,e=>tK h e
 |d+1,n,a,M,h,e=>by
  have hh:M=v7 (v7 M (a+d+1) (M (a+d+1))) (a+d+1+1) (M (a+d+1+1)):=by rw[lN,lN]
  rw[hh,uc ∅ ∅ ∅ M (λw=>tK (k:=a+d+1) ∅ λr _=>by rw[W2 _ _ _ ∅,ak,ak])]
  rw[uT d (a:=a) ∅ λr hr=>?_]
  . rfl
  . rw[W2 _ _ _ ∅,W2 _ _ _ ∅,W2 _ _ _ ∅,ak];exact e r hr
theorem qq{n i j:Nat}{M:Nat->Nat->Int}(hi:i<n)(hj:j<n)(hij:i≠j)(e:∀r,r<n->M i r=M j r):det n M=0:=by
 rcases CS i j with h|h
 . refine uT (j-i-1) (a:=i) ∅ λr hr=>?_
   rw[show i+(j-i-1)+1=j from by lia]
   exact e r hr
 . refine uT (i-j-1) (a:=j) ∅ λr hr=>?_
   rw[show j+(i-j-1)+1=i from by lia]
   exact(e r hr).symm
theorem Rr{n i j:Nat}(hi:i<n)(hj:j<n)(hij:i≠j)(M:Nat->Nat->Int)(u v:Nat->Int):det n (v7 (v7 M i u) j v) = - det n (v7 (v7 M i v) j u) :=
 uc hi hj hij M (λw=>qq hi hj hij λr _=>by rw[W2 _ _ _ hij,ak,ak]) u v
theorem yA{n k:Nat}(M:Nat->Nat->Int)(h:k<n)(a:Nat->Int)(V:Nat->Nat->Int):∀m,det n (v7 M k λr=>sm m λi=>a i*V i r)=sm m λi=>a i*det n (v7 M k (V i))
 | 0=>by
  have:=oO (n:=n) M 0 0 (λ_=>0) (λ_=>0) h
  simp only[V6,mK]at this;exact this
 |m+1=>by
  have:=oO (n:=n) M 1 (a m) (λr=>sm m λi=>a i*V i r) (V m) h
  simp only[cU]at this;show det n (v7 M k λr=>sm m (λi=>a i*V i r)+a m*V m r)=sm m (λi=>a i*det n (v7 M k (V i)))+a m*det n (v7 M k (V m))
  rw[this,yA M h a V m]
theorem yB:∀n,det n (λc r=>if c=r then 1 else 0)=1
 | 0=>rfl
 |n+1=>by
  rw[det,P8 (k:=0) ∅]
  . have e:det n (λc r=>if skip 0 c=r+1 then 1 else 0)=det n (λc r=>if c=r then 1 else 0):=Q0 λc r _ _=>by
      rw[show skip 0 c=c+1 from by delta skip;rw[c9 ∅]]
      by_cases h:c=r
      . rw[c7 h,c7 ∅]
      . rw[c9 h,c9 ∅]
    rw[e,yB n,c7 rfl];rfl
  . intro j _ hj;rw[c9 hj,K9,V6]
def sN:Nat->(Nat->Nat)->Nat
 | 0,_=>0
 |n+1,f=>sN n f+f n
def pN:Nat->(Nat->Nat)->Nat
 | 0,_=>1
 |n+1,f=>pN n f*f n
theorem JU(n:Nat)(f:Nat->Int):(sm n f).natAbs<=sN n λi=>(f i).natAbs:=by
 induction n with
 |zero=>exact l5 _
 |succ n ih =>
  rw[sm,sN];exact P4 (DI _ _) (NJ ih _)
theorem Ac{n:Nat}{f g:Nat->Nat}(h:∀i,i<n->f i<=g i):sN n f<=sN n g:=by
 induction n with
 |zero=>exact l5 _
 |succ n ih=>exact Nat.add_le_add (ih λi hi=>h i ∅) (h n ∅)
theorem Zt{n:Nat}{f g:Nat->Nat}(h:∀i,i<n->f i<=g i):pN n f<=pN n g:=by
 induction n with
 |zero=>exact l5 _
 |succ n ih=>exact xa (ih λi hi=>h i ∅) (h n ∅)
theorem Qv{n:Nat}{f g:Nat->Nat}(h:∀i,i<n->f i=g i):pN n f=pN n g:=by
 induction n with
 |zero=>rfl
 |succ n ih=>rw[pN,pN,ih λi hi=>h i ∅,h n ∅]
theorem Uv(n:Nat)(f:Nat->Nat):sN (n+1) f=f 0+sN n λi=>f (i+1):=by
 induction n with
 |zero=>rw[sN,sN,sN];lia
 |succ n ih=>rw[sN,ih,sN];lia
theorem Uw(n a:Nat)(f:Nat->Nat):sN n (λi=>f i*a)=sN n f*a:=by
 induction n with
 |zero=>rw[sN,sN,Nat.zero_mul]
 |succ n ih=>rw[sN,sN,ih,CO]
theorem Ba(x y:Nat->Nat):∀n,sN (n+1) (λj=>x j*pN n λc=>y (skip j c))<=pN (n+1) λc=>x c+y c
 | 0=>by simp[sN,pN]
 |n+1=>by
  rw[sN];have e1:sN (n+1) (λj=>x j*pN (n+1) λc=>y (skip j c))<=sN (n+1) λj=>(x j*pN n λc=>y (skip j c))*y (n+1):=Ac λj hj=>by
   rw[pN,show skip j n=n+1 from by delta skip;rw[c9 ∅],Df]
   exact l5 _
  rw[Uw]at e1;have e2:pN (n+1) (λc=>y (skip (n+1) c))=pN (n+1) y:=Qv λc hc=>by rw[show skip (n+1) c=c from by delta skip;rw[c7 hc]]
  have e3:pN (n+1) y<=pN (n+1) λc=>x c+y c:=Zt λc _=>by lia
  have e4:=Ba x y n;rw[e2];refine P4 (NJ e1 _) ?_;show _<=(pN (n+1) λc=>x c+y c)*(x (n+1)+y (n+1))
  rw[CN,Nat.add_comm,ph (x (n+1))];exact Nat.add_le_add (mZ _ e3) (mZ _ e4)
theorem zF:∀(n:Nat) (M:Nat->Nat->Int),(det n M).natAbs<=pN n λc=>sN n λr=>(M c r).natAbs
 | 0,M=>by simp[det,pN]
 |n+1,M=>by
  rw[det];refine P4 (JU _ _) ?_;have e:(λc=>sN (n+1) λr=>(M c r).natAbs)=λc=>(M c 0).natAbs+sN n λr=>(M c (r+1)).natAbs:=by funext c;rw[Uv]
  rw[e];refine P4 (Ac λj hj=>?_) (Ba (λc=>(M c 0).natAbs) (λc=>sN n λr=>(M c (r+1)).natAbs) n)
  rw[aN,aN];have:((-1:Int) ^ j).natAbs=1:=by rw[Int.natAbs_pow];simp
  rw[this,Nat.one_mul];exact xx _ (zF n _)
end Sx
namespace Sx
structure Pb where
 m:Nat
 n:Nat
 A:Nat->Nat->Int
 b:Nat->Int
 u:Nat->Option Int
 c:Nat->Nat->Int
structure Tb where
 B:Nat->Nat
 full:Nat->Bool
 size:Int
 inv:Nat->Nat->Int
 pr:Nat->Nat->Int
 rt:Nat->Int
def dot(m:Nat)(x y:Nat->Int):Int:=sm m λr=>x r*y r
theorem jS{m:Nat}{x y x' y':Nat->Int}(h:∀r,r<m->x r=x' r)(h':∀r,r<m->y r=y' r):dot m x y=dot m x' y':=k9 λr hr=>by rw[h r hr,h' r hr]
theorem oN(m l:Nat)(x:Nat->Int)(a:Nat->Int)(V:Nat->Nat->Int):dot m x (λr=>sm l λi=>a i*V i r)=sm l λi=>a i*dot m x (V i):=by
 delta dot;have:sm m (λr=>x r*sm l λi=>a i*V i r)=sm m λr=>sm l λi=>a i*(x r*V i r):=k9 λr _=>by rw[<-C6];exact k9 λi _=>by rw[<-H9,<-H9,D4 (x r)]
 rw[this,ou];exact k9 λi _=>C6 _ _ _
theorem GY(m:Nat)(a:Int)(x y:Nat->Int):dot m (λr=>a*x r) y=a*dot m x y:=by delta dot;rw[<-C6];exact k9 λr _=>H9 _ _ _
theorem uS(m:Nat)(a:Int)(x y:Nat->Int):dot m x (λr=>a*y r)=a*dot m x y:=by delta dot;rw[<-C6];exact k9 λr _=>by rw[<-H9,<-H9,D4 a]
theorem GW(m:Nat)(x y z:Nat->Int):dot m x (λr=>y r-z r)=dot m x y-dot m x z:=by delta dot;rw[<-gJ];exact k9 λr _=>Int.mul_sub _ _ _
def unit(q:Nat):Nat->Int:=λp=>if p=q then 1 else 0
theorem qp{m q:Nat}(x:Nat->Int)(h:q<m):dot m x (unit q)=x q:=by
 delta dot;rw[P8 h λi _ hi=>by delta unit;rw[c9 hi,K9]]
 delta unit;rw[c7 rfl,cH]
theorem Jz{m p:Nat}(x:Nat->Int)(h:p<m):(sm m λq=>x q*unit q p)=x p:=by
 rw[P8 h λi _ hi=>by delta unit;rw[c9 (λz=>hi z.symm),K9]]
 delta unit;rw[c7 rfl,cH]
theorem JD{m k:Nat}{M:Nat->Nat->Int}{v w:Nat->Int}(h:∀p,p<m->v p=w p):det m (v7 M k v)=det m (v7 M k w):=Q0 λc r _ hr=>by
 delta v7;split
 . exact h r hr
 . rfl
def Tb.M(P:Pb)(T:Tb):Nat->Nat->Int:=λk=>P.A (T.B k)
structure J7(P:Pb)(T:Tb):Prop where
 bn:∀k,k<P.m->T.B k<P.n
 inj:∀k l,k<P.m->l<P.m->T.B k=T.B l->k=l
 sg:∃s:Int,(s=1\/s = -1)/\s*T.size=det P.m (T.M P)/\∀r,r<P.m->∀x,s*dot P.m (T.inv r) x=det P.m (v7 (T.M P) r x)
 pos:0<T.size
 span:∀p q,p<P.m->q<P.m->sm P.m (λk=>T.inv k q*P.A (T.B k) p)=if p=q then T.size else 0
 pr:∀t q,q<P.m->T.pr t q=sm P.m λk=>P.c t (T.B k)*T.inv k q
theorem sO{s:Int}(h:s=1\/s = -1):s*s=1:=by rcases h with h|h<;>rw[h]<;>rfl
section
variable{P:Pb}{T:Tb}
theorem J7.left(L:J7 P T){r k:Nat}(hr:r<P.m)(hk:k<P.m):dot P.m (T.inv r) (P.A (T.B k))=if r=k then T.size else 0:=by
 obtain⟨s,h1,h2,h3⟩:=L.sg;have e:=h3 r hr (P.A (T.B k));have key:s*dot P.m (T.inv r) (P.A (T.B k))=s*(if r=k then T.size else 0):=by
  rw[e];by_cases c:r=k
  . subst c;rw[c7 rfl,h2];exact E6 _ (lN (T.M P) r)
  . rw[c9 c,K9];exact qq hr hk c λp _=>by
     rw[ak,W2 _ _ _ (λz=>c z.symm)]
     rfl
 have:s*(s*dot P.m (T.inv r) (P.A (T.B k)))=s*(s*(if r=k then T.size else 0)):=by rw[key]
 rw[<-H9,<-H9,sO h1,cU,cU]at this;exact this
theorem J7.by(L:J7 P T)(x:Nat->Int){p:Nat}(hp:p<P.m):(sm P.m λk=>dot P.m (T.inv k) x*P.A (T.B k) p)=T.size*x p:=by
 have:(sm P.m λk=>dot P.m (T.inv k) x*P.A (T.B k) p)=sm P.m λk=>sm P.m λq=>x q*(T.inv k q*P.A (T.B k) p):=k9 λk _=>by delta dot;rw[<-Fz];exact k9 λq _=>by rw[D4 (T.inv k q),H9]
 rw[this,ou];have:(sm P.m λq=>sm P.m λk=>x q*(T.inv k q*P.A (T.B k) p))=sm P.m λq=>x q*(if p=q then T.size else 0):=k9 λq hq=>by rw[C6,L.span p q hp hq]
 rw[this,P8 hp λi _ hi=>by rw[c9 (λz=>hi z.symm),K9],c7 rfl,D4]
theorem J7.ratio(L:J7 P T){s:Int}(h1:s=1\/s = -1)(h3:∀r,r<P.m->∀x,s*dot P.m (T.inv r) x=det P.m (v7 (T.M P) r x)){r l:Nat}(hr:r<P.m)(hl:l<P.m)(hrl:r≠l)(a x:Nat->Int):
  T.size*(s*det P.m (v7 (v7 (T.M P) l a) r x))=dot P.m (T.inv l) a*dot P.m (T.inv r) x-dot P.m (T.inv r) a*dot P.m (T.inv l) x:=by
 have e1:T.size*det P.m (v7 (v7 (T.M P) l a) r x)=det P.m (v7 (v7 (T.M P) l a) r λp=>sm P.m λk=>dot P.m (T.inv k) x*P.A (T.B k) p):=by
  have:=oO (n:=P.m) (v7 (T.M P) l a) T.size 0 x (λ_=>0) hr
  simp only[K9,mK,V6]at this;rw[<-this];exact JD λp hp=>(L.by x hp).symm
 have e2:=yA (n:=P.m) (k:=r) (v7 (T.M P) l a) hr (λk=>dot P.m (T.inv k) x) (λk=>P.A (T.B k)) P.m
 have e3:(sm P.m λk=>dot P.m (T.inv k) x*det P.m (v7 (v7 (T.M P) l a) r (P.A (T.B k))))=sm P.m λk=>(if k=r then dot P.m (T.inv r) x*(s*dot P.m (T.inv l) a)else 0)+(if k=l then dot P.m (T.inv l) x*(-(s*dot P.m (T.inv r) a))else 0):=k9 λk hk=>by
  by_cases c1:k=r
  . subst c1;rw[c7 rfl,c9 hrl,mK,h3 l hl a]
    congr 1
    rw[fT _ _ _ hrl.symm];exact E6 (λz=>det P.m (v7 z l a)) (lN (T.M P) k)
  . by_cases c2:k=l
    . subst c2;rw[c9 c1,c7 rfl,K8,h3 r hr a]
      congr 1
      rw[Rr hl hr (λz=>hrl z.symm) (T.M P) a (P.A (T.B k))]
      congr 1
      exact E6 (λz=>det P.m (v7 z r a)) (lN (T.M P) k)
    . rw[c9 c1,c9 c2];rw[qq hk hr c1 λp _=>by rw[W2 _ _ _ c1,W2 _ _ _ c2,ak];rfl]
      rw[K9];rfl
 have e5:(sm P.m λk=>if k=r then dot P.m (T.inv r) x*(s*dot P.m (T.inv l) a)else 0)=dot P.m (T.inv r) x*(s*dot P.m (T.inv l) a):=by rw[P8 hr (λi _ h=>by rw[c9 h]),c7 rfl]
 have e6:(sm P.m λk=>if k=l then dot P.m (T.inv l) x*(-(s*dot P.m (T.inv r) a))else 0)=dot P.m (T.inv l) x*(-(s*dot P.m (T.inv r) a)):=by rw[P8 hl (λi _ h=>by rw[c9 h]),c7 rfl]
 rw[gK,e5,e6]at e3;have e4:T.size*(s*det P.m (v7 (v7 (T.M P) l a) r x))=s*(T.size*det P.m (v7 (v7 (T.M P) l a) r x)):=by rw[<-H9,<-H9,D4 T.size]
 rw[e4,e1,e2,e3];have ss:=sO h1;generalize dot P.m (T.inv r) x=X;generalize dot P.m (T.inv l) x=Y;generalize dot P.m (T.inv l) a=U;generalize dot P.m (T.inv r) a=V;grind
def Tb.g0(P:Pb)(T:Tb)(a r:Nat):Int:=dot P.m (T.inv r) (P.A a)
def Tb.rest(P:Pb)(T:Tb)(t a:Nat):Int:=P.c t a*T.size-dot P.m (T.pr t) (P.A a)
structure CF(P:Pb)(T:Tb)(a l:Nat)(g:Int)(T':Tb):Prop where
 b:∀k,k<P.m->T'.B k=if k=l then a else T.B k
 size:T'.size=g*T.g0 P a l
 il:∀q,q<P.m->T'.inv l q=g*T.inv l q
 ir:∀r q,r<P.m->q<P.m->r≠l->T.size*T'.inv r q=T.inv r q*(g*T.g0 P a l)-g*T.g0 P a r*T.inv l q
 pr:∀t q,q<P.m->T.size*T'.pr t q=T.pr t q*(g*T.g0 P a l)+g*T.rest P t a*T.inv l q
theorem J7.exact(L:J7 P T){a l:Nat}(hl:l<P.m)(g:Int):∀r q,r<P.m->q<P.m->r≠l->∃z,T.size*z=T.inv r q*(g*T.g0 P a l)-g*T.g0 P a r*T.inv l q:=λr q hr hq hrl=>by obtain⟨s,h1,h2,h3⟩:=L.sg;have e:=L.ratio h1 h3 hr hl hrl (P.A a) (unit q);rw[qp _ hq,qp _ hq]at e;refine⟨g*(s*det P.m (v7 (v7 (T.M P) l (P.A a)) r (unit q))),?_⟩;delta Tb.g0;generalize s*det P.m (v7 (v7 (T.M P) l (P.A a)) r (unit q))=D at e ⊢;generalize dot P.m (T.inv l) (P.A a)=U at e ⊢;generalize dot P.m (T.inv r) (P.A a)=V at e ⊢;grind
theorem sP{m l:Nat}(f:Nat->Int)(h:l<m)(g:Nat->Int):(sm m λk=>if k=l then g k else f k)=g l+(sm m f-f l):=by
 rw[vp _ h,c7 rfl,vp f h];have:(sm m λi=>if i=l then 0 else if i=l then g i else f i)=sm m λi=>if i=l then 0 else f i:=k9 λi _=>by
  by_cases c:i=l
  . rw[c7 c,c7 c]
  . rw[c9 c,c9 c,c9 c]
 rw[this]
 lia
theorem vC(L:J7 P T)(t:Nat)(x:Nat->Int):dot P.m (T.pr t) x=sm P.m λk=>P.c t (T.B k)*dot P.m (T.inv k) x:=by
 delta dot;have:(sm P.m λr=>T.pr t r*x r)=sm P.m λr=>sm P.m λk=>P.c t (T.B k)*(T.inv k r*x r):=k9 λr hr=>by rw[L.pr t r hr,<-Fz];exact k9 λk _=>by rw[H9]
 rw[this,ou];exact k9 λk _=>C6 _ _ _
theorem BY(L:J7 P T){a l:Nat}(hl:l<P.m){g:Int}(iv:Nat->Nat->Int)(il:∀q,q<P.m->iv l q=g*T.inv l q)(ir:∀r q,r<P.m->q<P.m->r≠l->T.size*iv r q=T.inv r q*(g*T.g0 P a l)-g*T.g0 P a r*T.inv l q)(t:Nat){q:Nat}(hq:q<P.m):
  T.size*(sm P.m λk=>P.c t (if k=l then a else T.B k)*iv k q)=T.pr t q*(g*T.g0 P a l)+g*T.rest P t a*T.inv l q:=by
 have e1:(T.size*sm P.m λk=>P.c t (if k=l then a else T.B k)*iv k q)=sm P.m λk=>if k=l then T.size*(P.c t a*(g*T.inv l q))else(g*T.g0 P a l)*(P.c t (T.B k)*T.inv k q)-(g*T.inv l q)*(P.c t (T.B k)*T.g0 P a k):=by
  rw[<-C6];refine k9 λk hk=>?_
  by_cases c:k=l
  . subst c;rw[c7 rfl,c7 rfl,il q hq]
  . rw[c9 c,c9 c];have:=ir k q hk hq c;generalize P.c t (T.B k)=w;generalize iv k q=z at this ⊢;generalize T.inv k q=y at this ⊢;generalize T.inv l q=x at this ⊢;generalize T.g0 P a l=U at this ⊢;generalize T.g0 P a k=V at this ⊢;grind
 have e2:=vC L t (P.A a);rw[e1,sP _ hl,gJ,C6,C6,<-L.pr t q hq];have e3:(sm P.m λk=>P.c t (T.B k)*T.g0 P a k)=dot P.m (T.pr t) (P.A a):=e2.symm
 rw[e3];delta Tb.rest;generalize dot P.m (T.pr t) (P.A a)=W;generalize T.g0 P a l=U;generalize T.inv l q=x;generalize P.c t (T.B l)=w;grind
theorem J7.YA(L:J7 P T){a l:Nat}(hl:l<P.m)(g:Int)(t:Nat){q:Nat}(hq:q<P.m):∃z,T.size*z=T.pr t q*(g*T.g0 P a l)+g*T.rest P t a*T.inv l q:=by
 have:∃iv:Nat->Nat->Int,(∀q,q<P.m->iv l q=g*T.inv l q)/\∀r q,r<P.m->q<P.m->r≠l->T.size*iv r q=T.inv r q*(g*T.g0 P a l)-g*T.g0 P a r*T.inv l q:=by
  refine⟨λr q=>if r=l then g*T.inv l q else(T.inv r q*(g*T.g0 P a l)-g*T.g0 P a r*T.inv l q)/T.size,λq _=>by simp,λr q hr hq h=>?_⟩
  simp only[c9 h];obtain⟨z,hz⟩:=L.exact (a:=a) hl g r q hr hq h;rw[<-hz,Eg _ (by have:=L.pos;lia)]
 obtain⟨iv,h1,h2⟩:=this;exact⟨_,BY L hl iv h1 h2 t hq⟩
theorem dN{a x y:Int}(h:0<a)(e:a*x=a*y):x=y:=xI ∅ e
theorem J7.turn(L:J7 P T){a l:Nat}{g:Int}{T':Tb}(ha:a<P.n)(hb:∀k,k<P.m->T.B k≠a)(hl:l<P.m)(hg:g=1\/g = -1)(hp:0<g*T.g0 P a l)(U:CF P T a l g T'):J7 P T':=by
 obtain⟨s,h1,h2,h3⟩:=L.sg;have gg:=sO hg;have ss:=sO h1;have eM:∀(r:Nat) (x:Nat->Int),det P.m (v7 (T'.M P) r x)=det P.m (v7 (v7 (T.M P) l (P.A a)) r x):=λr x=>Q0 λc p hc _=>by
  delta v7 Tb.M;by_cases c1:c=r
  . rw[c7 c1,c7 c1]
  . rw[c9 c1,c9 c1,U.b c hc];by_cases c2:c=l
    . rw[c7 c2,c7 c2]
    . rw[c9 c2,c9 c2]
 have eD:det P.m (T'.M P)=det P.m (v7 (T.M P) l (P.A a)):=Q0 λc p hc _=>by
  delta v7 Tb.M;rw[U.b c hc];by_cases c2:c=l
  . rw[c7 c2,c7 c2]
  . rw[c9 c2,c9 c2]
 have ep:=L.pos;refine⟨λk hk=>?_,λk k' hk hk' e=>?_,⟨s*g,?_,?_,λr hr x=>?_⟩,by rw[U.size];exact hp,λp q hp' hq=>?_,λt q hq=>?_⟩
 . rw[U.b k hk];split
   . exact ha
   . exact L.bn k hk
 . rw[U.b k hk,U.b k' hk']at e;split at e
   . rename_i c1;split at e
     . rename_i c2;rw[c1,c2]
     . exact absurd e.symm (hb k' hk')
   . split at e
     . exact absurd e (hb k hk)
     . exact L.inj k k' hk hk' e
 . rcases h1 with h1|h1<;>rcases hg with hg|hg<;>rw[h1,hg]<;>simp
 . rw[U.size,eD,<-h3 l hl (P.A a)];delta Tb.g0;generalize dot P.m (T.inv l) (P.A a)=V;grind
 . rw[eM];by_cases c:r=l
   . subst c;rw[JC,<-h3 r hr x];have:dot P.m (T'.inv r) x=g*dot P.m (T.inv r) x:=by rw[<-GY];exact jS (λq hq=>U.il q hq) λ_ _=>rfl
     rw[this];generalize dot P.m (T.inv r) x=V;grind
   . have e:=L.ratio h1 h3 hr hl c (P.A a) x;refine dN ep ?_;have e2:T.size*dot P.m (T'.inv r) x=dot P.m (T.inv r) x*(g*T.g0 P a l)-g*T.g0 P a r*dot P.m (T.inv l) x:=by
      rw[<-GY];have:dot P.m (λq=>T.size*T'.inv r q) x=sm P.m λq=>(g*T.g0 P a l)*(T.inv r q*x q)-(g*T.g0 P a r)*(T.inv l q*x q):=k9 λq hq=>by simp only;rw[U.ir r q hr hq c];generalize T.inv r q=y;generalize T.inv l q=z;generalize T.g0 P a l=U;generalize T.g0 P a r=V;grind
      rw[this,gJ,C6,C6];delta dot;rw[D4 (g*T.g0 P a l)]
     have e3:T.size*(s*g*dot P.m (T'.inv r) x)=s*g*(T.size*dot P.m (T'.inv r) x):=by generalize dot P.m (T'.inv r) x=V;grind
     rw[e3,e2];delta Tb.g0;generalize det P.m (v7 (v7 (T.M P) l (P.A a)) r x)=D at e ⊢;generalize dot P.m (T.inv l) (P.A a)=U at e ⊢;generalize dot P.m (T.inv r) (P.A a)=V at e ⊢;generalize dot P.m (T.inv r) x=W at e ⊢;generalize dot P.m (T.inv l) x=Y at e ⊢;grind
 . refine dN ep ?_;have e1:(T.size*sm P.m λk=>T'.inv k q*P.A (T'.B k) p)=sm P.m λk=>if k=l then T.size*(g*T.inv l q*P.A a p)else(g*T.g0 P a l)*(T.inv k q*P.A (T.B k) p)-(g*T.inv l q)*(T.g0 P a k*P.A (T.B k) p):=by
    rw[<-C6];refine k9 λk hk=>?_
    rw[U.b k hk];by_cases c:k=l
    . subst c;rw[c7 rfl,c7 rfl,U.il q hq]
    . rw[c9 c,c9 c];have:=U.ir k q hk hq c;generalize P.A (T.B k) p=w;generalize T'.inv k q=z at this ⊢;generalize T.inv k q=y at this ⊢;generalize T.inv l q=x at this ⊢;generalize T.g0 P a l=U at this ⊢;generalize T.g0 P a k=V at this ⊢;grind
   have e2:=L.by (P.A a) hp';have e3:(sm P.m λk=>T.g0 P a k*P.A (T.B k) p)=T.size*P.A a p:=e2
   rw[e1,sP _ hl,gJ,C6,C6,e3,L.span p q hp' hq,U.size];generalize T.g0 P a l=U;generalize T.inv l q=x;generalize P.A (T.B l) p=w;split<;>grind
 . refine dN ep ?_;rw[U.pr t q hq,<-BY L hl T'.inv U.il U.ir t hq]
   congr 1
   exact k9 λk hk=>by rw[U.b k hk]
end
end Sx
namespace Sx
def uv(P:Pb)(j:Nat):Int:=(P.u j).getD 0
def Tb.am(P:Pb)(T:Tb)(k:Nat):Int:=dot P.m (T.inv k) T.rt
def fsum(P:Pb)(T:Tb)(f:Nat->Int):Int:=sm P.n λj=>if T.full j=true then uv P j*f j else 0
def Tb.sg(T:Tb)(a:Nat):Int:=if T.full a=true then -1 else 1
theorem pX(T:Tb)(a:Nat):(T.full a=true/\T.sg a = -1)\/(T.full a=false/\T.sg a=1):=by
 delta Tb.sg;cases h:T.full a
 . exact .inr ⟨rfl,by simp⟩
 . exact .inl ⟨rfl,by simp⟩
structure Ok(P:Pb)(T:Tb):Prop where
 t7:J7 P T
 rt:∀p,p<P.m->T.rt p=P.b p-fsum P T λj=>P.A j p
 fu:∀j,j<P.n->T.full j=true->P.u j≠none/\∀k,k<P.m->T.B k≠j
 lo:∀k,k<P.m->0<=T.am P k
 hi:∀k v,k<P.m->P.u (T.B k)=some v->T.am P k<=v*T.size
theorem nP{P:Pb}{T T':Tb}{a:Nat}(ha:a<P.n)(h:∀j,j<P.n->T'.full j=if j=a then !T.full a else T.full j)(f:Nat->Int):fsum P T' f=fsum P T f+T.sg a*(uv P a*f a):=by
 delta fsum;rw[vp _ ha,vp (λj=>if T.full j=true then uv P j*f j else 0) ha,h a ha,c7 rfl]
 have e:(sm P.n λi=>if i=a then 0 else if T'.full i=true then uv P i*f i else 0)=sm P.n λi=>if i=a then 0 else if T.full i=true then uv P i*f i else 0:=k9 λi hi=>by
  by_cases c:i=a
  . rw[c7 c,c7 c]
  . rw[c9 c,c9 c,h i hi,c9 c]
 rw[e];rcases pX T a with ⟨h1,h2⟩|⟨h1,h2⟩<;>rw[h1,h2]<;>simp<;>lia
theorem nN{P:Pb}{T T':Tb}(h:∀j,j<P.n->T'.full j=T.full j)(f:Nat->Int):fsum P T' f=fsum P T f:=k9 λj hj=>by rw[h j hj]
section
variable{P:Pb}{T T':Tb}
theorem J7.HF(L:J7 P T){k:Nat}(hk:k<P.m)(t:Nat):T.rest P t (T.B k)=0:=by
 delta Tb.rest;rw[vC L,P8 hk λi hi h=>by rw[L.left hi hk,c9 h,K9],L.left hk hk,c7 rfl]
 lia
theorem J7.MG(L:J7 P T){y:Nat->Int}{s:Int}(h:∀p,p<P.m->s*T.rt p=sm P.m λk=>y k*P.A (T.B k) p){k:Nat}(hk:k<P.m):s*T.am P k=T.size*y k:=by
 delta Tb.am;rw[<-uS];have e:dot P.m (T.inv k) (λr=>s*T.rt r)=dot P.m (T.inv k) λr=>sm P.m λi=>y i*P.A (T.B i) r:=jS (λ_ _=>rfl) λr hr=>h r hr
 rw[e,oN,P8 hk λi hi h=>by rw[L.left hk hi,c9 (λz=>h z.symm),K9],L.left hk hk,c7 rfl,D4]
theorem J7.Ph(L:J7 P T){p:Nat}(hp:p<P.m):(sm P.m λk=>T.am P k*P.A (T.B k) p)=T.size*T.rt p:=L.by T.rt hp
structure rQ(P:Pb)(T:Tb)(a:Nat)(top bot:Int):Prop where
 nn:0<=top
 pb:0<bot
 own:∀v,P.u a=some v->top<=v*bot
 dn:∀k,k<P.m->0<T.sg a*T.g0 P a k->top*(T.sg a*T.g0 P a k)<=T.am P k*bot
 up:∀k v,k<P.m->T.sg a*T.g0 P a k<0->P.u (T.B k)=some v->top*(-(T.sg a*T.g0 P a k))<=(v*T.size-T.am P k)*bot
structure Js(P:Pb)(T:Tb)(a:Nat)(T':Tb):Prop where
 b:∀k,k<P.m->T'.B k=T.B k
 size:T'.size=T.size
 inv:∀k q,k<P.m->q<P.m->T'.inv k q=T.inv k q
 pr:∀t q,q<P.m->T'.pr t q=T.pr t q
 full:∀j,j<P.n->T'.full j=if j=a then !T.full a else T.full j
 rt:∀p,p<P.m->T'.rt p=T.rt p-T.sg a*(uv P a*P.A a p)
theorem J7.same(L:J7 P T)(hb:∀k,k<P.m->T'.B k=T.B k)(hs:T'.size=T.size)(hi:∀k q,k<P.m->q<P.m->T'.inv k q=T.inv k q)(hp:∀t q,q<P.m->T'.pr t q=T.pr t q):J7 P T':=by
 have eM:∀c r,c<P.m->r<P.m->T'.M P c r=T.M P c r:=λc r hc _=>by delta Tb.M;rw[hb c hc]
 obtain⟨s,h1,h2,h3⟩:=L.sg;refine⟨λk hk=>by rw[hb k hk];exact L.bn k hk,λk l hk hl e=>L.inj k l hk hl (by rw[hb k hk,hb l hl]at e;exact e),⟨s,h1,by rw[hs,h2];exact(Q0 eM).symm,λr hr x=>?_⟩,by rw[hs];exact L.pos,λp q hp' hq=>?_,λt q hq=>?_⟩
 . rw[jS (x:=T'.inv r) (x':=T.inv r) (y:=x) (y':=x) (λq hq=>hi r q hr hq) (λ_ _=>rfl),h3 r hr x]
   exact Q0 λc p hc hp'=>by
    delta v7;split
    . rfl
    . exact(eM c p hc hp').symm
 . rw[hs,<-L.span p q hp' hq];exact k9 λk hk=>by rw[hi k q hk hq,hb k hk]
 . rw[hp t q hq,L.pr t q hq];exact k9 λk hk=>by rw[hi k q hk hq,hb k hk]
theorem Ok.flip(K:Ok P T){a:Nat}{v:Int}(ha:a<P.n)(hb:∀k,k<P.m->T.B k≠a)(hv:P.u a=some v)(S:rQ P T a v 1)(F:Js P T a T'):Ok P T'/\∀k,k<P.m->T'.am P k=T.am P k-T.sg a*v*T.g0 P a k:=by
 have L':=K.t7.same F.b F.size F.inv F.pr;have euv:uv P a=v:=by delta uv;rw[hv];rfl
 have am:∀k,k<P.m->T'.am P k=T.am P k-T.sg a*v*T.g0 P a k:=λk hk=>by
  delta Tb.am Tb.g0;have e:dot P.m (T'.inv k) T'.rt=dot P.m (T.inv k) λp=>T.rt p-(T.sg a*v)*P.A a p:=jS (λq hq=>F.inv k q hk hq) λp hp=>by rw[F.rt p hp,euv,H9]
  rw[e,GW,uS]
 refine⟨⟨L',λp hp=>?_,λj hj hf=>?_,λk hk=>?_,λk w hk hw=>?_⟩,am⟩
 . rw[F.rt p hp,K.rt p hp,nP ha F.full]
   lia
 . rw[F.full j hj]at hf;by_cases c:j=a
   . subst c;exact⟨by rw[hv];simp,λk hk=>by rw[F.b k hk];exact hb k hk⟩
   . rw[c9 c]at hf;obtain⟨h1,h2⟩:=K.fu j hj hf;exact⟨h1,λk hk=>by rw[F.b k hk];exact h2 k hk⟩
 . rw[am k hk];have h0:=K.lo k hk;have hd:=S.dn k hk;have hn:=S.nn;by_cases c:0<T.sg a*T.g0 P a k
   . have:=hd c;generalize T.sg a=g at *;generalize T.g0 P a k=y at *;grind
   . have:v*(T.sg a*T.g0 P a k)<=0:=wJ hn ∅;generalize T.sg a=g at *;generalize T.g0 P a k=y at *;grind
 . rw[F.b k hk]at hw;rw[am k hk,F.size];have h0:=K.hi k w hk hw;have hn:=S.nn;by_cases c:T.sg a*T.g0 P a k<0
   . have:=S.up k w hk c hw;generalize T.sg a=g at *;generalize T.g0 P a k=y at *;grind
   . have:0<=v*(T.sg a*T.g0 P a k):=bA hn ∅;generalize T.sg a=g at *;generalize T.g0 P a k=y at *;grind
structure Move(P:Pb)(T:Tb)(a l:Nat)(g:Int)(tp:Bool)(T':Tb):Prop where
 tn:CF P T a l g T'
 full:∀j,j<P.n->T'.full j=if j=a then false else if j=T.B l then tp else T.full j
 rt:∀p,p<P.m->T'.rt p=T.rt p+(if T.full a=true then uv P a*P.A a p else 0)-(if tp=true then uv P (T.B l)*P.A (T.B l) p else 0)
structure At(P:Pb)(T:Tb)(a l:Nat)(tp:Bool)(top bot:Int):Prop where
 dn:tp=false->top=T.am P l/\bot=T.sg a*T.g0 P a l
 up:tp=true->top=uv P (T.B l)*T.size-T.am P l/\bot = -(T.sg a*T.g0 P a l)/\P.u (T.B l)≠none
def kE(P:Pb)(T:Tb)(a l:Nat)(top bot:Int)(k:Nat):Int:=if k=l then T.size*(if T.full a=true then uv P a*bot-top else top)else T.am P k*bot-T.sg a*T.g0 P a k*top
theorem JT(m:Nat)(x y:Int)(f g h:Nat->Int):(sm m λk=>(x*f k-y*g k)*h k)=x*(sm m λk=>f k*h k)-y*sm m λk=>g k*h k:=by
 rw[<-C6,<-C6,<-gJ];exact k9 λk _=>by generalize f k=a;generalize g k=b;generalize h k=c;grind
theorem Ok.yg(K:Ok P T){a l:Nat}{g top bot:Int}{tp:Bool}(L':J7 P T')(hl:l<P.m)(A:At P T a l tp top bot)(M:Move P T a l g tp T'){k:Nat}(hk:k<P.m):(bot*T.size)*T'.am P k=T'.size*kE P T a l top bot k:=by
 refine L'.MG (y:=kE P T a l top bot) (λp hp=>?_) hk
 have e:(sm P.m λk=>kE P T a l top bot k*P.A (T'.B k) p)=sm P.m λk=>if k=l then T.size*(if T.full a=true then uv P a*bot-top else top)*P.A a p else(bot*T.am P k-(T.sg a*top)*T.g0 P a k)*P.A (T.B k) p:=k9 λk hk=>by
  rw[M.tn.b k hk];delta kE;by_cases c:k=l
  . rw[c7 c,c7 c,c7 c]
  . rw[c9 c,c9 c,c9 c];generalize P.A (T.B k) p=z;generalize T.g0 P a k=y;generalize T.am P k=x;generalize T.sg a=g;grind
 have e2:(sm P.m λk=>T.g0 P a k*P.A (T.B k) p)=T.size*P.A a p:=K.t7.by (P.A a) hp
 rw[e,sP _ hl,JT,K.t7.Ph hp,e2,M.rt p hp];generalize P.A (T.B l) p=z;generalize P.A a p=w;generalize T.rt p=r;have dn:=A.dn;have up:=A.up;generalize T.g0 P a l=y at *;generalize T.am P l=x at *;generalize uv P (T.B l)=ul at *;rcases pX T a with ⟨h1,h2⟩|⟨h1,h2⟩<;>rw[h1]<;>rw[h2]at dn up ⊢ <;> cases tp
 . obtain⟨e3,e4⟩:=dn rfl;simp;grind
 . obtain⟨e3,e4,_⟩:=up rfl;simp;grind
 . obtain⟨e3,e4⟩:=dn rfl;simp;grind
 . obtain⟨e3,e4,_⟩:=up rfl;simp;grind
theorem zp{a b c:Int}(h:0<c)(e:c*a<=c*b):a<=b:=xH e h
theorem Ok.move(K:Ok P T){a l:Nat}{g top bot:Int}{tp:Bool}(ha:a<P.n)(hb:∀k,k<P.m->T.B k≠a)(hl:l<P.m)(hg:g=1\/g = -1)(hp:0<g*T.g0 P a l)(S:rQ P T a top bot)(A:At P T a l tp top bot)(M:Move P T a l g tp T'):Ok P T':=by
 have L':=K.t7.turn ha hb hl hg hp M.tn;have hs:=K.t7.pos;have hs':=L'.pos;have hbp:=S.pb;have am:=λk hk=>K.yg L' hl A M (k:=k) hk
 have hBa:T.B l≠a:=hb l hl;have sb:0<bot*T.size:=H0 hbp hs;refine⟨L',λp hp=>?_,λj hj hf=>?_,λk hk=>?_,λk w hk hw=>?_⟩
 . -- rights
   rw[M.rt p hp,K.rt p hp];have f1:∃T1:Tb,(∀j,j<P.n->T1.full j=if j=a then false else T.full j)/\fsum P T1 (λj=>P.A j p)=fsum P T (λj=>P.A j p)-(if T.full a=true then uv P a*P.A a p else 0):=by
    refine⟨{T with full:=λj=>if j=a then false else T.full j},λj _=>rfl,?_⟩
    cases h:T.full a
    . rw[nN (T:=T) λj _=>?_]
      . simp
      . show(if j=a then false else T.full j)=T.full j
        split
        . rename_i c;rw[c,h]
        . rfl
    . rw[nP (T:=T) ha λj _=>?_]
      . delta Tb.sg;rw[h];simp;lia
      . show(if j=a then false else T.full j)=if j=a then !T.full a else T.full j
        rw[h];rfl
   obtain⟨T1,g1,g2⟩:=f1;have h1:T1.full (T.B l)=false:=by
    rw[g1 _ (K.t7.bn l hl),c9 hBa];cases h:T.full (T.B l)
    . rfl
    . exact absurd rfl ((K.fu _ (K.t7.bn l hl) h).2 l hl)
   have f2:fsum P T' (λj=>P.A j p)=fsum P T1 (λj=>P.A j p)+(if tp=true then uv P (T.B l)*P.A (T.B l) p else 0):=by
    cases tp
    . rw[nN (T:=T1) λj hj=>?_]
      . simp
      . rw[M.full j hj,g1 j hj];by_cases c:j=a
        . rw[c7 c,c7 c]
        . rw[c9 c,c9 c];split
          . rename_i c2;rw[c2];have:=h1;rw[g1 _ (K.t7.bn l hl),c9 hBa]at this;exact this.symm
          . rfl
    . rw[nP (T:=T1) (K.t7.bn l hl) λj hj=>?_]
      . delta Tb.sg;rw[h1];simp
      . rw[M.full j hj,h1];by_cases c:j=a
        . rw[c7 c,c9 (λz=>hBa (by rw[<-z];exact c)),g1 j hj,c7 c]
        . rw[c9 c];split
          . rfl
          . rw[g1 j hj,c9 c]
   rw[f2,g2]
   lia
 . rw[M.full j hj]at hf;by_cases c:j=a
   . rw[c7 c]at hf;cases hf
   . rw[c9 c]at hf;by_cases c2:j=T.B l
     . rw[c7 c2]at hf;refine⟨by rw[c2];exact(A.up hf).2.2,λk hk=>?_⟩
       rw[M.tn.b k hk];split
       . exact λz=>c z.symm
       . rename_i c3;rw[c2];exact λz=>c3 (K.t7.inj k l hk hl z)
     . rw[c9 c2]at hf;obtain⟨h1,h2⟩:=K.fu j hj hf;refine⟨h1,λk hk=>?_⟩
       rw[M.tn.b k hk];split
       . exact λz=>c z.symm
       . exact h2 k hk
 . -- from vG on
   have e:=am k hk;have y0:0<=kE P T a l top bot k:=by
    delta kE;by_cases c:k=l
    . rw[c7 c];refine bA ∅ ?_;split
      . rename_i hf;obtain⟨v,hv⟩:=Option.ne_none_iff_exists'.mp (K.fu a ha hf).1;have:=S.own v hv;have euv:uv P a=v:=by delta uv;rw[hv];rfl
        rw[euv];lia
      . exact S.nn
    . rw[c9 c];have h0:=K.lo k hk;have hn:=S.nn;by_cases c2:0<T.sg a*T.g0 P a k
      . have:=S.dn k hk c2;rw[D4 top]at this
        lia
      . have h1:T.sg a*T.g0 P a k*top<=0:=Ek ∅ hn;have h2:0<=T.am P k*bot:=bA h0 ∅
        lia
   have:0<=T'.size*kE P T a l top bot k:=bA ∅ y0;rw[<-e]at this;exact zp sb (by rw[K9];exact this)
 . have e:=am k hk;have y1:kE P T a l top bot k<=w*(bot*T.size):=by
    rw[M.tn.b k hk]at hw;delta kE;by_cases c:k=l
    . rw[c7 c]at hw ⊢;have ho:=S.own w hw;have hn:=S.nn;have euv:uv P a=w:=by delta uv;rw[hw];rfl
      have:(if T.full a=true then uv P a*bot-top else top)<=w*bot:=by
       split
       . rw[euv];lia
       . exact ho
      have h2:=fR this (by lia:0<=T.size)
      have h3:T.size*(w*bot)=w*(bot*T.size):=by grind
      lia
    . rw[c9 c]at hw ⊢;have h0:=K.hi k w hk hw;have hn:=S.nn;by_cases c2:T.sg a*T.g0 P a k<0
      . have:=S.up k w hk c2 hw;generalize T.sg a*T.g0 P a k=z at *;generalize T.am P k=x at *;grind
      . have h1:0<=T.sg a*T.g0 P a k*top:=bA ∅ hn;have h2:=jC h0 (by lia:0<=bot)
        have h3:w*T.size*bot=w*(bot*T.size):=by grind
        lia
   have:T'.size*kE P T a l top bot k<=T'.size*(w*(bot*T.size)):=fR y1 ∅;rw[<-e]at this;refine zp sb ?_;have h3:T'.size*(w*(bot*T.size))=bot*T.size*(w*T'.size):=by grind
   lia
end
end Sx
namespace Sx
def Neg(w:Nat->Int):Prop:=w 0<0\/(w 0=0/\(w 1<0\/(w 1=0/\w 2<0)))
theorem Neg.mul{w:Nat->Int}{p:Int}(hp:0<p)(h:Neg w):Neg λt=>p*w t:=by
 have m:∀x:Int,x<0->p*x<0:=λx hx=>Oj hp hx
 rcases h with h|⟨h0,h|⟨h1,h⟩⟩
 . exact .inl (m _ h)
 . exact .inr ⟨by simp[h0],.inl (m _ h)⟩
 . exact .inr ⟨by simp[h0],.inr ⟨by simp[h1],m _ h⟩⟩
theorem Neg.congr{w v:Nat->Int}(e:∀t,t<3->w t=v t)(h:Neg w):Neg v:=by unfold Neg at *;rw[e 0 #[],e 1 #[],e 2 #[]]at h;exact h
theorem Neg.oA{w:Nat->Int}{p:Int}(hp:0<p)(h:Neg λt=>p*w t):Neg w:=by
 have m:∀x:Int,p*x<0->x<0:=λx hx=>Int.lt_of_not_ge λz=>by
  have:=bA (by lia:0<=p) z
  lia
 have z:∀x:Int,p*x=0->x=0:=λx hx=>(Int.mul_eq_zero.mp hx).resolve_left ∅
 rcases h with h|⟨h0,h|⟨h1,h⟩⟩
 . exact .inl (m _ h)
 . exact .inr ⟨z _ h0,.inl (m _ h)⟩
 . exact .inr ⟨z _ h0,.inr ⟨z _ h1,m _ h⟩⟩
theorem Neg.add{w v:Nat->Int}(h:Neg w)(k:Neg v\/∀t,t<3->v t=0):Neg λt=>w t+v t:=by
 unfold Neg at *;dsimp only;rcases k with k|k
 . lia
 . have:=k 0 #[];have:=k 1 #[];have:=k 2 #[]
   lia
theorem jc{w:Nat->Int}(h:∀t,t<3->w t=0):¬Neg w:=by
 delta Neg;have:=h 0 #[];have:=h 1 #[];have:=h 2 #[]
 lia
theorem Lk{w v:Nat->Int}(h:¬Neg w)(k:¬Neg v):¬Neg λt=>w t+v t:=by
 unfold Neg at *;dsimp only
 lia
theorem Br{w:Nat->Int}{p:Int}(hp:0<=p)(h:¬Neg w):¬Neg λt=>p*w t:=by
 rcases Nv hp with hp|hp
 . exact λz=>h (z.oA hp)
 . refine jc λt _=>?_
   rw[<-hp,V6]
theorem Lj{w:Nat->Int}{p:Int}(hp:0<=p)(h:Neg w):¬Neg λt=>-(p*w t):=by
 rcases Nv hp with hp|hp
 . have:=h.mul hp;unfold Neg at *;dsimp only at *
   lia
 . refine jc λt _=>?_
   rw[<-hp,V6];rfl
theorem SK{f:Nat->Nat->Int}:∀m,(∀r,r<m->¬Neg (f r))->¬Neg λt=>sm m λr=>f r t
 | 0,_=>jc λt _=>rfl
 |m+1,h=>Lk (SK m λr hr=>h r ∅) (h m ∅)
section
variable{P:Pb}{T T' T2:Tb}
def Tb.obj(P:Pb)(T:Tb)(t:Nat):Int:=T.size*fsum P T (P.c t)+sm P.m λk=>T.am P k*P.c t (T.B k)
theorem nG(L:J7 P T)(a t:Nat):(sm P.m λk=>T.g0 P a k*P.c t (T.B k))=P.c t a*T.size-T.rest P t a:=by
 have e:(sm P.m λk=>T.g0 P a k*P.c t (T.B k))=dot P.m (T.pr t) (P.A a):=by rw[vC L];exact k9 λk _=>D4 _ _
 delta Tb.rest;rw[e]
 lia
theorem Ok.Rl(K:Ok P T){a:Nat}{v:Int}(ha:a<P.n)(hv:P.u a=some v)(F:Js P T a T')(am:∀k,k<P.m->T'.am P k=T.am P k-T.sg a*v*T.g0 P a k)(t:Nat):T'.obj P t=T.obj P t+v*(T.sg a*T.rest P t a):=by
 have euv:uv P a=v:=by delta uv;rw[hv];rfl
 have e:(sm P.m λk=>T'.am P k*P.c t (T'.B k))=(sm P.m λk=>T.am P k*P.c t (T.B k))-(T.sg a*v)*sm P.m λk=>T.g0 P a k*P.c t (T.B k):=by
  rw[<-C6,<-gJ];refine k9 λk hk=>?_
  rw[am k hk,F.b k hk];generalize T.am P k=x;generalize T.g0 P a k=y;generalize T.sg a=g;generalize P.c t (T.B k)=z;grind
 delta Tb.obj;rw[e,F.size,nP ha F.full,euv,nG K.t7];generalize T.sg a=g;generalize T.rest P t a=r;generalize P.c t a=z;generalize fsum P T (P.c t)=w;grind
theorem LS(K:Ok P T){a l:Nat}{g:Int}{tp:Bool}(ha:a<P.n)(hb:∀k,k<P.m->T.B k≠a)(hl:l<P.m)(M:Move P T a l g tp T')(f:Nat->Int):fsum P T' f=fsum P T f-(if T.full a=true then uv P a*f a else 0)+(if tp=true then uv P (T.B l)*f (T.B l)else 0):=by
 have hBa:T.B l≠a:=hb l hl;have hBn:=K.t7.bn l hl;have hBf:T.full (T.B l)=false:=by
  cases h:T.full (T.B l)
  . rfl
  . exact absurd rfl ((K.fu _ hBn h).2 l hl)
 delta fsum;have e:(sm P.n λj=>if T'.full j=true then uv P j*f j else 0)=sm P.n λj=>((if T.full j=true then uv P j*f j else 0)+(if j=a then -(if T.full a=true then uv P a*f a else 0)else 0))+(if j=T.B l then(if tp=true then uv P (T.B l)*f (T.B l)else 0)else 0):=k9 λj hj=>by
  rw[M.full j hj];by_cases c:j=a
  . have c2:j≠T.B l:=λz=>hBa (by rw[<-z];exact c)
    rw[c]at *;simp only[c7];rw[c9 c2];simp;lia
  . by_cases c2:j=T.B l
    . rw[c2]at *;simp[hBa,hBf]
    . simp[c,c2]
 have e2:(sm P.n λj=>if j=a then -(if T.full a=true then uv P a*f a else 0)else 0) = -(if T.full a=true then uv P a*f a else 0):=by rw[P8 ha (λi _ h=>by rw[c9 h]),c7 rfl]
 have e3:(sm P.n λj=>if j=T.B l then(if tp=true then uv P (T.B l)*f (T.B l)else 0)else 0)=(if tp=true then uv P (T.B l)*f (T.B l)else 0):=by rw[P8 hBn (λi _ h=>by rw[c9 h]),c7 rfl]
 rw[e,gK,gK,e2,e3]
 lia
theorem Ok.QJ(K:Ok P T){a l:Nat}{g top bot:Int}{tp:Bool}(ha:a<P.n)(hb:∀k,k<P.m->T.B k≠a)(hl:l<P.m)(L':J7 P T')(A:At P T a l tp top bot)(M:Move P T a l g tp T')(t:Nat):(bot*T.size)*T'.obj P t=T'.size*(bot*T.obj P t+top*(T.sg a*T.rest P t a)):=by
 have e1:((bot*T.size)*sm P.m λk=>T'.am P k*P.c t (T'.B k))=T'.size*sm P.m λk=>if k=l then T.size*(if T.full a=true then uv P a*bot-top else top)*P.c t a else(bot*T.am P k-(T.sg a*top)*T.g0 P a k)*P.c t (T.B k):=by
  rw[<-C6,<-C6];refine k9 λk hk=>?_
  rw[<-H9,K.yg L' hl A M hk,M.tn.b k hk];delta kE;by_cases c:k=l
  . rw[c7 c,c7 c,c7 c,H9]
  . rw[c9 c,c9 c,c9 c];generalize P.c t (T.B k)=z;generalize T.g0 P a k=y;generalize T.am P k=x;generalize T.sg a=g;grind
 rw[sP _ hl,JT,nG K.t7]at e1;delta Tb.obj;rw[iq,e1,LS K ha hb hl M];generalize (sm P.m λk=>T.am P k*P.c t (T.B k))=N
 generalize fsum P T (P.c t)=w;generalize T.rest P t a=r;generalize P.c t a=ca;generalize P.c t (T.B l)=cl;have dn:=A.dn;have up:=A.up;generalize T.g0 P a l=y at *;generalize T.am P l=x at *;generalize uv P (T.B l)=ul at *;rcases pX T a with ⟨h1,h2⟩|⟨h1,h2⟩<;>rw[h1]<;>rw[h2]at dn up ⊢ <;> cases tp
 . obtain⟨e3,e4⟩:=dn rfl;simp;grind
 . obtain⟨e3,e4,_⟩:=up rfl;simp;grind
 . obtain⟨e3,e4⟩:=dn rfl;simp;grind
 . obtain⟨e3,e4,_⟩:=up rfl;simp;grind
def cmp(P:Pb)(T' T:Tb)(t:Nat):Int:=T'.obj P t*T.size-T.obj P t*T'.size
theorem rN(t:Nat):T'.size*cmp P T2 T t=T.size*cmp P T2 T' t+T2.size*cmp P T' T t:=by delta cmp;grind
theorem FJ(L:J7 P T)(L':J7 P T')(hb:∀k,k<P.m->T'.B k=T.B k)(hr:∀p,p<P.m->T'.rt p=T.rt p){k:Nat}(hk:k<P.m):T.size*T'.am P k=T'.size*T.am P k:=by
 refine L'.MG (λp hp=>?_) hk
 rw[hr p hp,<-L.Ph hp];exact k9 λi hi=>by rw[hb i hi]
theorem FI(K:Ok P T)(K':Ok P T')(hf:∀j,j<P.n->T'.full j=T.full j){p:Nat}(hp:p<P.m):T'.rt p=T.rt p:=by rw[K.rt p hp,K'.rt p hp,nN hf]
theorem Pe(K:Ok P T)(K':Ok P T')(hb:∀k,k<P.m->T'.B k=T.B k)(hf:∀j,j<P.n->T'.full j=T.full j)(t:Nat):cmp P T' T t=0:=by
 have e:(T.size*sm P.m λk=>T'.am P k*P.c t (T'.B k))=T'.size*sm P.m λk=>T.am P k*P.c t (T.B k):=by
  rw[<-C6,<-C6];refine k9 λk hk=>?_
  rw[<-H9,FJ K.t7 K'.t7 hb (λp hp=>FI K K' hf hp) hk,hb k hk,H9]
 delta cmp Tb.obj;rw[nN hf];generalize (sm P.m λk=>T'.am P k*P.c t (T'.B k))=x at *
 generalize (sm P.m λk=>T.am P k*P.c t (T.B k))=y at *
 generalize fsum P T (P.c t)=w;grind
structure O4(P:Pb)(T:Tb)(a:Nat):Prop where
 an:a<P.n
 u0:P.u a≠some 0
 neg:Neg λt=>T.sg a*T.rest P t a
theorem O4.nb(E:O4 P T a)(L:J7 P T):∀k,k<P.m->T.B k≠a:=λk hk z=>by
 refine jc (λt _=>?_) E.neg
 rw[<-z,L.HF hk,K9]
inductive Step(P:Pb)(T:Tb)(a:Nat)(top:Int)(T':Tb):Prop
 |flip {v}:P.u a=some v->top=v->rQ P T a v 1->Js P T a T'->Step P T a top T'
 |move {l g tp bot}:l<P.m->(g=1\/g = -1)->0<g*T.g0 P a l->rQ P T a top bot->At P T a l tp top bot->Move P T a l g tp T' ->
   (top=0->∀k,k<P.m->(0<T.sg a*T.g0 P a k/\T.am P k=0)\/(T.sg a*T.g0 P a k<0/\∃v,P.u (T.B k)=some v/\T.am P k=v*T.size)->T.B l<=T.B k)->Step P T a top T'
theorem Step.ok(S:Step P T a top T')(K:Ok P T)(E:O4 P T a):Ok P T':=by
 cases S with
 |flip hv ht hs F=>exact(K.flip E.an (E.nb K.t7) hv hs F).1
 |move hl hg hp hs A M _=>exact K.move E.an (E.nb K.t7) hl hg hp hs A M
theorem Step.nn(S:Step P T a top T'):0<=top:=by
 cases S with
 |flip hv ht hs F=>rw[ht];exact hs.nn
 |move hl hg hp hs A M _=>exact hs.nn
theorem Step.ZD(S:Step P T a top T')(K:Ok P T)(E:O4 P T a):(0<top->Neg (cmp P T' T))/\(top=0->∀t,cmp P T' T t=0):=by
 have key:∃q:Int,(0<top->0<q)/\(top=0->q=0)/\∃d:Int,0<d/\∀t,d*cmp P T' T t=q*(T.sg a*T.rest P t a):=by
  cases S with
  |flip hv ht hs F =>
   have fo:=K.Rl E.an hv F (K.flip E.an (E.nb K.t7) hv hs F).2;rename_i v;refine⟨top*T.size,λh=>H0 h K.t7.pos,λh=>by rw[h,V6],1,by decide,λt=>?_⟩
   delta cmp;rw[fo t,F.size,ht];grind
  | @move l g tp bot hl hg hp hs A M hz =>
   have K':=K.move E.an (E.nb K.t7) hl hg hp hs A M;refine⟨T'.size*top,λh=>H0 K'.t7.pos h,λh=>by rw[h,K9],bot,hs.pb,λt=>?_⟩
   have:=K.QJ E.an (E.nb K.t7) hl K'.t7 A M t;delta cmp;generalize T'.obj P t=x at *;generalize T.obj P t=y at *;generalize T.sg a*T.rest P t a=z at *;grind
 obtain⟨q,q1,q2,d,d1,d2⟩:=key;constructor
 . intro h;exact Neg.oA d1 ((E.neg.mul (q1 h)).congr λt _=>(d2 t).symm)
 . intro h t;have:=d2 t;rw[q2 h,V6]at this;exact(Int.mul_eq_zero.mp this).resolve_left ∅
end
end Sx
namespace Sx
theorem Ks:∀(N:Nat) (f:Nat->Nat),(∀i,i<=N->f i<N)->∃p q,p<q/\q<=N/\f p=f q
 | 0,f,h=>absurd (h 0 (l5 _)) ∅
 |N+1,f,h=>by
  by_cases c:∃p,p<=N/\f p=f (N+1)
  . obtain⟨p,h1,h2⟩:=c;exact⟨p,N+1,by lia,l5 _,h2⟩
  . have hne:∀p,p<=N->f p≠f (N+1):=λp hp z=>c ⟨p,hp,z⟩
    obtain⟨p,q,h1,h2,h3⟩:=Ks N (λi=>if f i=N then f (N+1)else f i) λi hi=>by have:=h i ∅;have:=h (N+1) (l5 _);have:=hne i hi;split<;>lia
    refine⟨p,q,h1,by lia,?_⟩
    have:=hne p ∅;have:=hne q h2;split at h3<;>split at h3<;>lia
def enc(b:Nat)(f:Nat->Nat):Nat->Nat
 | 0=>0
 |k+1=>enc b f k*b+f k
theorem rJ{b:Nat}{f:Nat->Nat}:∀k,(∀i,i<k->f i<b)->enc b f k<b ^ k
 | 0,_=>by simp[enc]
 |k+1,h=>by
  have h1:=rJ k λi hi=>h i ∅
  have h2:=h k ∅;rw[enc,rW];have:(enc b f k+1)*b<=b ^ k*b:=mZ _ h1;rw[CO]at this
  lia
theorem yz{b:Nat}{f g:Nat->Nat}:∀k,(∀i,i<k->f i<b)->(∀i,i<k->g i<b)->enc b f k=enc b g k->∀i,i<k->f i=g i
 | 0,_,_,_,i,hi=>by lia
 |k+1,hf,hg,e,i,hi=>by
  rw[enc,enc]at e;have h1:=hf k ∅;have h2:=hg k ∅;have e1:f k=g k:=by have:=E6 (· % b) e;rw[Nat.add_mod,MZ,wQ,Nat.mod_mod,MY h1,Nat.add_mod,MZ,wQ,Nat.mod_mod,MY h2]at this;exact this
  by_cases c:i=k
  . rw[c];exact e1
  . refine yz k (λi hi=>hf i ∅) (λi hi=>hg i ∅) ?_ i ∅
    have hb:0<b:=by lia
    exact Nat.eq_of_mul_eq_mul_right hb ∅
structure Chain(P:Pb) where
 T:Nat->Tb
 a:Nat->Nat
 top:Nat->Int
 cf:Nat->Bool
structure Chain.Ok{P:Pb}(C:Chain P):Prop where
 ok:∀i,Sx.Ok P (C.T i)
 en:∀i,O4 P (C.T i) (C.a i)
 cr:∀i,C.cf i=true->∀j,j<C.a i->¬O4 P (C.T i) j
 st:∀i,Step P (C.T i) (C.a i) (C.top i) (C.T (i+1))
 cn:∀i,C.cf (i+1)=true↔C.top i=0
def cS(P:Pb)(T:Tb)(j:Nat):Prop:=∃k,k<P.m/\T.B k=j
structure Bd(P:Pb)(T:Tb)(j:Nat)(τ:Bool):Prop where
 b:∀k,k<P.m->T.B k=j->T.am P k=if τ=true then uv P j*T.size else 0
 n:¬cS P T j->T.full j=τ
def good(P:Pb)(j:Nat)(τ:Bool):Prop:=uv P j≠0\/(P.u j=none/\τ=false)
section
variable{P:Pb}{T T':Tb}{a l j:Nat}{g bot:Int}{tp τ:Bool}
theorem Bd.move(K:Ok P T)(K':Ok P T')(hj:j<P.n)(ha:a<P.n)(hb:∀k,k<P.m->T.B k≠a)(hl:l<P.m)(hbot:0<bot)(A:At P T a l tp 0 bot)(M:Move P T a l g tp T')(G:good P j τ)(B:Bd P T j τ):Bd P T' j τ:=by
 have hs:=K.t7.pos;have hs':=K'.t7.pos;have sb:0<bot*T.size:=H0 hbot hs;constructor
 . intro k hk e;have am:=K.yg K'.t7 hl A M hk;rw[M.tn.b k hk]at e;unfold kE at am;by_cases c:k=l
   . rw[c7 c]at e am;subst e;have nb:¬cS P T a:=λ⟨k,hk,z⟩=>hb k hk z
     have hf:=B.n nb;rw[hf]at am;refine dN sb ?_;rw[am];cases τ<;>simp<;>grind
   . rw[c9 c]at e am;have:=B.b k hk e;rw[this]at am;refine dN sb ?_;rw[am];cases τ<;>simp<;>grind
 . intro nb;rw[M.full j hj];by_cases c:j=a
   . exact absurd ⟨l,hl,by rw[M.tn.b l hl,c7 rfl,c]⟩ nb
   . rw[c9 c];by_cases c2:j=T.B l
     . rw[c7 c2];have hb':=B.b l hl c2.symm;cases tp with
       |false =>
        have e:=(A.dn rfl).1;cases τ with
        |false=>rfl
        |true =>
         rw[<-e,c7 rfl]at hb';rcases G with G|G
         . have:=Int.mul_eq_zero.mp hb'.symm
           lia
         . cases G.2
       |true =>
        obtain⟨e,_,hu⟩:=A.up rfl;cases τ with
        |true=>rfl
        |false =>
         rw[hb']at e;rcases G with G|G
         . rw[<-c2,c9 #[],rV]at e;have:=Int.mul_eq_zero.mp e.symm
           lia
         . rw[<-c2]at hu;exact absurd G.1 hu
     . rw[c9 c2];refine B.n λ⟨k,hk,e⟩=>nb ⟨k,hk,?_⟩
       rw[M.tn.b k hk,c9 λz=>c2 (by rw[<-e,z]),e]
theorem Bd.same(K:Ok P T)(K':Ok P T')(hj:j<P.n)(hb:∀k,k<P.m->T'.B k=T.B k)(hf:∀j,j<P.n->T'.full j=T.full j)(B:Bd P T j τ):Bd P T' j τ:=by
 constructor
 . intro k hk e;rw[hb k hk]at e;have h1:=FJ K.t7 K'.t7 hb (λp hp=>FI K K' hf hp) hk
   rw[B.b k hk e]at h1;refine dN K.t7.pos ?_;rw[h1];cases τ<;>simp<;>grind
 . intro nb;rw[hf j hj];exact B.n λ⟨k,hk,e⟩=>nb ⟨k,hk,by rw[hb k hk];exact e⟩
theorem Pn(L:J7 P T)(L2:J7 P T')(s t:Nat):T.size*T'.rest P t s=T'.size*T.rest P t s+sm P.m λr=>-(T'.g0 P s r*T.rest P t (T'.B r)):=by
 have e1:=nG L2 s t;have e2:(sm P.m λr=>T'.g0 P s r*dot P.m (T.pr t) (P.A (T'.B r)))=T'.size*dot P.m (T.pr t) (P.A s):=by rw[<-oN,<-uS];exact jS (λ_ _=>rfl) λp hp=>L2.by (P.A s) hp
 have e3:(sm P.m λr=>-(T'.g0 P s r*T.rest P t (T'.B r)))=(sm P.m λr=>T'.g0 P s r*dot P.m (T.pr t) (P.A (T'.B r)))-T.size*sm P.m λr=>T'.g0 P s r*P.c t (T'.B r):=by
  rw[<-C6,<-gJ];refine k9 λr _=>?_
  delta Tb.rest;generalize dot P.m (T.pr t) (P.A (T'.B r))=x;generalize T'.g0 P s r=y;generalize P.c t (T'.B r)=z;grind
 rw[e3,e2,e1];delta Tb.rest;generalize dot P.m (T.pr t) (P.A s)=x;generalize dot P.m (T'.pr t) (P.A s)=y;grind
end
structure Zero(P:Pb)(T:Tb)(a:Nat)(T':Tb)(l:Nat)(tp:Bool)(bot:Int):Prop where
 hl:l<P.m
 pb:0<bot
 at_:At P T a l tp 0 bot
 mv:∃g,Move P T a l g tp T'
 yQ:∀k,k<P.m->(0<T.sg a*T.g0 P a k/\T.am P k=0)\/(T.sg a*T.g0 P a k<0/\∃v,P.u (T.B k)=some v/\T.am P k=v*T.size)->T.B l<=T.B k
theorem Step.zero{P:Pb}{T T':Tb}{a:Nat}(S:Step P T a 0 T')(E:O4 P T a):∃l tp bot,Zero P T a T' l tp bot:=by
 cases S with
 |flip hv ht hs F=>exact absurd rfl (by have:=E.u0;rw[hv,<-ht]at this;exact this)
 | @move l g tp bot hl hg hp hs A M hz=>exact⟨l,tp,bot,hl,hs.pb,A,⟨g,M⟩,hz rfl⟩
section
variable{P:Pb}{T T':Tb}{a l j:Nat}{bot:Int}{tp:Bool}
theorem Zero.ZH(Z:Zero P T a T' l tp bot)(h:cS P T' j)(nb:¬cS P T j):j=a:=by
 obtain⟨g,M⟩:=Z.mv;obtain⟨k,hk,e⟩:=h;rw[M.tn.b k hk]at e;by_cases c:k=l
 . rw[c7 c]at e;exact e.symm
 . rw[c9 c]at e;exact absurd ⟨k,hk,e⟩ nb
theorem Zero.YI(Z:Zero P T a T' l tp bot)(h:cS P T j)(nb:¬cS P T' j):j=T.B l:=by
 obtain⟨g,M⟩:=Z.mv;obtain⟨k,hk,e⟩:=h;by_cases c:k=l
 . rw[<-c];exact e.symm
 . exact absurd ⟨k,hk,by rw[M.tn.b k hk,c9 c];exact e⟩ nb
end
theorem iX{Q:Nat->Prop}{p q:Nat}(h0:Q p)(hs:∀i,p<=i->i<q->Q i->Q (i+1)):∀i,p<=i->i<=q->Q i:=by
 intro i hp hq;induction i with
 |zero =>
  have:p=0:=by lia
  rw[<-this];exact h0
 |succ i ih =>
  by_cases c:p=i+1
  . rw[<-c];exact h0
  . exact hs i ∅ ∅ (ih ∅ ∅)
theorem QE{P:Pb}{C:Chain P}(H:C.Ok){p q:Nat}(hpq:p<q)(hz:∀i,p<=i->i<q->C.top i=0)(hc:∀i,p<=i->i<q->C.cf i=true)(hb:∀k,k<P.m->(C.T q).B k=(C.T p).B k)(hf:∀j,j<P.n->(C.T q).full j=(C.T p).full j):False:=by
 have zs:∀i,p<=i->i<q->∃l tp bot,Zero P (C.T i) (C.a i) (C.T (i+1)) l tp bot:=λi h1 h2=>by have s:=H.st i;rw[hz i h1 h2]at s;exact s.zero (H.en i)
 have nbE:∀i,¬cS P (C.T i) (C.a i):=λi ⟨k,hk,e⟩=>(H.en i).nb (H.ok i).t7 k hk e
 have bpq:∀j,cS P (C.T q) j↔cS P (C.T p) j:=λj=>⟨λ⟨k,hk,e⟩=>⟨k,hk,by rw[<-hb k hk];exact e⟩,λ⟨k,hk,e⟩=>⟨k,hk,by rw[hb k hk];exact e⟩⟩
 have fick:∀j i k,p<=i->i<=q->p<=k->k<=q->¬cS P (C.T i) j->cS P (C.T k) j->∃i',p<=i'/\i'<q/\C.a i'=j:=λj i k hi1 hi2 hk1 hk2 nb bk=>by
  apply pI;intro no;have up:∀x,p<=x->x<q->¬cS P (C.T x) j->¬cS P (C.T (x+1)) j:=λx h1 h2 h3 h4=>by obtain⟨l,tp,bot,Z⟩:=zs x h1 h2;exact no ⟨x,h1,h2,(Z.ZH h4 h3).symm⟩
  have q1:=iX (Q:=λx=>¬cS P (C.T x) j) (p:=i) (q:=q) nb (λx h1 h2 h3=>up x ∅ h2 h3) q hi2 (l5 _)
  have q2:¬cS P (C.T p) j:=λz=>q1 ((bpq j).mpr z)
  exact iX (Q:=λx=>¬cS P (C.T x) j) (p:=p) (q:=q) q2 (λx h1 h2 h3=>up x h1 h2 h3) k hk1 hk2 bk
 have mx:∃i1,p<=i1/\i1<q/\∀i,p<=i->i<q->C.a i<=C.a i1:=by
  have:∀d,p+d<q->∃i1,p<=i1/\i1<=p+d/\∀i,p<=i->i<=p+d->C.a i<=C.a i1:=by
   intro d;induction d with
   |zero =>
    intro _;refine⟨p,l5 _,by lia,λi h1 h2=>?_⟩
    have:i=p:=by lia
    rw[this];exact l5 _
   |succ d ih =>
    intro hd;obtain⟨i1,h1,h2,h3⟩:=ih ∅;by_cases c:C.a (p+(d+1))<=C.a i1
    . refine⟨i1,h1,by lia,λi g1 g2=>?_⟩
      by_cases e:i=p+(d+1)
      . rw[e];exact c
      . exact h3 i g1 ∅
    . refine⟨p+(d+1),by lia,l5 _,λi g1 g2=>?_⟩
      by_cases e:i=p+(d+1)
      . rw[e];exact l5 _
      . have:=h3 i g1 ∅
        lia
  obtain⟨i1,h1,h2,h3⟩:=this (q-1-p) ∅;exact⟨i1,h1,by lia,λi g1 g2=>h3 i g1 ∅⟩
 obtain⟨i1,hi1,hi1',hmax⟩:=mx;have lv:∃i2 l tp bot,p<=i2/\i2<q/\Zero P (C.T i2) (C.a i2) (C.T (i2+1)) l tp bot/\(C.T i2).B l=C.a i1:=by
  apply pI;intro no;have up:∀x,p<=x->x<q->cS P (C.T x) (C.a i1)->cS P (C.T (x+1)) (C.a i1):=λx h1 h2 h3=>by apply pI;intro h4;obtain⟨l,tp,bot,Z⟩:=zs x h1 h2;exact no ⟨x,l,tp,bot,h1,h2,Z,(Z.YI h3 h4).symm⟩
  obtain⟨l,tp,bot,Z⟩:=zs i1 hi1 hi1';obtain⟨g,M⟩:=Z.mv;have b1:cS P (C.T (i1+1)) (C.a i1):=⟨l,Z.hl,by rw[M.tn.b l Z.hl,c7 rfl]⟩
  have q1:=iX (Q:=λx=>cS P (C.T x) (C.a i1)) (p:=i1+1) (q:=q) b1 (λx h1 h2 h3=>up x ∅ h2 h3) q ∅ (l5 _)
  exact nbE i1 (iX (Q:=λx=>cS P (C.T x) (C.a i1)) (p:=p) (q:=q) ((bpq _).mp q1) (λx h1 h2 h3=>up x h1 h2 h3) i1 hi1 ∅)
 obtain⟨i2,l,tp,bot,hi2,hi2',Z,hl⟩:=lv;have bd:∀i,p<=i->i<q->good P (C.a i) ((C.T i).full (C.a i))/\∀x,p<=x->x<=q->Bd P (C.T x) (C.a i) ((C.T i).full (C.a i)):=λi h1 h2=>by
  have hn:=(H.en i).an;have G:good P (C.a i) ((C.T i).full (C.a i)):=by
   cases e:P.u (C.a i)with
   |none =>
    refine .inr ⟨e,?_⟩;cases f:(C.T i).full (C.a i)
    . rfl
    . exact absurd e ((H.ok i).fu _ hn f).1
   |some v =>
    refine .inl λz=>(H.en i).u0 ?_
    unfold uv at z;rw[e]at z;have z':v=0:=z;rw[e,z']
  have up:∀x,p<=x->x<q->Bd P (C.T x) (C.a i) ((C.T i).full (C.a i))->Bd P (C.T (x+1)) (C.a i) ((C.T i).full (C.a i)):=λx g1 g2 B=>by obtain⟨l,tp,bot,Z⟩:=zs x g1 g2;obtain⟨g,M⟩:=Z.mv;exact B.move (H.ok x) (H.ok (x+1)) hn (H.en x).an ((H.en x).nb (H.ok x).t7) Z.hl Z.pb Z.at_ M G
  have B0:Bd P (C.T i) (C.a i) ((C.T i).full (C.a i)):=⟨λk hk e=>absurd ⟨k,hk,e⟩ (nbE i),λ_=>rfl⟩
  have q1:=iX (Q:=λx=>Bd P (C.T x) (C.a i) ((C.T i).full (C.a i))) (p:=i) (q:=q) B0 (λx g1 g2 g3=>up x ∅ g2 g3) q ∅ (l5 _)
  have q2:Bd P (C.T p) (C.a i) ((C.T i).full (C.a i)):=q1.same (H.ok q) (H.ok p) hn (λk hk=>(hb k hk).symm) λj hj=>(hf j hj).symm
  exact⟨G,iX (Q:=λx=>Bd P (C.T x) (C.a i) ((C.T i).full (C.a i))) q2 up⟩
 have K1:=H.ok i1;have K2:=H.ok i2;have E1:=H.en i1;have E2:=H.en i2;have C1:=H.cr i1 (hc i1 hi1 hi1');have tb2:cS P (C.T i2) (C.a i1):=⟨l,Z.hl,hl⟩;have sne:C.a i2≠C.a i1:=λz=>nbE i2 (by rw[z];exact tb2)
 have nn1:∀i,p<=i->i<q->C.a i≠C.a i1->¬Neg λt=>(C.T i1).sg (C.a i)*(C.T i1).rest P t (C.a i):=λi g1 g2 ne h=>by have:=hmax i g1 g2;exact C1 (C.a i) ∅ ⟨(H.en i).an,(H.en i).u0,h⟩
 have e0:=Pn K1.t7 K2.t7 (C.a i2);refine absurd ((E2.neg.mul K1.t7.pos).congr (v:=λt=>(C.T i2).size*((C.T i2).sg (C.a i2)*(C.T i1).rest P t (C.a i2))+sm P.m λr=>-(((C.T i2).sg (C.a i2)*(C.T i2).g0 P (C.a i2) r)*(C.T i1).rest P t ((C.T i2).B r))) λt _=>?_) (Lk (Br (by have:=K2.t7.pos;lia) ?_) (SK P.m λr hr=>?_))
 . have:=e0 t;have e3:(sm P.m λr=>-(((C.T i2).sg (C.a i2)*(C.T i2).g0 P (C.a i2) r)*(C.T i1).rest P t ((C.T i2).B r)))=(C.T i2).sg (C.a i2)*sm P.m λr=>-((C.T i2).g0 P (C.a i2) r*(C.T i1).rest P t ((C.T i2).B r)):=by
    rw[<-C6];refine k9 λr _=>?_
    generalize (C.T i2).sg (C.a i2)=x;generalize (C.T i2).g0 P (C.a i2) r=y;generalize (C.T i1).rest P t ((C.T i2).B r)=z;grind
   rw[e3];generalize (C.T i2).sg (C.a i2)=x at *;generalize (sm P.m λr=>-((C.T i2).g0 P (C.a i2) r*(C.T i1).rest P t ((C.T i2).B r)))=y at *
   generalize (C.T i2).rest P t (C.a i2)=z at *;generalize (C.T i1).rest P t (C.a i2)=w at *;grind
 . -- the entering one
   by_cases c:cS P (C.T i1) (C.a i2)
   . obtain⟨k,hk,e⟩:=c;exact jc λt _=>by rw[<-e,K1.t7.HF hk,K9]
   . have f2:=((bd i2 hi2 hi2').2 i1 hi1 ∅).n c;have:(C.T i2).sg (C.a i2)=(C.T i1).sg (C.a i2):=by delta Tb.sg;rw[f2]
     rw[this];exact nn1 i2 hi2 hi2' sne
 . -- the chosen ones
   by_cases c:cS P (C.T i1) ((C.T i2).B r)
   . obtain⟨k,hk,e⟩:=c;exact jc λt _=>by rw[<-e,K1.t7.HF hk,K9];rfl
   . obtain⟨i',g1,g2,g3⟩:=fick ((C.T i2).B r) i1 i2 hi1 ∅ hi2 ∅ c ⟨r,hr,rfl⟩;obtain⟨G,B⟩:=bd i' g1 g2;rw[g3]at G B;generalize hτ:(C.T i').full ((C.T i2).B r)=τ at G B;have f1:=(B i1 hi1 ∅).n c;have am:=(B i2 hi2 ∅).b r hr rfl;by_cases ct:(C.T i2).B r=C.a i1
     . -- the greatest
       have erl:r=l:=K2.t7.inj r l hr Z.hl (by rw[ct,hl])
       subst erl;have hp:=Z.pb;have dn:=Z.at_.dn;have up:=Z.at_.up;have etp:τ=tp:=by
        cases tp with
        |false =>
         cases τ with
         |false=>rfl
         |true =>
          have:=(dn rfl).1;rw[am,c7 rfl]at this;rcases G with G|G
          . have:=Int.mul_eq_zero.mp this.symm;have:=K2.t7.pos
            lia
          . cases G.2
        |true =>
         cases τ with
         |true=>rfl
         |false =>
          obtain⟨h1,_,h2⟩:=up rfl;rw[am]at h1;rcases G with G|G
          . rw[c9 #[],rV]at h1;have:=Int.mul_eq_zero.mp h1.symm;have:=K2.t7.pos
            lia
          . exact absurd G.1 h2
       have sg1:(C.T i1).sg ((C.T i2).B r)=if tp=true then -1 else 1:=by delta Tb.sg;rw[f1,etp]
       have ng:Neg λt=>(C.T i1).sg ((C.T i2).B r)*(C.T i1).rest P t ((C.T i2).B r):=by have:=E1.neg;rw[<-ct]at this;exact this
       rw[sg1]at ng;cases tp with
       |false =>
        have h1:=(dn rfl).2;have:=Lj (p:=(C.T i2).sg (C.a i2)*(C.T i2).g0 P (C.a i2) r) ∅ ng;simp at this;exact this
       |true =>
        have h1:=(up rfl).2.1;have:=Lj (p:=-((C.T i2).sg (C.a i2)*(C.T i2).g0 P (C.a i2) r)) ∅ ng;refine λz=>this (z.congr λt _=>?_)
        simp;grind
     . have hle:(C.T i2).B r<C.a i1:=by
         have:=hmax i' g1 g2
         lia
       have hn:=nn1 i' g1 g2 (by rw[g3];exact ct)
       rw[g3]at hn;have yQ:=Z.yQ r hr;rw[hl]at yQ;cases τ with
       |false =>
        have sg1:(C.T i1).sg ((C.T i2).B r)=1:=by delta Tb.sg;rw[f1];rfl
        rw[sg1]at hn;have hp:¬0<(C.T i2).sg (C.a i2)*(C.T i2).g0 P (C.a i2) r:=λz=>by
         have:=yQ (.inl ⟨z,by rw[am];rfl⟩)
         lia
        have:=Br (p:=-((C.T i2).sg (C.a i2)*(C.T i2).g0 P (C.a i2) r)) ∅ hn;refine λz=>this (z.congr λt _=>?_)
        grind
       |true =>
        have sg1:(C.T i1).sg ((C.T i2).B r) = -1:=by delta Tb.sg;rw[f1];rfl
        rw[sg1]at hn;have hp:¬(C.T i2).sg (C.a i2)*(C.T i2).g0 P (C.a i2) r<0:=λz=>by
         have hu:=(K1.fu _ (K2.t7.bn r hr) f1).1;obtain⟨v,hv⟩:=Option.ne_none_iff_exists'.mp hu;have euv:uv P ((C.T i2).B r)=v:=by delta uv;rw[hv];rfl
         have:=yQ (.inr ⟨z,v,hv,by rw[am,c7 rfl,euv]⟩)
         lia
        have:=Br (p:=(C.T i2).sg (C.a i2)*(C.T i2).g0 P (C.a i2) r) ∅ hn;refine λz=>this (z.congr λt _=>?_)
        grind
theorem QG{P:Pb}{C:Chain P}(H:C.Ok):False:=by
 have hB:∀i k,k<P.m->(C.T i).B k<P.n:=λi k hk=>(H.ok i).t7.bn k hk
 let fb:Nat->Nat->Nat:=λi j=>if (C.T i).full j=true then 1 else 0
 have hF:∀i j,j<P.n->fb i j<2:=λi j _=>by dsimp only[fb];split<;>lia
 let key:Nat->Nat:=λi=>(enc P.n (C.T i).B P.m*2 ^ P.n+enc 2 (fb i) P.n)*2+(if C.cf i=true then 1 else 0)
 have hk:∀i,key i<(P.n ^ P.m*2 ^ P.n)*2:=λi=>by have h1:=rJ P.m (hB i);have h2:=rJ P.n (hF i);have h3:(enc P.n (C.T i).B P.m+1)*2 ^ P.n<=P.n ^ P.m*2 ^ P.n:=mZ _ h1;rw[CO]at h3;dsimp only[key];split<;>lia
 obtain⟨p,q,hpq,_,e⟩:=Ks _ key λi _=>hk i
 dsimp only[key]at e;have h2p:=rJ P.n (hF p);have h2q:=rJ P.n (hF q);have e1:(enc P.n (C.T p).B P.m*2 ^ P.n+enc 2 (fb p) P.n)=(enc P.n (C.T q).B P.m*2 ^ P.n+enc 2 (fb q) P.n)/\(C.cf p=C.cf q):=by generalize enc P.n (C.T p).B P.m*2 ^ P.n+enc 2 (fb p) P.n=x at e;generalize enc P.n (C.T q).B P.m*2 ^ P.n+enc 2 (fb q) P.n=y at e;cases hp:C.cf p<;>cases hq:C.cf q<;>rw[hp,hq]at e<;>simp only[w9,N9,aB]at e<;>first|exact⟨by lia,rfl⟩|(exfalso;lia)
 obtain⟨e1,ec⟩:=e1;have hz:0<2 ^ P.n:=Nat.two_pow_pos _;have e2:enc P.n (C.T p).B P.m=enc P.n (C.T q).B P.m:=by
  have:=E6 (· / 2 ^ P.n) e1;rw[ph,Nat.mul_add_div hz,MX h2p,ph,Nat.mul_add_div hz,MX h2q]at this
  lia
 have e3:enc 2 (fb p) P.n=enc 2 (fb q) P.n:=by rw[e2]at e1;lia
 have hb:∀k,k<P.m->(C.T q).B k=(C.T p).B k:=λk hk=>(yz P.m (hB p) (hB q) e2 k hk).symm
 have hf:∀j,j<P.n->(C.T q).full j=(C.T p).full j:=λj hj=>by have:=yz P.n (hF p) (hF q) e3 j hj;dsimp only[fb]at this;cases h1:(C.T p).full j<;>cases h2:(C.T q).full j<;>rw[h1,h2]at this<;>simp at this<;>rfl
 have st:∀i,(0<C.top i->Neg (cmp P (C.T (i+1)) (C.T i)))/\(C.top i=0->∀t,cmp P (C.T (i+1)) (C.T i) t=0):=λi=>(H.st i).ZD (H.ok i) (H.en i)
 have nn:∀i,0<=C.top i:=λi=>(H.st i).nn
 have le:∀d i,Neg (cmp P (C.T (i+d)) (C.T i))\/∀t,t<3->cmp P (C.T (i+d)) (C.T i) t=0:=by
  intro d;induction d with
  |zero=>intro i;exact .inr λt _=>by delta cmp;simp
  |succ d ih =>
   intro i;have tr:=λt=>rN (P:=P) (T:=C.T i) (T':=C.T (i+d)) (T2:=C.T (i+d+1)) t
   have p1:=(H.ok (i+d)).t7.pos;have p2:=(H.ok i).t7.pos;have p3:=(H.ok (i+d+1)).t7.pos;by_cases c:0<C.top (i+d)
   . refine .inl (Neg.oA p1 (Neg.congr (λt _=>(tr t).symm) (Neg.add (((st (i+d)).1 c).mul p2) ?_)))
     rcases ih i with h|h
     . exact .inl (h.mul p3)
     . exact .inr λt ht=>by rw[h t ht,K9]
   . have z:=(st (i+d)).2 (by have:=nn (i+d);lia)
     rcases ih i with h|h
     . refine .inl (Neg.oA p1 (Neg.congr (λt _=>?_) (h.mul p3)))
       have:=tr t;rw[z t,K9,K8]at this;exact this.symm
     . refine .inr λt ht=>?_
       have:=tr t;rw[z t,h t ht,K9,K9,K8]at this;exact(Int.mul_eq_zero.mp this).resolve_left ∅
 have allz:∀i,p<=i->i<q->C.top i=0:=λi h1 h2=>by
  apply pI;intro c;have c':0<C.top i:=by have:=nn i;lia
  have a1:=le (i-p) p;rw[show p+(i-p)=i from by lia]at a1
  have a2:=(st i).1 c';have a3:=le (q-(i+1)) (i+1);rw[show i+1+(q-(i+1))=q from by lia]at a3
  have pp:=(H.ok p).t7.pos;have pi:=(H.ok i).t7.pos;have pj:=(H.ok (i+1)).t7.pos;have pq:=(H.ok q).t7.pos;have b1:Neg (cmp P (C.T (i+1)) (C.T p)):=by
   have tr:=λt=>rN (P:=P) (T:=C.T p) (T':=C.T i) (T2:=C.T (i+1)) t
   refine Neg.oA pi (Neg.congr (λt _=>(tr t).symm) (Neg.add (a2.mul pp) ?_))
   rcases a1 with h|h
   . exact .inl (h.mul pj)
   . exact .inr λt ht=>by rw[h t ht,K9]
  have b2:Neg (cmp P (C.T q) (C.T p)):=by
   have tr:=λt=>rN (P:=P) (T:=C.T p) (T':=C.T (i+1)) (T2:=C.T q) t
   refine Neg.oA pj (Neg.congr (λt _=>?_) (Neg.add (b1.mul pq) (v:=λt=>(C.T p).size*cmp P (C.T q) (C.T (i+1)) t) ?_))
   . rw[tr t];lia
   . rcases a3 with h|h
     . exact .inl (h.mul pp)
     . exact .inr λt ht=>by rw[h t ht,K9]
  exact jc (λt _=>Pe (H.ok p) (H.ok q) hb hf t) b2
 have cfq:C.cf q=true:=by
  have:=(H.cn (q-1)).mpr (allz (q-1) ∅ ∅);rw[show q-1+1=q from by lia]at this
  exact this
 have cfs:∀i,p<=i->i<q->C.cf i=true:=λi h1 h2=>by
  by_cases c:i=p
  . rw[c,ec];exact cfq
  . have:=(H.cn (i-1)).mpr (allz (i-1) ∅ ∅);rw[show i-1+1=i from by lia]at this
    exact this
 exact QE H hpq allz cfs hb hf
end Sx
set_option maxHeartbeats 4000000
namespace Law
open PySem L2
section
abbrev ba:c5:=(.tuple [(.int 0),(.int 1)])
abbrev dW:c5:=(.tuple [(.int 0),(.int 1),(.int 2)])
local macro_rules | `([$x]) => `(i9 $x m6) | `([$x, $y,*]) => `(i9 $x [$y,*])
local macro_rules | `(#[$x]) => `(fC (.int $x))
local macro_rules | `(($x:num)) => `(i8 $x)
local macro_rules | `($x :: $y) => `(lZ $x $y)
def X0:DB:=j5 (c6 P6 (1) #[0])
def X1:DO:=j0 2 (c6 cc (0) (1))::j0 0 (1)::j0 1 (2)
def P7:FV:=D1 2 3 (fD (sX 1) X0 X1::Q6 0)
def W0:FV:=D1 2 3 (C3 (j5 (c6 J8 (1) #[0])) BR q9::j0 2 (e9 P7 [e9 qu [(0)],e9 qu [(1)]])::C3 (j5 (c6 qF (1) #[0])) (j0 2 (bo W5 (2))) q9::t6 (m3 [c6 ay (0) (2),c6 ay (1) (2)]))
def lM:FV:=D1 2 5 (j0 2 (e9 P7 [e9 qu [c6 i6 (0) #[0]],c6 i6 (1) #[1]])::j0 3 (e9 P7 [e9 qu [c6 i6 (1) #[0]],c6 i6 (0) #[1]])::j0 4 (c6 B9 (c6 ay (c6 i6 (0) #[0]) (2)) (c6 ay (c6 i6 (1) #[0]) (3)))::t6 (m3 [(4),c6 B9 (c6 ay (c6 i6 (0) #[1]) (3)) (c6 ay (c6 i6 (1) #[1]) (2))]))
def U3:DO:=j0 1 (c6 B9 (c6 i6 (e9 W0 [(1),(2)]) #[0]) (2))
def F5:FV:=D1 1 3 (j0 1 #[1]::L7 (F7 (0)) (A8 2) U3::Q6 1)
def gA:FV:=D1 2 2 (t6 (c6 B9 (c6 i6 (0) #[0]) (c6 ay (1) (c6 i6 (0) #[1]))))
def nk:DV:=c6 i6 (c6 i6 (0) (2)) #[1]
def iF:FV:=D1 2 2 (t6 (e9 F5 [k6 (F7 (0)) k8 k7 nk]))
def T5:DV:=m3 [(0),e9 gA [c6 i6 (1) (3),(4)]]
def T3:DB:=j5 (c6 P6 (c6 i6 (1) (3)) (fC ba))
def fM:FV:=D1 3 3 (t6 (k6 (D5 lu [(0)]) (P1 2) T3 T5))
def iE:FV:=D1 2 3 (K4 2 (c6 nI (O7 [#[0]]) (0))::X3 2 (1) #[1]::Q6 2)
def oh:DV:=c6 B9 (0) (1)
def kA:FV:=D1 2 2 (t6 (e9 xT [k6 (D5 cZ [(0),(1)]) (P1 2) k7 oh]))
def Q3:DV:=c6 B9 (c6 i6 (2) (0)) (1)
def U8:FV:=D1 2 2 (t6 (e9 xT [k6 (F7 (1)) (P1 2) k7 Q3]))
def qA:DV:=c6 ay (c6 pV (c6 B9 (0) (5)) (c6 B9 (4) (1))) (6)
def fZ:FV:=D1 5 5 (C3 (hG (j5 (c6 J8 (2) #[0])) (j5 (c6 J8 (3) (4)))) (Q6 0) q9::t6 (k6 (D5 cZ [(0),(1)]) (P1 2) k7 qA))
def bj:DV:=c6 i6 (c6 i6 (z9 "Table" "weights" (1)) (2)) (0)
def E7:FV:=D1 2 2 (t6 (k6 (F7 (z9 "Table" "chosen" (0))) k8 k7 bj))
def Z9:DV:=jR (j5 (c6 cR (0) (fC .none))) (fC .none) (e9 lM [(0),m3 [#[1],(1)]])
def Z8:DV:=c6 i6 (0) #[1]
def I0:DV:=c6 i6 (0) #[1]
def G9:DB:=j5 (c6 aH (0) (fC .none))
def Z7:DV:=e9 gA [(0),F8 "Table" 1 "unit"]
def Z6:DV:=jR (j5 (c6 cR (0) (fC .none))) (fC .none) (e9 gA [(0),F8 "Table" 1 "unit"])
def W9:List PV->Option (PV×Ds):=oM 3 5 (j0 3 (k6 (D5 cZ [(2),F8 "Table" 0 "scales"]) (P1 2) k7 Z9)::j0 4 (c6 F3 (k6 (F7 (1)) k8 k7 Z8) (k6 (F7 (3)) k8 G9 I0))::T7 "Table" 0 "unit" gW (e9 F5 [(4)])::T7 "Table" 0 "rights" dP (k6 (F7 (1)) k8 k7 Z7)::T7 "Table" 0 "limits" gW (k6 (F7 (3)) k8 k7 Z6))
def Q4:DV:=e9 lM [c6 i6 (0) (4),m3 [(1),#[1]]]
def X9:DV:=c6 i6 (0) #[1]
def X8:DV:=e9 gA [(0),(5)]
def Y0:DO:=j0 3 (k6 (D5 cZ [(1),F8 "Table" 0 "scales"]) (P1 2) k7 Q4)::j0 4 (e9 F5 [k6 (F7 (3)) k8 k7 X9])::nM "Table" 0 "multiples" (4)::nM "Table" 0 "weights" (k6 (F7 (3)) k8 k7 X8)
def U2:List PV->Option (PV×Ds):=oM 2 5 (T7 "Table" 0 "multiples" dP (O7 m6)::T7 "Table" 0 "weights" dP (O7 m6)::L7 (F7 (fC dW)) (A8 2) Y0)
def cw:DV:=e9 iF [(3),(0)]
def cv:DV:=e9 fM [(4),(0),(1)]
def gk:DV:=e9 iE [e9 M4 [(6)],(0)]
def gj:DV:=G8 (L9 "Table" "first_prices" E7 (M6 1) [(0)])
def ah:List PV->Option (PV×Ds):=oM 6 6 (T7 "Table" 0 "scales" gW (k6 (D5 G6 [e9 M4 [(1)]]) k8 k7 cw)::T7 "Table" 0 "columns" gW (k6 (D5 lu [F8 "Table" 0 "scales"]) (P1 2) k7 cv)::J9 (J1 "Table" "set_weights" 0 U2 (J5 (1) cM))::J9 (J1 "Table" "set_limits" 0 W9 (J5 (3) (J5 (4) cM)))::T7 "Table" 0 "chosen" dP (e9 V1 [(5)])::T7 "Table" 0 "full" dP (c6 nI (O7 [fC (.bool false)]) (e9 M4 [(1)]))::T7 "Table" 0 "size" gW #[1]::T7 "Table" 0 "inverse" gW (k6 (D5 G6 [e9 M4 [(5)]]) k8 k7 gk)::T7 "Table" 0 "prices" dP (k6 (F7 (fC dW)) k8 k7 gj))
def O8:FV:=D1 3 3 (t6 (c6 pV (c6 B9 (c6 i6 (c6 i6 (z9 "Table" "weights" (0)) (1)) (2)) (z9 "Table" "size" (0))) (e9 U8 [c6 i6 (z9 "Table" "prices" (0)) (1),c6 i6 (z9 "Table" "columns" (0)) (2)])))
def fh:DV:=e9 kA [(0),z9 "Table" "rights" (1)]
def O3:FV:=D1 1 1 (t6 (k6 (F7 (z9 "Table" "inverse" (0))) k8 k7 fh))
def iL:DV:=e9 U8 [(0),c6 i6 (z9 "Table" "columns" (1)) (2)]
def T4:FV:=D1 2 2 (t6 (k6 (F7 (z9 "Table" "inverse" (0))) k8 k7 iL))
def bU:DO:=bu "Table" 0 "rights" (3) (c6 F3 (gT "Table" 0 "rights" (3)) (c6 B9 (2) (4)))
def J4:List PV->Option (PV×Ds):=oM 2 5 (j0 2 (jR (j5 (gT "Table" 0 "full" (1))) (c6 i6 (F8 "Table" 0 "limits") (1)) (bo W5 (c6 i6 (F8 "Table" 0 "limits") (1))))::bu "Table" 0 "full" (1) (rF (gT "Table" 0 "full" (1)))::L7 (F7 (c6 i6 (F8 "Table" 0 "columns") (1))) (kG 2 (V0 3 (V0 4 kH))) bU)
def bT:DO:=j0 8 (c6 B9 (bo W5 (4)) (G8 (L9 "Table" "rest" O8 (M6 0) [(7),(1)])))::bu "Table" 0 "prices" (7) (e9 fZ [gT "Table" 0 "prices" (7),(6),(8),(5),F8 "Table" 0 "size"])
def eL:DV:=e9 fZ [(0),(8),c6 B9 (6) (1),(7),F8 "Table" 2 "size"]
def bR:DV:=c6 B9 (5) (0)
def bP:List PV->Option (PV×Ds):=oM 4 10 (C3 (j5 (gT "Table" 0 "full" (1))) (J9 (J1 "Table" "flip" 0 J4 (J5 (1) cM))) q9::j0 4 (jR (j5 (c6 oK (c6 i6 (3) (2)) #[0])) #[1] (bo W5 #[1]))::j0 5 (c6 B9 (4) (c6 i6 (3) (2)))::j0 6 (c6 i6 (F8 "Table" 0 "inverse") (2))::L7 (F7 (fC dW)) (A8 7) bT::K4 9 (k6 (D5 cZ [F8 "Table" 0 "inverse",(3)]) (P1 2) k7 eL)::X3 9 (2) (k6 (F7 (6)) k8 k7 bR)::jx 9 (T7 "Table" 0 "inverse" gW (9))::T7 "Table" 0 "size" gW (5)::bu "Table" 0 "chosen" (2) (1))
def jH:DO:=j0 4 (c6 B9 (2) (L9 "Table" "rest" O8 (0) [(3),(1)]))::C3 (j5 (c6 P6 (4) #[0])) (t6 (jR (j5 (c6 qF (4) #[0])) (m3 [(3),(4)]) (fC .none))) q9
def kD:FV:=D1 2 5 (C3 (j5 (c6 J8 (c6 i6 (z9 "Table" "limits" (0)) (1)) #[0])) (t6 (fC .none)) q9::j0 2 (jR (j5 (c6 i6 (z9 "Table" "full" (0)) (1))) (bo W5 #[1]) #[1])::L7 (F7 (fC dW)) (A8 3) jH::t6 (fC .none))
def af:DO:=j0 5 (e9 kD [(0),(4)])::C3 (hG (j5 (c6 aH (5) (fC .none))) (cz (j5 (c6 cR (2) (fC .none))) (j5 (c6 uH (5) (3))))) (j0 2 (4)::j0 3 (5)::C3 (j5 (1)) (Q6 2) q9) q9
def gd:FV:=D1 2 6 (j0 2 (fC .none)::j0 3 (fC .none)::L7 (D5 G6 [e9 M4 [z9 "Table" "full" (0)]]) (A8 4) af::Q6 2)
def gG:DO:=j0 7 (c6 i6 (z9 "Table" "chosen" (0)) (5))::j0 8 (c6 i6 (z9 "Table" "limits" (0)) (7))::j0 9 (c6 B9 (4) (c6 i6 (2) (5)))::C3 (j5 (c6 oK (9) #[0])) (de 3 (m3 [(6),(9),(7),(5),fC (.bool false)])) (C3 (hG (j5 (c6 qF (9) #[0])) (j5 (c6 aH (8) (fC .none)))) (de 3 (m3 [c6 pV (c6 B9 (8) (z9 "Table" "size" (0))) (6),bo W5 (9),(7),(5),fC (.bool true)])) q9)
def gB:FV:=D1 3 10 (K4 3 (O7 m6)::C3 (j5 (c6 aH (c6 i6 (z9 "Table" "limits" (0)) (1)) (fC .none))) (de 3 (m3 [c6 i6 (z9 "Table" "limits" (0)) (1),#[1],(1),fC .none,fC (.bool false)])) q9::j0 4 (jR (j5 (c6 i6 (z9 "Table" "full" (0)) (1))) (bo W5 #[1]) #[1])::L7 (D5 lu [L9 "Table" "amounts" O3 (0) m6]) (kG 2 (V0 5 (V0 6 kH))) gG::Q6 3)
def ni:FV:=D1 2 4 (j0 2 (c6 B9 (c6 i6 (0) #[0]) (c6 i6 (1) #[1]))::j0 3 (c6 B9 (c6 i6 (1) #[0]) (c6 i6 (0) #[1]))::t6 (GR (c6 qF (2) (3)) (kJ (c6 J8 (2) (3)) (c6 qF (c6 i6 (0) #[2]) (c6 i6 (1) #[2])))))
def aj:DO:=C3 (cz (j5 (c6 cR (1) (fC .none))) (j5 (e9 ni [(2),(1)]))) (j0 1 (2)) q9
def ax:FV:=D1 1 3 (j0 1 (fC .none)::L7 (F7 (0)) (A8 2) aj::Q6 1)
def kB:List PV->Option (PV×Ds):=oM 4 4 (C3 (j5 (c6 cR (c6 i6 (3) #[3]) (fC .none))) (J9 (J1 "Table" "flip" 0 J4 (J5 (1) cM))::ma) q9::J9 (J1 "Table" "turn" 0 bP (J5 (1) (J5 (c6 i6 (3) #[3]) (J5 (2) cM))))::C3 (j5 (c6 i6 (3) #[4])) (J9 (J1 "Table" "flip" 0 J4 (J5 (c6 i6 (3) #[2]) cM))) q9)
def qB:DV:=jR (j5 (1)) (0) (fC ba)
def lI:DO:=X3 2 (3) (e9 W0 [c6 B9 (4) (c6 i6 (z9 "Table" "scales" (0)) (3)),c6 B9 (z9 "Table" "size" (0)) (z9 "Table" "unit" (0))])
def bg:FV:=D1 2 5 (K4 2 (k6 (D5 cZ [(1),z9 "Table" "full" (0)]) (P1 2) k7 qB)::L7 (D5 cZ [z9 "Table" "chosen" (0),L9 "Table" "amounts" O3 (0) m6]) (kG 2 (V0 3 (V0 4 kH))) lI::Q6 2)
def bQ:DV:=e9 W0 [c6 i6 (c6 i6 (z9 "Table" "prices" (1)) (0)) (2),c6 B9 (z9 "Table" "size" (1)) (c6 i6 (z9 "Table" "multiples" (1)) (0))]
def iG:FV:=D1 2 3 (j0 2 (k6 (F7 (fC dW)) k8 k7 bQ)::t6 (e9 pR [(2)]))
def lH:DO:=X3 3 (4) (e9 W0 [c6 B9 (bo W5 (5)) (c6 i6 (z9 "Table" "scales" (0)) (4)),z9 "Table" "size" (0)])
def fY:FV:=D1 3 6 (K4 3 (c6 nI (O7 [fC ba]) (e9 M4 [z9 "Table" "full" (0)]))::X3 3 (1) (m3 [c6 i6 (z9 "Table" "scales" (0)) (1),#[1]])::L7 (D5 cZ [z9 "Table" "chosen" (0),(2)]) (kG 2 (V0 4 (V0 5 kH))) lH::Q6 3)
def aT:DB:=j5 (c6 aH (6) (fC .none))
def aa:DO:=j0 7 (G8 (L9 "Table" "paces" T4 (M6 5) [(6)]))::j0 8 (e9 ax [G8 (e9 gB [M6 5,(6),(7)])])::C3 (j5 (c6 cR (8) (fC .none))) (t6 (tH (bq (fC (.str "endless")) (bq (G8 (e9 bg [M6 5,(3)])) (bq (G8 (e9 fY [M6 5,(6),(7)])) uw))))) q9::J9 (gU kB (fO 5 (J5 (6) (J5 (7) (J5 (8) cM)))))::j0 6 (G8 (e9 gd [M6 5,c6 J8 (c6 i6 (8) #[0]) #[0]]))
def lE:DV:=G8 (e9 iG [M6 6,(0)])
def nj:FV:=D1 5 9 (K4 5 (tI "Table" ah [(0),(1),(2),(3),(4)])::j0 6 (G8 (e9 gd [M6 5,fC (.bool false)]))::fD (Ir aT aa) aT aa::t6 (tH (bq (fC (.str "best")) (bq (G8 (e9 bg [M6 5,(3)])) (bq (k6 (D5 G6 [e9 M4 [(1)]]) k8 k7 lE) uw)))))
def A6:FV:=D1 3 5 (j0 3 #[0]::C3 (j5 (c6 oK (e9 M4 [(0)]) #[0])) (j0 3 (c6 i6 (0) (c6 cc (1) (e9 M4 [(0)])))::C3 (j5 (c6 J8 (c6 cc (c6 i6 (0) #[0]) #[2]) #[1])) (t6 (c6 cc (c6 cc (c6 HA (c6 ay (3) #[2]) (c6 B9 #[32] (c6 ay (1) (e9 M4 [(0)])))) (c6 uu #[2] #[32])) (2))) q9) q9::j0 4 (c6 cc (c6 B9 (c6 F3 (c6 cc (3) #[1000003]) #[1]) (c6 F3 (c6 F3 (c6 B9 (1) (1)) (1)) #[41])) #[999983])::t6 (c6 cc (c6 ay (c6 cc (c6 B9 (c6 cc (c6 B9 (4) (c6 F3 (4) #[7919])) #[2147483647]) #[69621]) #[2147483629]) #[11]) (2)))
def iM:DB:=j5 (c6 oK (3) #[0])
def iP:DO:=j0 4 (c6 cc (2) (3))::j0 2 (3)::j0 3 (4)
def cu:FV:=D1 2 5 (j0 2 (e9 qu [(0)])::j0 3 (1)::fD (sX 3) iM iP::t6 (m3 [c6 ay (0) (2),c6 ay (1) (2)]))
def gD:FV:=D1 2 2 (t6 (e9 cu [c6 F3 (c6 B9 (c6 i6 (0) #[0]) (c6 i6 (1) #[1])) (c6 B9 (c6 i6 (1) #[0]) (c6 i6 (0) #[1])),c6 B9 (c6 i6 (0) #[1]) (c6 i6 (1) #[1])]))
def aS:FV:=D1 2 2 (t6 (e9 cu [c6 B9 (c6 i6 (0) #[0]) (c6 i6 (1) #[0]),c6 B9 (c6 i6 (0) #[1]) (c6 i6 (1) #[1])]))
def qC:DV:=e9 gD [c6 i6 (1) (0),e9 aS [c6 i6 (2) (0),(3)]]
def dI:FV:=D1 3 3 (t6 (e9 pR [k6 (D5 G6 [#[3]]) k8 k7 qC]))
def gF:FV:=D1 2 2 (t6 (c6 qF (c6 B9 (c6 i6 (0) #[0]) (c6 i6 (1) #[1])) (c6 B9 (c6 i6 (1) #[0]) (c6 i6 (0) #[1]))))
def kU:DO:=C3 (j5 (c6 P6 (c6 i6 (0) (2)) (c6 i6 (1) (2)))) (t6 (e9 gF [c6 i6 (0) (2),c6 i6 (1) (2)])) q9
def cK:FV:=D1 2 3 (L7 (D5 G6 [#[3]]) (A8 2) kU::t6 (fC (.bool false)))
def dH:FV:=D1 1 1 (t6 (m3 [c6 pV #[0] (c6 i6 (0) #[0]),c6 i6 (0) #[1]]))
def gC:FV:=D1 1 1 (t6 (kJ (ck "int" (0)) (rF (ck "bool" (0)))))
def X7:FV:=D1 1 1 (C3 (cz (cO (j5 (ck "tuple" (0)))) (cz (j5 (c6 P6 (e9 M4 [(0)]) #[2])) (cz (cO (j5 (e9 gC [c6 i6 (0) #[0]]))) (cO (j5 (e9 gC [c6 i6 (0) #[1]])))))) (t6 (fC (.bool false))) q9::t6 (kJ (c6 oK (c6 i6 (0) #[1]) #[0]) (c6 J8 (e9 cu [c6 i6 (0) #[0],c6 i6 (0) #[1]]) (0))))
def iK:DV:=e9 X7 [(0)]
def cJ:FV:=D1 1 1 (C3 (cz (cO (j5 (ck "tuple" (0)))) (j5 (c6 P6 (e9 M4 [(0)]) #[3]))) (t6 (fC (.bool false))) q9::t6 (e9 rP [k6 (F7 (0)) k8 k7 iK]))
def Q1:FV:=D1 4 6 (j0 4 (c6 i6 (O7 [#[1],#[1],#[1],#[2],#[3],#[10]]) (e9 A6 [(0),c6 F3 (1) #[1900],#[6]]))::j0 5 (c6 i6 (O7 [#[1],#[1],#[1],#[1],#[1],#[1000]]) (e9 A6 [(0),#[1],#[6]]))::t6 (e9 cu [c6 B9 (5) (c6 F3 (2) (e9 A6 [(0),(1),c6 F3 (c6 pV (3) (2)) #[1]])),(4)]))
def jn:FV:=D1 2 5 (j0 2 (m3 [#[0],#[1]])::j0 3 (m3 [#[0],#[1]])::C3 (j5 (c6 J8 (e9 A6 [(0),c6 F3 (1) #[1],#[3]]) #[0])) (j0 2 (e9 Q1 [(0),c6 F3 (1) #[2],bo W5 #[2],#[3]])) q9::C3 (j5 (c6 J8 (e9 A6 [(0),c6 F3 (1) #[3],#[2]]) #[0])) (j0 3 (e9 Q1 [(0),c6 F3 (1) #[4],bo W5 #[2],#[3]])) q9::j0 4 (e9 Q1 [(0),c6 F3 (1) #[5],bo W5 #[6],#[9]])::C3 (j5 (c6 J8 (e9 A6 [(0),c6 F3 (1) #[6],#[12]]) #[0])) (j0 2 (m3 [c6 pV (c6 B9 #[2] (e9 A6 [(0),c6 F3 (1) #[7],#[2]])) #[1],c6 uu #[10] #[60]])::j0 4 (e9 cu [c6 B9 (c6 i6 (4) #[0]) (c6 uu #[10] #[60]),c6 i6 (4) #[1]])) q9::t6 (m3 [(2),(3),(4)]))
def nu:DV:=m3 [e9 A6 [(1),c6 F3 #[40] (0),#[1000]],(0)]
def nt:DV:=c6 i6 (0) #[1]
def eJ:FV:=D1 3 4 (j0 3 (e9 jq [k6 (D5 G6 [(1)]) k8 k7 nu])::t6 (k6 (F7 (GQ Sz (3) Af (vE (2)))) k8 k7 nt))
def iN:DO:=j0 7 (m3 [#[0],#[1]])::C3 (hG (j5 (c6 rk (6) (2))) (j5 (c6 oK (e9 A6 [(0),c6 F3 (c6 F3 #[100] (c6 B9 #[20] (4))) (6),#[3]]) #[0]))) (j0 7 (e9 Q1 [(0),c6 F3 (c6 F3 #[300] (c6 B9 #[20] (4))) (6),bo W5 #[4],#[6]])) q9::de 5 (7)
def lJ:DO:=K4 5 (O7 m6)::L7 (D5 G6 [(1)]) (A8 6) iN::X3 5 (c6 i6 (2) (4)) (m3 [#[1],#[1]])::jx 5 (de 3 (5))
def gi:FV:=D1 3 8 (K4 3 (O7 m6)::L7 (D5 G6 [e9 M4 [(2)]]) (A8 4) lJ::Q6 3)
def fS:DO:=C3 (hG (j5 (c6 P6 (c6 i6 (c6 i6 (0) (3)) #[0]) #[0])) (j5 (c6 P6 (c6 i6 (c6 i6 (1) (3)) #[0]) #[0]))) (j0 2 (e9 gD [(2),e9 aS [c6 i6 (0) (3),c6 i6 (1) (3)]])) q9
def bh:FV:=D1 2 4 (j0 2 (m3 [#[0],#[1]])::L7 (D5 G6 [e9 M4 [(0)]]) (A8 3) fS::Q6 2)
def jF:DO:=C3 (j5 (c6 P6 (c6 i6 (c6 i6 (c6 i6 (1) (6)) (4)) #[0]) #[0])) (j0 5 (e9 dI [(5),c6 i6 (2) (6),e9 dH [c6 i6 (c6 i6 (1) (6)) (4)]])) q9
def jE:DO:=j0 5 (c6 i6 (0) (4))::L7 (D5 G6 [e9 M4 [(1)]]) (A8 6) jF::de 3 (5)
def kC:FV:=D1 3 7 (K4 3 (O7 m6)::L7 (D5 G6 [e9 M4 [(0)]]) (A8 4) jE::Q6 3)
def jG:DO:=j0 6 (e9 dI [(6),c6 i6 (4) (7),c6 i6 (2) (7)])
def fN:DO:=C3 (j5 (e9 cK [c6 i6 (8) (9),(5)])) (C3 (j5 (c6 cR (c6 i6 (3) (9)) (fC .none))) (t6 (fC .none)) q9::j0 6 (e9 dI [(6),c6 i6 (8) (9),c6 i6 (3) (9)])) q9
def gE:FV:=D1 5 10 (j0 5 (m3 [m3 [#[0],#[1]],m3 [#[0],#[1]],m3 [#[0],#[1]]])::j0 6 (5)::L7 (D5 G6 [e9 M4 [(1)]]) (A8 7) jG::j0 8 (e9 kC [(0),(1),(4)])::L7 (D5 G6 [e9 M4 [(8)]]) (A8 9) fN::Q6 6)
def jD:DO:=j0 2 (e9 dI [(2),c6 i6 (0) (3),c6 i6 (1) (3)])
def bW:FV:=D1 2 4 (j0 2 (m3 [m3 [#[0],#[1]],m3 [#[0],#[1]],m3 [#[0],#[1]]])::L7 (D5 G6 [e9 M4 [(1)]]) (A8 3) jD::Q6 2)
def kT:DV:=e9 cJ [(0)]
def kS:DV:=e9 X7 [(0)]
def J6:FV:=D1 3 3 (C3 (cz (cO (j5 (ck "list" (0)))) (j5 (c6 P6 (e9 M4 [(0)]) (1)))) (t6 (fC (.bool false))) q9::C3 (j5 (c6 J8 (2) (fC (.str "triples")))) (t6 (e9 rP [k6 (F7 (0)) k8 k7 kT])) q9::t6 (e9 rP [k6 (F7 (0)) k8 k7 kS]))
def iR:DO:=C3 (cz (j5 (c6 qF (c6 i6 (c6 i6 (3) (4)) #[0]) #[0])) (hG (j5 (c6 aH (c6 i6 (2) (4)) (fC .none))) (j5 (e9 gF [c6 i6 (2) (4),c6 i6 (3) (4)])))) (t6 (fC (.bool false))) q9
def nr:DV:=e9 bh [(0),(4)]
def iI:FV:=D1 4 5 (L7 (D5 G6 [e9 M4 [(3)]]) (A8 4) iR::t6 (c6 J8 (k6 (F7 (0)) k8 k7 nr) (1)))
def iQ:DO:=C3 (cz (j5 (c6 qF (c6 i6 (c6 i6 (3) (4)) #[0]) #[0])) (hG (j5 (c6 aH (c6 i6 (2) (4)) (fC .none))) (j5 (c6 P6 (c6 i6 (c6 i6 (3) (4)) #[0]) #[0])))) (t6 (fC (.bool false))) q9
def iJ:DV:=e9 bh [(0),(4)]
def nq:DV:=m3 [#[0],#[1]]
def iH:FV:=D1 4 5 (L7 (D5 G6 [e9 M4 [(3)]]) (A8 4) iQ::C3 (j5 (c6 P6 (k6 (F7 (1)) k8 k7 iJ) (k6 (F7 (1)) k8 k7 nq))) (t6 (fC (.bool false))) q9::t6 (e9 cK [e9 bW [(0),(3)],m3 [m3 [#[0],#[1]],m3 [#[0],#[1]],m3 [#[0],#[1]]]]))
def aR:FV:=D1 5 6 (j0 5 (e9 M4 [(0)])::C3 (cz (cO (j5 (ck "tuple" (4)))) (cz (j5 (c6 P6 (e9 M4 [(4)]) #[3])) (cO (j5 (e9 J6 [c6 i6 (4) #[1],(5),fC (.str "fractions")]))))) (t6 (fC (.bool false))) q9::C3 (cO (j5 (e9 iI [(1),(2),(3),c6 i6 (4) #[1]]))) (t6 (fC (.bool false))) q9::C3 (j5 (c6 J8 (c6 i6 (4) #[0]) (fC (.str "endless")))) (t6 (kJ (e9 J6 [c6 i6 (4) #[2],(5),fC (.str "fractions")]) (e9 iH [(0),(1),(3),c6 i6 (4) #[2]]))) q9::C3 (cz (j5 (c6 P6 (c6 i6 (4) #[0]) (fC (.str "best")))) (cO (j5 (e9 J6 [c6 i6 (4) #[2],e9 M4 [(1)],fC (.str "triples")])))) (t6 (fC (.bool false))) q9::t6 (c6 J8 (e9 gE [(0),(1),(2),(3),c6 i6 (4) #[2]]) (e9 bW [(0),c6 i6 (4) #[1]])))
def iO:DO:=j0 4 (m3 [#[0],#[1]])::C3 (j5 (c6 oK (e9 A6 [(0),c6 F3 #[500] (3),#[3]]) #[0])) (j0 4 (e9 Q1 [(0),c6 F3 #[510] (3),#[0],#[9]])) q9::de 2 (4)
def eI:FV:=D1 2 5 (K4 2 (O7 m6)::L7 (D5 G6 [(1)]) (A8 3) iO::Q6 2)
def eN:DO:=j0 6 (fC .none)::C3 (j5 (c6 oK (e9 A6 [(0),c6 F3 #[520] (5),#[3]]) #[0])) (j0 6 (e9 Q1 [(0),c6 F3 #[540] (5),#[0],#[9]])::C3 (j5 (c6 inD (5) (2))) (j0 6 (e9 gD [(6),c6 i6 (3) (lr jQ (2) [(5)])])) q9) q9::de 4 (6)
def jm:FV:=D1 4 7 (K4 4 (O7 m6)::L7 (D5 G6 [(1)]) (A8 5) eN::Q6 4)
def lF:DV:=e9 V1 [(0)]
def gh:FV:=D1 1 5 (K4 1 (Aj (bq (e9 V1 [c6 i6 (0) #[0]]) (bq (k6 (F7 (c6 i6 (0) #[1])) k8 k7 lF) (bq (e9 V1 [c6 i6 (0) #[2]]) (bq (e9 V1 [c6 i6 (0) #[3]]) (bq (e9 V1 [c6 i6 (0) #[4]]) uw))))))::K4 2 (wo (B5 (e9 nj [c6 i6 (1) #[0],c6 i6 (1) #[1],c6 i6 (1) #[2],c6 i6 (1) #[3],c6 i6 (1) #[4]])))::C3 (cz (j5 (c6 P6 (B5 (1)) (B5 (0)))) (cO (j5 (B5 (e9 aR [c6 i6 (0) #[0],c6 i6 (0) #[1],c6 i6 (0) #[2],c6 i6 (0) #[3],(2)]))))) (t6 (fC .none)) q9::j0 3 (m3 [G8 (B5 (c6 i6 (2) #[0])),G8 (B5 (e9 V1 [c6 i6 (2) #[1]])),G8 (B5 (e9 V1 [c6 i6 (2) #[2]]))])::tG 1 4::C3 (j5 (c6 P6 (B5 (2)) (B5 (3)))) (t6 (fC .none)) q9::Q6 2)
def N7:DV:=m3 [e9 A6 [(1),c6 F3 #[1010] (0),#[1000]],(0)]
def fg:DV:=c6 i6 (0) #[1]
def Y5:DO:=K4 8 (O7 [m3 [#[0],#[1]],m3 [#[0],#[1]],m3 [#[0],#[1]]])::X3 8 (4) (e9 aS [c6 i6 (1) (7),(5)])::jx 8 (de 6 (e9 pR [(8)]))
def ff:DV:=c6 i6 (uP 4 (0)) (1)
def bB:DV:=k6 (F7 (4)) k8 k7 ff
def eZ:DV:=lr jQ (4) [c6 F3 #[4] (0)]
def eX:DV:=fC .none
def cY:FV:=D1 1 11 (j0 1 (O7 [m3 [bo W5 #[3],#[4]],m3 [#[20],#[1]],m3 [bo W5 #[1],#[2]],m3 [#[6],#[1]],m3 [#[0],#[1]],m3 [#[0],#[1]],m3 [#[0],#[1]]])::K4 2 (O7 [m3 [m3 [#[1],#[4]],m3 [#[1],#[2]],m3 [#[0],#[1]]],m3 [m3 [bo W5 #[8],#[1]],m3 [bo W5 #[12],#[1]],m3 [#[0],#[1]]],m3 [m3 [bo W5 #[1],#[1]],m3 [bo W5 #[1],#[2]],m3 [#[1],#[1]]]])::IW 2 (O7 [m3 [m3 [#[9],#[1]],m3 [#[3],#[1]],m3 [#[0],#[1]]],m3 [m3 [#[1],#[1]],m3 [#[0],#[1]],m3 [#[0],#[1]]],m3 [m3 [#[0],#[1]],m3 [#[1],#[1]],m3 [#[0],#[1]]]])::de 2 (m3 [m3 [#[0],#[1]],m3 [#[0],#[1]],m3 [#[1],#[1]]])::j0 3 (uO #[7])::C3 (j5 (c6 J8 (e9 A6 [(0),#[1000],#[2]]) #[0])) (j0 3 (k6 (F7 (e9 jq [k6 (D5 G6 [#[7]]) k8 k7 N7])) k8 k7 fg)) q9::j0 4 (e9 A6 [(0),#[1020],#[3]])::j0 5 (m3 [c6 F3 #[1] (e9 A6 [(0),#[1021],#[9]]),#[1]])::K4 6 (O7 m6)::L7 (F7 (3)) (A8 7) Y5::j0 9 (k6 (D5 G6 [#[3]]) k8 k7 bB)::j0 10 (k6 (D5 G6 [#[3]]) k8 k7 eZ)::t6 (B5 (O7 [(6),(9),O7 [m3 [#[0],#[1]],m3 [#[0],#[1]],m3 [#[1],#[1]]],k6 (F7 (3)) k8 k7 eX,(10)])))
def pJ:DV:=e9 jn [(1),c6 F3 #[700] (c6 B9 #[10] (0))]
def jo:DO:=j0 11 (c6 i6 (6) (10))::C3 (j5 (c6 cR (11) (fC .none))) (j0 11 (e9 Q1 [(0),c6 F3 #[950] (10),#[5],#[9]])::C3 (j5 (c6 inD (10) (3))) (j0 11 (e9 gD [(11),c6 i6 (5) (lr jQ (3) [(10)])])) q9) q9::de 9 (11)
def qz:FV:=D1 1 18 (j0 1 (e9 A6 [(0),#[5],#[5]])::j0 2 (c6 F3 (c6 F3 (1) #[1]) (e9 A6 [(0),#[6],#[6]]))::j0 3 (e9 eJ [(0),(2),(1)])::j0 4 (e9 gi [(0),(2),(3)])::j0 5 (e9 eI [(0),(1)])::j0 6 (e9 jm [(0),(2),(3),(5)])::j0 7 (k6 (D5 G6 [(2)]) k8 k7 pJ)::j0 8 (O7 [(7),(4),(5),(6),(3)])::K4 9 (O7 m6)::L7 (D5 G6 [(2)]) (A8 10) jo::jx 9 (j0 12 (O7 [(7),(4),(5),(9),(3)]))::K4 13 (e9 gh [(8)])::C3 (j5 (c6 cR (B5 (13)) (B5 (fC .none)))) (t6 (fC (.bool false))) q9::j0 14 (m3 [G8 (B5 (c6 i6 (13) #[0])),G8 (B5 (e9 V1 [c6 i6 (13) #[1]])),G8 (B5 (e9 V1 [c6 i6 (13) #[2]]))])::K4 15 (e9 gh [(12)])::C3 (cz (j5 (c6 cR (B5 (15)) (B5 (fC .none)))) (j5 (c6 P6 (B5 (c6 i6 (15) #[0])) (B5 (fC (.str "best")))))) (t6 (fC (.bool false))) q9::qk 15 1::qk 15 2::K4 16 (e9 gh [(8)])::C3 (cz (j5 (c6 cR (B5 (16)) (B5 (fC .none)))) (j5 (c6 P6 (B5 (c6 i6 (16) #[0])) (B5 (c6 i6 (13) #[0]))))) (t6 (fC (.bool false))) q9::qk 16 1::qk 16 2::K4 17 (e9 gh [e9 cY [(0)]])::t6 (B5 (kJ (c6 aH (17) (fC .none)) (kJ (c6 J8 (c6 i6 (17) #[0]) (fC (.str "best"))) (c6 J8 (13) (14))))))
end
end Law
set_option maxHeartbeats 400000
local macro_rules | `(tactic| walk_at "r") => `(tactic| simp only[L2.D1, L2.m8, L2.j9, L2.AL, L2.AM, L2.yX, L2.yr, L2.zm, L2.aY, L2.nJ, L2.C3, L2.t6, L2.Q6, L2.Td, L2.q9, L2.Te, L2.LR, L2.Th, L2.Tg, L2.Yu, L2.GK, L2.L7, L2.fD, L2.jx, L2.uL, L2.i8, L2.fC, L2.c6, L2.bo, L2.e9, L2.m3, L2.O7, L2.GQ, L2.jR, L2.kJ, L2.GR, L2.rF, L2.Mb, L2.ck, L2.Tt, L2.Flat, L2.B5, L2.U0, L2.k6, L2.Af, L2.vE, L2.Hh, L2.uY, L2.i9, L2.m6, L2.j5, L2.cO, L2.hG, L2.cz, L2.k7, L2.D5, L2.F7, L2.vw, L2.yW, L2.Bk, L2.zd, L2.mn, L2.jT, L2.A8, L2.kG, L2.V0, L2.kH, L2.k8, L2.P1, L2.PV.gX, L2.PV.wx, L2.sX,
 L2.CC,L2.AE,L2.Gr,L2.Gx,L2.GH,L2.GI,L2.mi,L2.Bw,L2.BZ,L2.Bv,L2.GD,L2.BL,L2.CD,L2.Bs,L2.zo,L2.BF,L2.yO,L2.Ay,L2.vN,L2.zk,L2.FA,L2.AH,L2.uJ,L2.tV,L2.Cq,L2.BN,L2.zv,L2.yS,L2.zE,L2.uP,L2.Ma,L2.Tf,L2.dU,L2.TJ,L2.TH,L2.TF,L2.TC,L2.TB,L2.Tz,L2.Tx,L2.zu,L2.Hr,String.reduceBEq,
 i7,MW,mO,MM,o5,P2,O1,mR,v5,Z4,aO,cX,V9,sv,xE,R4,Nat.reduceAdd,Nat.reduceSub,Nat.reduceEqDiff,Nat.reduceLeDiff,Nat.reduceLT,Int.reduceToNat,Nu,eq_self,
 w9,N9,reduceIte,sk,decide_true,decide_false,aB,DK,qw,Bool.not_true,Bool.not_false,mV,not_false_eq_true,Bool.true_or,Bool.false_or,Bool.or_true,Dg,De,Bool.true_and,Dp,xh,reduceCtorEq,and_self])
namespace Law
open PySem L2
section
variable{y t z D D' M' N E F L lo:Int}{m k:Nat}{p q a:Q2}{ns:List Int}{α:Type}{e:c5}
abbrev gc(a b:Int):Int:=(l9 a b:Nat)
theorem BP(x y:Int):l9 y (x.fmod y)=l9 x y:=by
 rw[Int.fmod_def];apply Nat.dvd_antisymm
 . apply Int.dvd_gcd
   . have h1:((l9 y (x-y*x.fdiv y):Nat):Int)∣y:=mT ..;have h2:((l9 y (x-y*x.fdiv y):Nat):Int)∣x-y*x.fdiv y:=mU ..;have h3:=Int.dvd_add h2 (Ed (c:=x.fdiv y) h1)
     rwa [Int.sub_add_cancel]at h3
   . exact mT ..
 . apply Int.dvd_gcd
   . exact mU ..
   . exact Int.dvd_sub (mT ..) (Ed (mU ..))
theorem oE(x:Int)(h:y≠0):(x.fmod y).natAbs<y.natAbs:=by
 rcases Int.lt_or_gt_of_ne h with hy|hy
 . have e:Int.fmod x y=x % y+if 0<=y\/y∣x then 0 else y:=Int.fmod_eq_emod
   have h1:=Int.emod_nonneg x h;have h2:=Int.emod_lt x h;split at e<;>omega
 . have h1:=lD x hy;have h2:=mY x hy;omega
def r9(t b:Int):Int×Int:=(t.fdiv (if b<0 then -gc t b else gc t b),b.fdiv (if b<0 then -gc t b else gc t b))
structure l7(m:Nat)(q:Int×Int):Prop where
 pos:0<q.2
 low:l9 q.1 q.2=1
 bt:Bt m q.1
 bb:Bt m q.2
theorem l7.mono{m n:Nat}{q:Int×Int}(h:l7 m q)(hl:m<=n):l7 n q:=⟨h.pos,h.low,h.bt.mono hl,h.bb.mono hl⟩
theorem cj{b:Int}(hb:0<b)(ht:Bt m t)(hbb:Bt m b):l7 m (r9 t b):=by
 have hg:0<l9 t b:=qy t ∅;have hgi:(0:Int)<gc t b:=by show(0:Int)<((l9 t b:Nat):Int);lia
 have e:r9 t b=(t/gc t b,b/gc t b):=by delta r9;rw[c9 ∅,eH _ ∅,eH _ ∅]
 have d1:gc t b∣t:=mT ..;have d2:gc t b∣b:=mU ..;rw[e];refine⟨Ol hb ∅ d2,Ei hg,?_,?_⟩
 . have:=ht.fdiv (j:=gc t b)
   rwa [eH _ ∅]at this
 . have:=hbb.fdiv (j:=gc t b)
   rwa [eH _ ∅]at this
theorem Ri{n:Nat}{p q:Int×Int}(hp:l7 m p)(hq:l7 n q)(h:p.1*q.2-q.1*p.2=0):p=q:=by
 obtain⟨a,b⟩:=p;obtain⟨c,d⟩:=q;have pb:0<b:=hp.pos;have pd:0<d:=hq.pos;have g1:l9 a b=1:=hp.low;have g2:l9 c d=1:=hq.low;have e:a*d=c*b:=by have:a*d-c*b=0:=h;lia
 have k1:b∣d:=by
  have z:b∣a*d:=⟨c,by rw[e,D4]⟩
  have z':b.natAbs∣a.natAbs*d.natAbs:=by rw[<-aN];exact Int.natAbs_dvd_natAbs.mpr z
  have cp:wM b.natAbs a.natAbs:=by rw[xp];exact g1
  exact Int.natAbs_dvd_natAbs.mp (cp.dvd_of_dvd_mul_left z')
 have k2:d∣b:=by
  have z:d∣c*b:=⟨a,by rw[<-e,D4]⟩
  have z':d.natAbs∣c.natAbs*b.natAbs:=by rw[<-aN];exact Int.natAbs_dvd_natAbs.mpr z
  have cp:wM d.natAbs c.natAbs:=by rw[xp];exact g2
  exact Int.natAbs_dvd_natAbs.mp (cp.dvd_of_dvd_mul_left z')
 have ebd:b=d:=by
  have:=fP pd k1;have:=fP pb k2
  lia
 subst ebd;have:a=c:=sE ∅ e;rw[this]
theorem Ah{b:Int}(hb:b≠0)(h:Bt m b):Bt m (gc t b):=h.of_le (by
 have h1:=Int.gcd_le_natAbs_right t hb;show((l9 t b:Nat):Int).natAbs<=_
 lia)
theorem Ta{b:Int}(hb:b≠0):gc t b≠0:=by
 have h1:=qy t hb;show((l9 t b:Nat):Int)≠0
 lia
theorem Yt(t b:Int):gc (if t<0 then -t else t) (if b<0 then -b else b)=gc t b:=by
 show((l9 _ _:Nat):Int)=(l9 t b:Nat)
 have e1:∀x y:Int,l9 (if x<0 then -x else x) y=l9 x y:=λx y=>by split<;>simp
 have e2:∀x y:Int,l9 x (if y<0 then -y else y)=l9 x y:=λx y=>by split<;>simp
 rw[e1,e2]
abbrev fr(q:Int×Int):c5:=.tuple [.int q.1,.int q.2]
def P0(p q:Int×Int):Int×Int:=r9 (p.1*q.2+q.1*p.2) (p.2*q.2)
def D0(p q:Int×Int):Int×Int:=r9 (p.1*q.1) (p.2*q.2)
def jL(p q:Int×Int):Bool:=decide (p.1*q.2<q.1*p.2)
abbrev Q2:=Int×Int
def val(q:Q2):Rat:=(q.1:Rat)/(q.2:Rat)
theorem bK{b:Int}(h:b≠0):(b:Rat)≠0:=by exact_mod_cast h
theorem oo{b:Int}(hb:0<b):val (r9 t b)=(t:Rat)/(b:Rat):=by
 have hg:0<l9 t b:=qy t ∅;have hgi:(0:Int)<gc t b:=by show(0:Int)<((l9 t b:Nat):Int);lia
 have e:r9 t b=(t/gc t b,b/gc t b):=by delta r9;rw[c9 ∅,eH _ ∅,eH _ ∅]
 have d1:t/gc t b*gc t b=t:=xw (mT ..);have d2:b/gc t b*gc t b=b:=xw (mU ..);rw[e];show((t/gc t b:Int):Rat)/((b/gc t b:Int):Rat)=_
 have hb2:b/gc t b≠0:=λz=>by rw[z]at d2;lia
 have r1:=bK hb2;have r2:=bK (show gc t b≠0 by lia)
 have r3:=bK (show b≠0 by lia)
 generalize gc t b=g at *;have c1:((t/g:Int):Rat)*(g:Rat)=(t:Rat):=by exact_mod_cast d1
 have c2:((b/g:Int):Rat)*(g:Rat)=(b:Rat):=by exact_mod_cast d2
 generalize ((t/g:Int):Rat)=x at *;generalize ((b/g:Int):Rat)=y at *;generalize (g:Rat)=z at *;rw[<-c1,<-c2];grind
theorem uh(hp:0<p.2)(hq:0<q.2):val (P0 p q)=val p+val q:=by
 delta P0;rw[oo (H0 hp hq)];have r1:=bK (show p.2≠0 by lia)
 have r2:=bK (show q.2≠0 by lia)
 delta val
 push_cast
 grind
theorem ny(hp:0<p.2)(hq:0<q.2):val (D0 p q)=val p*val q:=by
 delta D0;rw[oo (H0 hp hq)];have r1:=bK (show p.2≠0 by lia)
 have r2:=bK (show q.2≠0 by lia)
 delta val
 push_cast
 grind
theorem val_inj{n:Nat}(hp:l7 m p)(hq:l7 n q)(h:val p=val q):p=q:=by
 refine Ri hp hq ?_;have r1:=bK (show p.2≠0 by have:=hp.pos;lia)
 have r2:=bK (show q.2≠0 by have:=hq.pos;lia)
 have h':(p.1:Rat)/(p.2:Rat)=(q.1:Rat)/(q.2:Rat):=h;have e:(p.1:Rat)*(q.2:Rat)-(q.1:Rat)*(p.2:Rat)=0:=by grind
 exact_mod_cast e
theorem val_one(n:Int):val (n,1)=(n:Rat):=by
 show(n:Rat)/((1:Int):Rat)=n
 grind
theorem jP{n:Nat}(hp:l7 m p)(hq:l7 n q):l7 (m+n+1) (P0 p q) :=
 cj (H0 hp.pos hq.pos) ((hp.bt.mul hq.bb).add ((hq.bt.mul hp.bb).mono ∅)) ((hp.bb.mul hq.bb).mono ∅)
theorem O9{n:Nat}(hp:l7 m p)(hq:l7 n q):l7 (m+n) (D0 p q) :=
 cj (H0 hp.pos hq.pos) (hp.bt.mul hq.bt) (hp.bb.mul hq.bb)
theorem jb{n:Int}(h:Bt m n)(hm:1<=m):l7 m (n,1):=⟨by show(0:Int)<1;decide,by show l9 n 1=1;simp,h,Bt.mono (m:=1) ⟨by show(1:Int).natAbs<2 ^ 1;decide⟩ hm⟩
theorem Bz(h:l7 m q):r9 q.1 q.2=q:=by
 have hp:=h.pos;have h1:gc q.1 q.2=1:=by show((l9 q.1 q.2:Nat):Int)=1;rw[h.low];rfl
 delta r9;rw[c9 ∅,h1];simp
theorem El(x y:Int)(z:Option PV):X0 [iD x,iD y,z]=some (!decide (y=0)):=by delta X0;symm
theorem RZ(x:Int)(z:Option PV)(h:y≠0):X1 [iD x,iD y,z]=some (.next [iD y,iD (x.fmod y),iD (x.fmod y)]):=by delta X1;symm;rw[ar h];symm
theorem rM{x:Int}(hx:0<=x)(hy:0<=y):P7 [.int x,.int y]=some (.dat (.int (gc x y))):=by
 delta P7;symm;obtain⟨ds',h1,⟨x',y',z',rfl,hg,hx',hy'⟩,h3⟩:=yK (Fc:=X0) (G:=X1) (λds=>∃x' y' z',ds=[iD x',iD y',z']/\gc x' y'=gc x y/\0<=x'/\0<=y') (λds=>sX 1 ds-1) (by
  rintro ds ⟨x',y',z',rfl,hg,hx',hy'⟩;rw[El];by_cases h:y'=0
  . left;simp[h]
  . right;refine⟨by simp[h],_,RZ x' z' h,⟨y',x'.fmod y',_,rfl,?_,hy',lD x' ∅⟩,?_⟩
    . rw[<-hg];show((l9 y' (x'.fmod y'):Nat):Int)=(l9 x' y':Nat)
      rw[BP]
    . have:=oE x' h;symm
      lia) (y.natAbs+1) [iD x,iD y,none] ⟨x,y,none,rfl,rfl,hx,hy⟩ (by walk_at "r";lia)
 rw[El]at h3;have hz:y'=0:=by simpa using h3
 subst hz;have e:gc x' 0=x':=by show((l9 x' 0:Nat):Int)=x';rw[Nt];lia
 rw[h1,<-hg,e];symm
theorem jy{b:Int}(hb:b≠0)(hbb:Bt 8000 b):W0 [.int t,.int b]=some (.dat (fr (r9 t b))):=by
 delta W0;symm;rw[c9 hb];symm;rw[rM (by split<;>lia) (by split<;>lia),Yt]
 symm;have hg:=Ta (t:=t) hb;have hgb:=Ah (t:=t) hb hbb;delta r9;by_cases h0:b<0
 . simp only[c7 h0];symm;rw[L8 ∅ hgb.neg,L8 ∅ hgb.neg];rfl
 . simp only[c9 h0];symm;rw[L8 hg hgb,L8 hg hgb];rfl
theorem By{b x:Int}(hb:0<b)(hy:0<y)(hc:l9 x y=1)(he:t*y=x*b):r9 t b=(x,y):=by
 have hg:0<l9 t b:=qy t ∅;have hgi:(0:Int)<gc t b:=by show(0:Int)<((l9 t b:Nat):Int);lia
 have k1:y∣b:=by
  have z:y∣x*b:=⟨t,by rw[<-he,D4]⟩
  have z':y.natAbs∣x.natAbs*b.natAbs:=by rw[<-aN];exact Int.natAbs_dvd_natAbs.mpr z
  have cp:wM y.natAbs x.natAbs:=by rw[xp];exact hc
  exact Int.natAbs_dvd_natAbs.mp (cp.dvd_of_dvd_mul_left z')
 obtain⟨k,rfl⟩:=k1;have hk:0<k:=by
  rcases cI 0 k with h|h
  . exact h
  . have:=wJ (Q7 hy) h;lia
 have ht:t=x*k:=by
  have:t*y=(x*k)*y:=by rw[he,H9,D4 y k]
  exact sE ∅ this
 subst ht;have e:l9 (x*k) (y*k)=k.natAbs:=by rw[Int.gcd_mul_right,hc,Nat.one_mul]
 have eg:gc (x*k) (y*k)=k:=by show((l9 _ _:Nat):Int)=k;rw[e];lia
 delta r9;rw[c9 ∅,eg,eH _ ∅,eH _ ∅,ND _ ∅,ND _ ∅]
theorem yF{x:Int}(h1:l9 x y=1)(h2:l9 x z=1):l9 x (y*z)=1:=by
 show Nat.gcd x.natAbs (y*z).natAbs=1
 rw[aN];exact Nat.Coprime.mul_right h1 h2
theorem lz{x:Int}(h1:l9 x y=1)(h2:z∣y):l9 x z=1 :=
 Nat.Coprime.coprime_dvd_right (Int.natAbs_dvd_natAbs.mpr h2) h1
theorem fV{x:Int}(h:l9 x y=1):l9 y x=1:=by rw[Int.gcd_comm];exact h
theorem JI{a b c d:Int}(hb:0<b)(hd:0<d)(h1:l9 a b=1)(h2:l9 c d=1):
  let e:=gc a d
  let f:=gc c b
  0<e/\0<f/\r9 (a*c) (b*d)=(a.fdiv e*c.fdiv f,b.fdiv f*d.fdiv e):=by
 have key:∀{x y:Int},0<y->∃x' y',0<gc x y/\x=gc x y*x'/\y=gc x y*y'/\0<y'/\l9 x' y'=1/\x.fdiv (gc x y)=x'/\y.fdiv (gc x y)=y':=by
  intro x y hy;have hg:0<l9 x y:=qy x ∅;have hs:(0:Int)<gc x y:=by show(0:Int)<((l9 x y:Nat):Int);lia
  obtain⟨x',hx'⟩:gc x y∣x:=mT ..;obtain⟨y',hy'⟩:gc x y∣y:=mU ..
  have q1 : x / gc x y = x' := by conv => lhs; lhs; rw [hx']
                                  rw[Eg _ ∅]
  have q2 : y / gc x y = y' := by conv => lhs; lhs; rw [hy']
                                  rw[Eg _ ∅]
  refine⟨x',y',hs,hx',hy',?_,?_,?_,?_⟩
  . rcases cI 0 y' with h|h
    . exact h
    . have:=wJ (Q7 hs) h;lia
  . have:=Ei (i:=x) (j:=y) hg;have q1':x/((l9 x y:Nat):Int)=x':=q1;have q2':y/((l9 x y:Nat):Int)=y':=q2
    rwa [q1',q2']at this
  . rw[eH _ ∅,q1]
  . rw[eH _ ∅,q2]
 obtain⟨a',d',he,ea,ed,pd,ce,fa,fd⟩:=key (x:=a) hd;obtain⟨c',b',hf,ec,eb,pb,cf,fc,fb⟩:=key (x:=c) hb;intro e f;have ee:gc a d=e:=rfl;have ef:gc c b=f:=rfl;rw[ee]at he ea ed fa fd;rw[ef]at hf ec eb fc fb;refine⟨he,hf,?_⟩
 clear_value e f
 rw[fa,fd,fc,fb];apply By (H0 hb hd) (H0 pb pd)
 . have c1:l9 a' b'=1:=fV (lz (fV (lz h1 ⟨f,by rw[eb,D4]⟩)) ⟨e,by rw[ea,D4]⟩)
   have c2:l9 c' d'=1:=fV (lz (fV (lz h2 ⟨e,by rw[ed,D4]⟩)) ⟨f,by rw[ec,D4]⟩)
   exact fV (yF (fV (yF c1 ce)) (fV (yF cf c2)))
 . conv=>lhs;rw[ea,ec]
   conv=>rhs;rw[eb,ed]
   simp only[iB,D4]
theorem GJ(t b:Int):gc (if t<0 then -t else t) b=gc t b:=by
 show((l9 _ _:Nat):Int)=(l9 t b:Nat)
 split<;>simp
theorem JJ{n:Nat}(hp:l7 m p)(hq:l7 n q)(h:m+n<=7998):lM [fr p,fr q]=some (.dat (fr (D0 p q))):=by
 have c1:Bt 60000 p.1:=hp.bt.mono ∅;have c2:Bt 60000 p.2:=hp.bb.mono ∅;have c3:Bt 60000 q.1:=hq.bt.mono ∅;have c4:Bt 60000 q.2:=hq.bb.mono ∅;obtain⟨s0,e0,el⟩:=JI hp.pos hq.pos hp.low hq.low;have b1:Bt 8000 (gc p.1 q.2):=(Ah (by have:=hq.pos;lia) hq.bb).mono ∅
 have b2:Bt 8000 (gc q.1 p.2):=(Ah (by have:=hp.pos;lia) hp.bb).mono ∅
 have n1:=hp.pos;have n2:=hq.pos;delta lM;symm;rw[rM (by split<;>lia) ∅,GJ]
 symm;rw[rM (by split<;>lia) ∅,GJ]
 symm;simp only[L8 (show gc p.1 q.2≠0 by lia) b1,L8 (show gc q.1 p.2≠0 by lia) b2]
 symm;rw[o9 c1.fdiv c3.fdiv];symm;simp only[L8 (show gc p.1 q.2≠0 by lia) b1,L8 (show gc q.1 p.2≠0 by lia) b2]
 symm;rw[o9 c2.fdiv c4.fdiv];delta D0;rw[el];rfl
abbrev L5(ns:List Int):c5:=.list (ns.map .int)
theorem FH(ns:List Int):(ns.map Z0).length=ns.length:=by simp
theorem JX{i:Int}(h0:0<=i)(h:i<ns.length):K7 (ns.map Z0) i=some (.int (ns.getD i.toNat 0)):=by
 rw[dZ (n:=i.toNat) ∅ (by simp;lia),P5,G0 ∅]
 simp[O2,G0 (show i.toNat<ns.length by lia)]
def uR:DO:=(lZ (j0 4 (c6 cc (c6 B9 (c6 F3 (c6 cc (i8 3) (fC (.int 1000003))) (fC (.int 1))) (c6 F3 (c6 F3 (c6 B9 (i8 1) (i8 1)) (i8 1)) (fC (.int 41)))) (fC (.int 999983)))) (t6 (c6 cc (c6 ay (c6 cc (c6 B9 (c6 cc (c6 B9 (i8 4) (c6 F3 (i8 4) (fC (.int 7919)))) (fC (.int 2147483647))) (fC (.int 69621))) (fC (.int 2147483629))) (fC (.int 11))) (i8 2))))
theorem Mf{d:c5}{k m c:Int}(hk0:0<=k)(hk1:k<=1000000)(hm:0<m):∃r:Int,uR [some (.dat d),iD k,iD m,iD c,none]=some (.ret (.dat (.int r)))/\0<=r/\r<m:=by
 have fin:∀z:Int,0<=z.fmod m/\z.fmod m<m:=λz=>⟨lD z hm,mY z hm⟩
 have h1:=lD c (b:=1000003) #[];have h2:=mY c (b:=1000003) #[];have b1:Bt 62 k:=Bt.small ∅ ∅;have bk:Bt 200 (k*k+k+41):=((((b1.mul b1).add (b1.mono #[])).add (Bt.mono (m:=62) (Bt.small #[] #[]) #[]))).mono #[];have h3:=lD ((c.fmod 1000003+1)*(k*k+k+41)) (b:=999983) #[];have h4:=mY ((c.fmod 1000003+1)*(k*k+k+41)) (b:=999983) #[];delta uR;symm;rw[ar #[]];symm;rw[o9 (b1.mono #[]) (b1.mono #[])];symm;rw[o9 (Bt.iS ∅ ∅) (bk.mono #[])];symm;rw[ar #[]];symm;rw[o9 (Bt.iS ∅ ∅) (Bt.iS ∅ ∅)];symm;rw[ar #[]];symm;generalize ((c.fmod 1000003+1)*(k*k+k+41)).fmod 999983=y;have h5:=lD (y*(y+7919)) (b:=2147483647) #[];have h6:=mY (y*(y+7919)) (b:=2147483647) #[];rw[o9 (Bt.iS ∅ ∅) Bt.lit];symm;rw[ar #[]];symm;rw[L8 #[] Bt.lit];symm;rw[ar ∅];exact⟨_,rfl,fin _⟩
theorem K6{k m:Int}(hl:ns.length<=63)(hk0:0<=k)(hk1:k<=1000000)(hm:0<m):∃r:Int,A6 [L5 ns,.int k,.int m]=some (.dat (.int r))/\0<=r/\r<m:=by
 have fin:∀z:Int,0<=z.fmod m/\z.fmod m<m:=λz=>⟨lD z hm,mY z hm⟩
 have tail:∀(c:Int),∃r:Int,(uR [some (.dat (L5 ns)),iD k,iD m,iD c,none]).bind HY=some (.dat (.int r))/\0<=r/\r<m:=λc=>by obtain⟨r,h,h'⟩:=Mf (d:=L5 ns) (c:=c) hk0 hk1 hm;rw[h];exact⟨r,rfl,h'⟩
 delta A6;symm;rw[FH];by_cases hp:(0:Int)<(ns.length:Int)
 . rw[c7 hp,ar ∅];have g1:=lD k hp;have g2:=mY k hp;symm;rw[JX g1 g2];symm;rw[JX (mH 0) hp];symm;rw[ar #[]];symm;by_cases h2:Int.fmod (ns.getD 0 0) 2=1
   . rw[c7 h2,FH];have q0:0<=k.fdiv (ns.length:Int):=Int.fdiv_nonneg hk0 ∅;have q1:k.fdiv (ns.length:Int)<=k:=by
      have:=NM k (ns.length:Int)
      lia
     rw[L8 #[] Bt.lit,L8 ∅ (Bt.iS ∅ ∅)];symm;rw[o9 Bt.lit (Bt.iS ∅ ∅)];symm;rw[Pa ∅,Bc ⟨by decide,by decide,by decide⟩]
     symm;rw[ar #[]];symm;rw[ar ∅];symm;exact⟨_,rfl,fin _⟩
   . rw[c9 h2];simp only[j9];exact tail _
 . rw[c9 hp];simp only[j9];exact tail 0
theorem Hn(x y:Int)(a b z:Option PV):iM [a,b,iD x,iD y,z]=some (decide (0<y)):=by delta iM;symm
theorem VX(x:Int)(a b z:Option PV)(h:y≠0):iP [a,b,iD x,iD y,z]=some (.next [a,b,iD y,iD (x.fmod y),iD (x.fmod y)]):=by delta iP;symm;rw[ar h];symm
theorem norm_eq{b:Int}(hb:0<b)(hbb:Bt 8000 b):cu [.int t,.int b]=some (.dat (fr (r9 t b))):=by
 delta cu;symm;obtain⟨ds',h1,⟨x',y',z',rfl,hg,hx',hy'⟩,h3⟩:=yK (Fc:=iM) (G:=iP) (λds=>∃x' y' z',ds=[iD t,iD b,iD x',iD y',z']/\gc x' y'=gc t b/\0<=x'/\0<=y') (λds=>sX 3 ds-1) (by
  rintro ds ⟨x',y',z',rfl,hg,hx',hy'⟩;rw[Hn];by_cases h:y'=0
  . left;simp[h]
  . right;refine⟨by simp;lia,_,VX x' _ _ z' h,⟨y',x'.fmod y',_,rfl,?_,hy',lD x' ∅⟩,?_⟩
    . rw[<-hg];show((l9 y' (x'.fmod y'):Nat):Int)=(l9 x' y':Nat)
      rw[BP]
    . have:=oE x' h;symm
      lia) (b.natAbs+1) [iD t,iD b,iD (if t<0 then -t else t),iD b,none] ⟨_,b,none,rfl,by
       show((l9 (if t<0 then -t else t) b:Nat):Int)=(l9 t b:Nat)
       split<;>simp,by split<;>lia,by lia⟩ (by walk_at "r";lia)
 rw[Hn]at h3;have hz:y'=0:=by
  have:¬0<y':=by simpa using h3
  lia
 subst hz;have e:gc x' 0=x':=by show((l9 x' 0:Nat):Int)=x';rw[Nt];lia
 rw[e]at hg;subst hg;rw[h1];symm;have hg':=Ta (t:=t) (show b≠0 by lia)
 have hgb:=Ah (t:=t) (show b≠0 by lia) hbb
 rw[L8 hg' hgb,L8 hg' hgb];delta r9;rw[c9 ∅];rfl
theorem xS{n:Nat}(hp:l7 m p)(hq:l7 n q)(h:m+n<=7998):gD [fr p,fr q]=some (.dat (fr (P0 p q))):=by have c1:Bt 60000 p.1:=hp.bt.mono ∅;have c2:Bt 60000 p.2:=hp.bb.mono ∅;have c3:Bt 60000 q.1:=hq.bt.mono ∅;have c4:Bt 60000 q.2:=hq.bb.mono ∅;delta gD;symm;simp only[o9,c1,c2,c3,c4];symm;rw[norm_eq (H0 hp.pos hq.pos) ((hp.bb.mul hq.bb).mono ∅)];rfl
theorem oF{n:Nat}(hp:l7 m p)(hq:l7 n q)(h:m+n<=7998):aS [fr p,fr q]=some (.dat (fr (D0 p q))):=by have c1:Bt 60000 p.1:=hp.bt.mono ∅;have c2:Bt 60000 p.2:=hp.bb.mono ∅;have c3:Bt 60000 q.1:=hq.bt.mono ∅;have c4:Bt 60000 q.2:=hq.bb.mono ∅;delta aS;symm;simp only[o9,c1,c2,c3,c4];symm;rw[norm_eq (H0 hp.pos hq.pos) ((hp.bb.mul hq.bb).mono ∅)];rfl
theorem wH{n:Nat}(hp:l7 m p)(hq:l7 n q)(h:m+n<=59999):gF [fr p,fr q]=some (.dat (.bool (jL p q))):=by have c1:Bt 60000 p.1:=hp.bt.mono ∅;have c2:Bt 60000 p.2:=hp.bb.mono ∅;have c3:Bt 60000 q.1:=hq.bt.mono ∅;have c4:Bt 60000 q.2:=hq.bb.mono ∅;delta gF;symm;simp only[o9,c1,c2,c3,c4];symm;rfl
structure Tr where
 a:Q2
 b:Q2
 c:Q2
def B8(x:Tr):c5:=.tuple [fr x.a,fr x.b,fr x.c]
structure D3(m:Nat)(x:Tr):Prop where
 a:l7 m x.a
 b:l7 m x.b
 c:l7 m x.c
theorem D3.mono{m n:Nat}{x:Tr}(h:D3 m x)(hl:m<=n):D3 n x:=⟨h.a.mono hl,h.b.mono hl,h.c.mono hl⟩
theorem vR(x:Tr):i6 (B8 x) (.int 0)=some (.dat (fr x.a)):=rfl
theorem vQ(x:Tr):i6 (B8 x) (.int 1)=some (.dat (fr x.b)):=rfl
theorem vP(x:Tr):i6 (B8 x) (.int 2)=some (.dat (fr x.c)):=rfl
theorem WN:U5 0 3=[.int 0,.int 1,.int 2]:=rfl
def cQ(x y:Tr)(q:Q2):Tr:=⟨P0 x.a (D0 y.a q),P0 x.b (D0 y.b q),P0 x.c (D0 y.c q)⟩
theorem Gm{n:Nat}{x y:Tr}(hx:D3 m x)(hy:D3 n y)(hq:l7 k q):D3 (m+(n+k)+1) (cQ x y q) :=
 ⟨jP hx.a (O9 hy.a hq),jP hx.b (O9 hy.b hq),jP hx.c (O9 hy.c hq)⟩
theorem Ag{n:Nat}{x y:Tr}(hx:D3 m x)(hy:D3 n y)(hq:l7 k q)(h:m+(n+k)<=7998):dI [B8 x,B8 y,fr q]=some (.dat (B8 (cQ x y q))):=by have ta:=O9 hy.a hq;have tb:=O9 hy.b hq;have tc:=O9 hy.c hq;delta dI;symm;rw[C9 #[]];symm;rw[WN];simp only[D6,qC];symm;rw[vR,vR,vQ,vQ,vP,vP];symm;rw[oF hy.a hq ∅,oF hy.b hq ∅,oF hy.c hq ∅];symm;rw[xS hx.a ta ∅,xS hx.b tb ∅,xS hx.c tc ∅];rfl
def uG(q:Q2):Q2:=(0-q.1,q.2)
theorem qc(h:l7 m q):l7 m (uG q):=by
 have e:(0-q.1:Int) = -q.1:=by lia
 refine⟨h.pos,?_,?_,h.bb⟩
 . show l9 (0-q.1) q.2=1
   rw[e,CM];exact h.low
 . show Bt m (0-q.1)
   rw[e];exact h.bt.neg
theorem neg_val:val (uG q) = - val q:=by
 show((0-q.1:Int):Rat)/(q.2:Rat) = - ((q.1:Rat)/(q.2:Rat))
 push_cast
 grind
theorem yV(q:Q2):L3 (fr q)=true:=by simp[L3,aM,jZ,iC,xk]
theorem sW(p q:Q2):P6 (fr p) (fr q)=some (.dat (.bool (decide (p≠q)))):=by
 show(if L3 (fr p)=true/\L3 (fr q)=true then some (PV.dat (.bool (!PyData.eqv (fr p) (fr q))))else none)=_
 rw[c7 ⟨yV p,yV q⟩];have e:Z3 (fr p) (fr q)=decide (p=q):=by rw[km];simp[Z3,Dc,Prod.ext_iff]
 rw[e];simp
def W6(x y:Tr):Bool:=if x.a≠y.a then jL x.a y.a else if x.b≠y.b then jL x.b y.b else if x.c≠y.c then jL x.c y.c else false
theorem Co{n:Nat}{x y:Tr}(hx:D3 m x)(hy:D3 n y)(h:m+n<=59999):cK [B8 x,B8 y]=some (.dat (.bool (W6 x y))):=by
 delta cK W6;symm;rw[C9 #[]];symm;rw[WN];simp only[M5,kU];symm;rw[vR,vR];symm;rw[sW];symm;by_cases c1:x.a≠y.a
 . rw[c7 c1,c7 c1,wH hx.a hy.a h];rfl
 rw[c9 c1,c9 c1];symm;rw[vQ,vQ];symm;rw[sW];symm;by_cases c2:x.b≠y.b
 . rw[c7 c2,c7 c2,wH hx.b hy.b h];rfl
 rw[c9 c2,c9 c2];symm;rw[vP,vP];symm;rw[sW];symm;by_cases c3:x.c≠y.c
 . rw[c7 c3,c7 c3,wH hx.c hy.c h];rfl
 rw[c9 c3,c9 c3];rfl
structure Sh(k:Nat)(d:c5):Prop where
 c:d.canLay0=true
 d:d.depth<=k
theorem Sh.mono{l:Nat}{d:c5}(h:Sh k d)(hl:k<=l):Sh l d:=⟨h.c,P4 h.d hl⟩
theorem Sh.shaped{k:Nat}{d:c5}(h:Sh k d)(hk:k<=64):L3 d=true:=by have:=h.c;have:=h.d;simp only[L3,ek,sk];exact⟨h.c,by lia⟩
theorem JV(i:Int):Sh 0 (.int i):=⟨by simp[aM],by simp[jZ]⟩
theorem Ur:Sh 0 .none:=⟨by simp[aM],by simp[jZ]⟩
theorem AJ{k:Nat}:∀{l:List c5},(∀x∈l,Sh k x)->iC l=true/\xk l<=k
 | [],_=>⟨by simp[iC],by simp[xk]⟩
 |x::r,h=>by
  obtain⟨a,b⟩:=AJ (l:=r) λy hy=>h y (by simp[hy])
  have hx:=h x (by simp)
  refine⟨by simp[iC,hx.c,a],?_⟩
  have:=hx.d;simp only[xk]
  lia
theorem FE{l:List c5}(h:∀x∈l,Sh k x):Sh (k+1) (.list l):=by obtain⟨a,b⟩:=AJ h;exact⟨by simpa [aM]using a,by simp only[jZ];lia⟩
theorem AI{l:List c5}(h:∀x∈l,Sh k x):Sh (k+1) (.tuple l):=by obtain⟨a,b⟩:=AJ h;exact⟨by simpa [aM]using a,by simp only[jZ];lia⟩
theorem ju(q:Q2):Sh 1 (fr q):=AI λx hx=>by simp at hx;rcases hx with rfl|rfl<;>exact JV _
theorem cx{l:List α}{f:α->c5}(h:∀x,Sh k (f x)):Sh (k+1) (.list (l.map f)):=FE λx hx=>by obtain⟨y,_,rfl⟩:=mem_map.mp hx;exact h y
mutual
theorem uQ:∀d:c5,d.canLay0=true->Z3 d d=true
 | .none,_=>rfl
 | .bool b,_=>by simp[Z3]
 | .int i,_=>by simp[Z3]
 | .str x,_=>by simp[Z3]
 | .list xs,h=>by rw[Z3];exact rG xs (by simpa [aM]using h)
 | .tuple xs,h=>by rw[Z3];exact rG xs (by simpa [aM]using h)
 | .dict _,h=>by simp[aM]at h
theorem rG:∀l:List c5,iC l=true->Dc l l=true
 | [],_=>rfl
 |x::r,h=>by
  have h':x.canLay0=true/\iC r=true:=by simpa [iC]using h
  rw[Dc,uQ x h'.1,rG r h'.2];rfl
end
theorem YB{l:Nat}{d:c5}(hd:Sh k d)(he:Sh l e)(hk:k<=64:=by decide)(hl:l<=64:=by decide):J8 d e=some (.dat (.bool (Z3 d e))):=by
 delta J8;split
 . rw[GS]
 . rw[c7 ⟨hd.shaped hk,he.shaped hl⟩]
theorem XS{l:Nat}{d:c5}(hd:Sh k d)(he:Sh l e)(hk:k<=64:=by decide)(hl:l<=64:=by decide):P6 d e=some (.dat (.bool (!PyData.eqv d e))):=by
 delta P6;split
 . rw[GS]
 . rw[c7 ⟨hd.shaped hk,he.shaped hl⟩]
theorem mh{d:c5}(hd:Sh k d)(hk:k<=64:=by decide):J8 d d=some (.dat (.bool true)):=by rw[YB hd hd hk hk,uQ d hd.c]
theorem Bu{d:c5}(hd:Sh k d)(hk:k<=64:=by decide):P6 d d=some (.dat (.bool false)):=by rw[XS hd hd hk hk,uQ d hd.c];rfl
structure FD(D M:Int)(q:Q2):Prop where
 pos:0<q.2
 low:l9 q.1 q.2=1
 dvd:q.2∣D
 tR:(q.1.natAbs:Int)<=M*q.2
theorem FD.mono{M:Int}(h:FD D M q)(hd:D∣D')(hm:M<=M'):FD D' M' q :=
 ⟨h.pos,h.low,iy h.dvd hd,rT h.tR (jC hm (Q7 h.pos))⟩
theorem FD.BS{M:Int}(h:FD D M q)(hD:0<D)(h1:Bt k D)(h2:Bt k (M*D)):l7 k q:=by
 have l:=fP hD h.dvd;have p:=h.pos;have m:=h.tR;have hM:0<=M:=by
  rcases cI M 0 with c|c
  . have:=sC c p;lia
  . exact c
 have l2:M*q.2<=M*D:=fR l hM;exact⟨p,h.low,h2.of_le ∅,h1.of_le ∅⟩
theorem bG{b:Int}(hb:0<b):0<(r9 t b).2/\l9 (r9 t b).1 (r9 t b).2=1/\(r9 t b).1*b=t*(r9 t b).2/\(r9 t b).2∣b:=by
 have hg:0<l9 t b:=qy t ∅;have hgi:(0:Int)<gc t b:=by show(0:Int)<((l9 t b:Nat):Int);lia
 have e:r9 t b=(t/gc t b,b/gc t b):=by delta r9;rw[c9 ∅,eH _ ∅,eH _ ∅]
 have d1:gc t b∣t:=mT ..;have d2:gc t b∣b:=mU ..;have m1:t/gc t b*gc t b=t:=xw d1;have m2:b/gc t b*gc t b=b:=xw d2;rw[e];refine⟨Ol hb ∅ d2,Ei hg,?_,⟨gc t b,m2.symm⟩⟩;show t/gc t b*b=t*(b/gc t b)
 generalize gc t b=g at *;have:t/g*b=t/g*(b/g*g):=by rw[m2]
 rw[this,D4 (b/g) g,<-H9,m1]
theorem Vz{b c:Int}(hb:0<b)(h:t*D=c*b):(r9 t b).2∣D:=by
 obtain⟨p,l,e,_⟩:=bG (t:=t) hb;generalize (r9 t b).1=x at *;generalize (r9 t b).2=y at *;have k:x*D=c*y:=by
  apply sE (show b≠0 by lia)
  calc x*D*b=(x*b)*D:=by simp only[iB,D4]
   _=(t*D)*y:=by rw[e];simp only[iB,D4]
   _=c*y*b:=by rw[h];simp only[iB,D4]
 have z:y∣x*D:=⟨c,by rw[k,D4]⟩
 have z':y.natAbs∣x.natAbs*D.natAbs:=by rw[<-aN];exact Int.natAbs_dvd_natAbs.mpr z
 have cp:wM y.natAbs x.natAbs:=by rw[xp];exact l
 exact Int.natAbs_dvd_natAbs.mp (cp.dvd_of_dvd_mul_left z')
theorem yi{b M:Int}(hb:0<b)(h:(t.natAbs:Int)<=M*b):(((r9 t b).1).natAbs:Int)<=M*(r9 t b).2:=by
 obtain⟨p,l,e,_⟩:=bG (t:=t) hb;generalize (r9 t b).1=x at *;generalize (r9 t b).2=y at *;have e':(x.natAbs:Int)*b=(t.natAbs:Int)*y:=by
  have:=E6 Int.natAbs e;rw[aN,aN]at this;have hb':(b.natAbs:Int)=b:=by lia
  have hy':(y.natAbs:Int)=y:=by lia
  rw[<-hb',<-hy']
  exact_mod_cast this
 apply Int.le_of_mul_le_mul_right (a:=b) _ hb;rw[e'];have:=jC h (Q7 p)
 calc (t.natAbs:Int)*y<=M*b*y:=this
  _=M*y*b:=by simp only[iB,D4]
theorem FD.plus{M:Int}(hp:FD D M p)(hq:FD D N q):FD D (M+N) (P0 p q):=by
 have hb:=H0 hp.pos hq.pos;obtain⟨a,l,_,_⟩:=bG (t:=p.1*q.2+q.1*p.2) hb;obtain⟨u,hu⟩:=hp.dvd;obtain⟨v,hv⟩:=hq.dvd;refine⟨a,l,Vz (c:=p.1*u+q.1*v) hb ?_,yi hb ?_⟩
 . have e1:p.1*q.2*D=p.1*u*(p.2*q.2):=by rw[hu];simp only[iB,D4]
   have e2:q.1*p.2*D=q.1*v*(p.2*q.2):=by rw[hv];simp only[iB,D4]
   rw[wN,wN,e1,e2]
 . have h1:=jC hp.tR (Q7 hq.pos);have h2:=jC hq.tR (Q7 hp.pos);have a1:((p.1*q.2).natAbs:Int)=(p.1.natAbs:Int)*q.2:=by
    rw[aN];have:(q.2.natAbs:Int)=q.2:=by have:=hq.pos;lia
    push_cast;rw[this]
   have a2:((q.1*p.2).natAbs:Int)=(q.1.natAbs:Int)*p.2:=by
    rw[aN];have:(p.2.natAbs:Int)=p.2:=by have:=hp.pos;lia
    push_cast;rw[this]
   have a3:=DI (p.1*q.2) (q.1*p.2);have e1:(M+N)*(p.2*q.2)=M*p.2*q.2+N*q.2*p.2:=by rw[wN];simp only[iB,D4]
   lia
theorem FD.times{M:Int}(hp:FD D M p)(hq:FD E N q):FD (D*E) (M*N) (D0 p q):=by
 have hb:=H0 hp.pos hq.pos;obtain⟨a,l,_,d⟩:=bG (t:=p.1*q.1) hb;refine⟨a,l,iy d (xj hp.dvd hq.dvd),yi hb ?_⟩;have:((p.1*q.1).natAbs:Int)=(p.1.natAbs:Int)*(q.1.natAbs:Int):=by rw[aN];push_cast;rfl
 rw[this];have h0:0<=M*p.2:=by have:=hp.tR;lia
 calc (p.1.natAbs:Int)*(q.1.natAbs:Int)<=(M*p.2)*(N*q.2):=Int.mul_le_mul hp.tR hq.tR ∅ h0
  _=M*N*(p.2*q.2):=by simp only[iB,D4]
theorem FD.neg{M:Int}(h:FD D M q):FD D M (uG q):=by
 have e:(0-q.1:Int) = -q.1:=by lia
 refine⟨h.pos,?_,h.dvd,?_⟩
 . show l9 (0-q.1) q.2=1
   rw[e,CM];exact h.low
 . show((0-q.1).natAbs:Int)<=M*q.2
   rw[e,Int.natAbs_neg];exact h.tR
theorem wm{M b:Int}(hb:0<b)(hd:b∣D)(hm:(t.natAbs:Int)<=M*b):FD D M (r9 t b):=by obtain⟨a,l,_,d⟩:=bG (t:=t) hb;exact⟨a,l,iy d hd,yi hb hm⟩
structure TD(D M:Int)(x:Tr):Prop where
 a:FD D M x.a
 b:FD D M x.b
 c:FD D M x.c
theorem TD.mono{D M D' M':Int}{x:Tr}(h:TD D M x)(hd:D∣D')(hm:M<=M'):TD D' M' x:=⟨h.a.mono hd hm,h.b.mono hd hm,h.c.mono hd hm⟩
theorem TD.ok{M:Int}{x:Tr}(h:TD D M x)(hD:0<D)(h1:Bt k D)(h2:Bt k (M*D)):D3 k x:=⟨h.a.BS hD h1 h2,h.b.BS hD h1 h2,h.c.BS hD h1 h2⟩
theorem TD.more{M:Int}{x y:Tr}(hx:TD D M x)(hy:TD E N y)(hq:FD F L q)(hd:E*F∣D):TD D (M+N*L) (cQ x y q) :=
 ⟨hx.a.plus ((hy.a.times hq).mono hd (mH _)),hx.b.plus ((hy.b.times hq).mono hd (mH _)),hx.c.plus ((hy.c.times hq).mono hd (mH _))⟩
theorem jA{M:Int}(hM:0<=M):FD D M (0,1):=⟨by decide,by decide,⟨D,by simp⟩,by simpa using hM⟩
theorem Ww{M:Int}(hM:0<=M):TD D M ⟨(0,1),(0,1),(0,1)⟩:=⟨jA hM,jA hM,jA hM⟩
theorem IX{gt:c5->Ds->Option Ds}{G:DO}{items:List c5}(P:Nat->Prop)(r:PV)(I:Nat->Ds->Prop){ds:Ds}(h0:I 0 ds)(hs:∀i d ds,items[i]? = some d->I i ds->∃ds1,gt d ds=some ds1/\((P i/\∃ds2,G ds1=some (.next ds2)/\I (i+1) ds2)\/(¬P i/\G ds1=some (.ret r)))):
  ((∀i,i<items.length->P i)/\∃ds',M5 gt G items ds=some (.next ds')/\I items.length ds')\/(¬(∀i,i<items.length->P i)/\M5 gt G items ds=some (.ret r)):=by
 have key:∀(l:List c5) (i:Nat) (ds:Ds),items.drop i=l->i<=items.length->(∀j,j<i->P j)->I i ds ->
   ((∀i,i<items.length->P i)/\∃ds',M5 gt G l ds=some (.next ds')/\I items.length ds')\/(¬(∀i,i<items.length->P i)/\M5 gt G l ds=some (.ret r)):=by
  intro l;induction l with
  |nil =>
   intro i ds e hl hp hi;have h1:=List.drop_eq_nil_iff.mp e;have h2:i=items.length:=by omega
   subst h2;exact .inl ⟨hp,ds,rfl,hi⟩
  |cons x l ih =>
   intro i ds e hl hp hi;have hlt:i<items.length:=by
    by_cases c:i<items.length
    . exact c
    . rw[NT (by omega)]at e;cases e
   rw[nU hlt]at e;injection e with ea eb
   obtain⟨ds1,e1,e2⟩:=hs i x ds (by rw[G0 hlt,ea]) hi
   rcases e2 with ⟨p,ds2,e2,e3⟩|⟨p,e2⟩
   . have:=ih (i+1) ds2 eb (by omega) (λj hj=>by
       by_cases c:j=i
       . subst c;exact p
       . exact hp j (by omega)) e3
     unfold M5;rw[e1];simp only[i7];rw[e2];exact this
   . refine .inr ⟨λa=>p (a i hlt),?_⟩
     unfold M5;rw[e1];simp only[i7];rw[e2];rfl
 exact key items 0 ds (by simp) (bN _) (λj hj=>by omega) h0
theorem iV(lo:Int)(n:Nat):(U5 lo n).length=n:=by simp[U5]
theorem Uz{n i:Nat}{d:c5}(h:(U5 lo n)[i]? = some d):i<n/\d=.int (lo+(i:Nat)):=by
 have hi:i<n:=by
  by_cases c:i<n
  . exact c
  . rw[lC (by rw[iV];lia)]at h;cases h
 refine⟨hi,?_⟩;unfold U5 at h;rw[P5,ky hi]at h;cases h;rfl
def Ho(l m:List c5):List c5:=List.zipWith (λx y=>.tuple [x,y]) l m
theorem OA(l m:List c5):cZ [.list l,.list m]=some (Ho l m):=rfl
theorem at_getD{f:α->c5}{l:List α}(a:α){i:Nat}(h:i<l.length):K7 (l.map f) (i:Int)=some (f (l.getD i a)):=by
 rw[dZ (n:=i) rfl (by simpa using h),P5,G0 h]
 simp[O2,h]
theorem U7{f:α->c5}{l:List α}(a:α){i:Nat}(h:i<l.length):K7 (l.map f) (0+(i:Int))=some (f (l.getD i a)):=by rw[K8];exact at_getD a h
abbrev q0:Q2:=(0,1)
theorem bI(hm:1<=m):l7 m q0:=jb (Bt.mono (m:=1) ⟨by decide⟩ hm) hm
theorem gH{b:Q2}(ha:0<a.2)(hb:0<b.2)(h:a.1=0\/b.1=0):D0 a b=q0:=by
 have e:a.1*b.1=0:=by rcases h with h|h<;>simp[h]
 have hp:=H0 ha hb;delta D0;rw[e];exact By hp #[] #[] (by simp)
theorem jO(hp:l7 m p):P0 p q0=p:=by
 show r9 (p.1*1+0*p.2) (p.2*1)=p
 simp only[cH,V6,mK];exact Bz hp
abbrev N5(l:List Q2):c5:=.list (l.map fr)
def A5:Option Q2->c5
 |none=>.none
 |some q=>fr q
abbrev kF(l:List (Option Q2)):c5:=.list (l.map A5)
abbrev u6(l:List (List Q2)):c5:=.list (l.map N5)
abbrev W3(l:List Tr):c5:=.list (l.map B8)
def dJ(k:Nat)(l:List Q2):Prop:=∀q∈l,l7 k q
theorem dJ.at{l:List Q2}(h:dJ k l){i:Nat}(hi:i<l.length):l7 k (l.getD i q0):=by rw[O2,G0 hi];exact h _ (iA ..)
def qR(row mix:List Q2):Nat->Q2
 | 0=>q0
 |i+1=>P0 (qR row mix i) (D0 (row.getD i q0) (mix.getD i q0))
abbrev SD(row mix:List Q2):Q2:=qR row mix row.length
theorem um{row mix:List Q2}{k l:Nat}:∀i,(∀j,j<i->l7 k (row.getD j q0)/\l7 l (mix.getD j q0))->l7 (1+(k+l+1)*i) (qR row mix i)
 | 0,_=>bI ∅
 |i+1,h=>by
  have h1:=um i λj hj=>h j ∅
  have h2:=h i ∅;refine(jP h1 (O9 h2.1 h2.2)).mono ?_;rw[CN,Nat.mul_one]
  lia
end
section
variable{f g:Nat->c5}{m:Nat}
noncomputable abbrev rl(n:Nat)(f:Nat->c5):List c5:=(v8 n).map f
abbrev il(n:Nat)(f:Nat->Int):c5:=.list (rl n λi=>.int (f i))
theorem A1(n:Nat)(f:Nat->c5):(rl n f).length=n:=by simp[rl]
theorem C5{n i:Nat}(f:Nat->c5)(h:i<n):K7 (rl n f) (i:Int)=some (f i):=by
 rw[dZ (n:=i) rfl (by rw[A1];exact h),P5,ky h]
 rfl
theorem ow{n i:Nat}(f:Nat->c5)(h:i<n):K7 (rl n f) (0+(i:Int))=some (f i):=by rw[K8];exact C5 f h
theorem Y1{n:Nat}(h:∀i,i<n->f i=g i):rl n f=rl n g:=xv λi hi=>h i (mem_range.mp hi)
theorem gP{n i:Nat}(f:Nat->c5)(x:c5):(rl n f).set i x=rl n λk=>if k=i then x else f k:=by
 apply DD (by simp)
 intro k h1 h2;have hk:k<n:=by simpa using h2
 simp only[List.getElem_set,MV,Nr];by_cases c:i=k
 . rw[c7 c,c7 c.symm]
 . rw[c9 c,c9 λz=>c z.symm]
theorem vz{n i:Nat}{d:c5}(h:(rl n f)[i]? = some d):i<n/\d=f i:=by
 have hi:i<n:=by
  by_cases c:i<n
  . exact c
  . rw[lC (by rw[A1];lia)]at h;cases h
 rw[P5,ky hi]at h;cases h;exact⟨hi,rfl⟩
theorem xX(n:Nat)(f:Nat->c5):rl n f++[f n]=rl (n+1) f:=by simp[rl,Dv]
theorem WO(n:Nat)(x:c5):(v5 n [x]).flatten=rl n λ_=>x:=by
 induction n with
 |zero=>rfl
 |succ n ih=>rw[List.replicate_succ',List.flatten_append,ih,<-xX];simp
theorem VY{n:Nat}(f g:Nat->c5):Ho (rl n f) (rl n g)=rl n λi=>.tuple [f i,g i]:=by
 apply DD (by simp[Ho])
 intro k h1 h2;simp[Ho]
theorem jI(f g:Nat->c5)(n:Nat):cZ [.list (rl n f),.list (rl n g)]=some (rl n λi=>.tuple [f i,g i]):=by rw[OA,VY]
theorem tJ:∀(n:Nat) (f:Nat->c5) (o:Int),av o (rl n f)=rl n λi=>.tuple [.int (o+(i:Int)),f i]
 | 0,f,o=>rfl
 |n+1,f,o=>by
  have e:∀g:Nat->c5,rl (n+1) g=g 0::rl n λi=>g (i+1):=λg=>by rw[rl,NU,o5,dE];rfl
  rw[e,e,av,tJ n]
  congr 1
  . simp
  . exact Y1 λi _=>by rw[show o+1+(i:Int)=o+((i+1:Nat):Int)from by lia]
theorem qS(n:Nat):U5 0 n=rl n λi=>.int (i:Int):=by delta U5;exact xv λi _=>by rw[K8]
theorem B6{Fe:DV}{ds:Ds}{n:Nat}{gt:c5->Option (List c5)}(h:∀i,i<n->∃bs pv,gt (f i)=some bs/\Fe (M0 bs++ds)=some pv/\pv.d=g i):D6 gt k7 Fe ds (rl n f)=some (rl n g):=by
 have key:∀k,k<=n->D6 gt k7 Fe ds ((rl n f).drop (n-k))=some ((rl n g).drop (n-k)):=by
  intro k;induction k with
  |zero=>intro _;rw[Nat.sub_zero,Ea (by simp[rl]),Ea (by simp[rl])];rfl
  |succ k ih =>
   intro hk;have hi:n-(k+1)<n:=by lia
   have e1:∀f:Nat->c5,(rl n f).drop (n-(k+1))=f (n-(k+1))::(rl n f).drop (n-k):=λf=>by
    rw[nU (by simpa [rl]using hi),show n-(k+1)+1=n-k from by lia]
    simp[rl]
   rw[e1,e1];obtain⟨bs,pv,h1,h2,h3⟩:=h _ hi;unfold D6;simp only[h1,i7,k7,w9];rw[h2];simp only[i7];rw[ih ∅];simp only[i7,h3]
 have:=key n (l5 _);rw[CT]at this;exact this
theorem VB(n:Nat)(f:Nat->Int):intsOf (rl n λi=>.int (f i))=some ((v8 n).map f):=ints_map f _
theorem JN(n:Nat)(f:Nat->Int):((v8 n).map f).sum=Sx.sm n f:=by
 induction n with
 |zero=>rfl
 |succ n ih=>rw[Dv,hV,List.sum_append,ih,Sx.sm];simp
abbrev aE(c:List (Nat×Int)):c5:=.list (c.map λe=>.tuple [.int (e.1:Int),.int e.2])
def D8:List (Nat×Int)->Nat->Int
 | [],_=>0
 |e::c,r=>(if e.1=r then e.2 else 0)+D8 c r
theorem Ci{m:Nat}(f:Nat->Int):∀c:List (Nat×Int),(∀e∈c,e.1<m)->(c.map λe=>f e.1*e.2).sum=Sx.dot m f (D8 c)
 | [],_=>by
  delta Sx.dot;rw[Sx.gm λi _=>by rw[D8,K9]]
  rfl
 |e::c,h=>by
  have ih:=Ci f c λx hx=>h x (A0 _ hx)
  have he:=h e B7;rw[o5,List.sum_cons,ih];delta Sx.dot;have e1:(Sx.sm m λr=>f r*D8 (e::c) r)=Sx.sm m λr=>(if r=e.1 then f e.1*e.2 else 0)+f r*D8 c r:=Sx.k9 λr _=>by
   rw[D8];by_cases z:e.1=r
   . rw[c7 z,c7 z.symm,z,iq]
   . rw[c9 z,c9 λy=>z y.symm,K8,K8]
  have e2:(Sx.sm m λr=>if r=e.1 then f e.1*e.2 else 0)=f e.1*e.2:=by rw[Sx.P8 he λi _ hi=>by rw[c9 hi],c7 rfl]
  rw[e1,Sx.gK,e2]
theorem T6{n:Nat}(h:n<=1000):(rl n f).length<=1000000:=by rw[A1];lia
theorem HU{f g:Nat->Int}(hm:m<=1000)(hf:∀i,i<m->Bt 60000 (f i))(hg:∀i,i<m->Bt 60000 (g i)):kA [il m f,il m g]=some (.dat (.int (Sx.dot m f g))):=by
 delta kA;symm;rw[jI];symm;rw[c7 (T6 hm),B6 (g:=λi=>.int (f i*g i)) λi hi=>⟨_,_,rfl,by delta oh;symm;rw[o9 (hf i hi) (hg i hi)],rfl⟩]
 symm;rw[VB];symm;rw[JN];rfl
theorem wC{f:Nat->Int}{c:List (Nat×Int)}(hc:c.length<=1000)(hp:∀e∈c,e.1<m/\Bt 60000 e.2)(hf:∀i,i<m->Bt 60000 (f i)):U8 [il m f,aE c]=some (.dat (.int (Sx.dot m f (D8 c)))):=by
 delta U8;symm;have e:D6 (P1 2) k7 Q3 [some (.dat (il m f)),some (.dat (aE c))] (c.map λe=>.tuple [.int (e.1:Int),.int e.2])=some (c.map λe=>.int (f e.1*e.2)):=by
  have:∀l:List (Nat×Int),(∀e∈l,e.1<m/\Bt 60000 e.2)->D6 (P1 2) k7 Q3 [some (.dat (il m f)),some (.dat (aE c))] (l.map λe=>.tuple [.int (e.1:Int),.int e.2])=some (l.map λe=>.int (f e.1*e.2)):=by
   intro l;induction l with
   |nil=>intro _;rfl
   |cons x l ih =>
    intro h;obtain⟨h1,h2⟩:=h x B7;rw[o5,D6];simp only[P1,O1,mR,Nat.reduceAdd,w9,i7,k7,jT,mn,Z4,aO];have e0:Q3 [some (.dat (.int (x.1:Int))),some (.dat (.int x.2)),some (.dat (il m f)),some (.dat (aE c))]=some (.dat (.int (f x.1*x.2))):=by delta Q3;symm;rw[C5 _ h1];symm;rw[o9 (hf _ h1) h2]
    rw[e0];simp only[i7];rw[ih λy hy=>h y (A0 _ hy)]
    rfl
  exact this c hp
 rw[c7 (by rw[F9];lia),e]
 symm;rw[ints_map,i7,Ci f c λe he=>(hp e he).1]
 rfl
theorem yM{f g:Nat->Int}{fa pv sz:Int}(hm:m<=1000)(hf:∀i,i<m->Bt 20000 (f i))(hg:∀i,i<m->Bt 20000 (g i))(b1:Bt 20000 fa)(b2:Bt 20000 pv)(b3:Bt 8000 sz)(h0:0<sz):
  ∃r,fZ [il m f,il m g,.int fa,.int pv,.int sz]=some r/\r.d=il m λi=>(f i*pv-fa*g i).fdiv sz:=by
 have go:(fa=0/\pv=sz)\/¬(fa=0/\pv=sz):=Classical.em _;rcases go with ⟨c1,c2⟩|c
 . subst c1 c2;refine⟨.dat (il m f),?_,?_⟩
   . delta fZ;symm
   . show pe (rl m λi=>.int (f i))=.list (rl m λi=>.int ((f i*pv-0*g i).fdiv pv))
     rw[Y1 λi _=>?_]
     rw[V6,rV,Int.mul_fdiv_cancel _ ∅]
 . refine⟨.own (rl m λi=>.int ((f i*pv-fa*g i).fdiv sz)),?_,rfl⟩
   delta fZ;symm;have e:(if fa=0 then(some (decide (pv=sz)):Option Bool)else some false)=some false:=by
    by_cases c1:fa=0
    . rw[c7 c1,fQ λz=>c ⟨c1,z⟩]
    . rw[c9 c1]
   rw[e];symm;rw[jI];symm;rw[c7 (T6 hm),B6 (g:=λi=>.int ((f i*pv-fa*g i).fdiv sz)) λi hi=>⟨_,_,rfl,by delta qA;symm;rw[o9 ((hf i hi).mono #[]) (b2.mono #[]),o9 (b1.mono #[]) ((hg i hi).mono #[])];symm;rw[L8 ∅ b3],rfl⟩]
   rfl
end
end Law
local macro_rules | `(tactic| walk_at "f") => `(tactic| repeat (first|rw[c7 trivial]|rw[c9 (by decide +kernel)]))
namespace Law
open PySem L2
structure K3 where
 m:Nat
 n:Nat
 sc:Nat->Int
 col:Nat->List (Nat×Int)
 mu:Nat->Int
 wt:Nat->Nat->Int
 un:Int
 lim:Nat->Option Int
def au:Option Int->c5
 |none=>.none
 |some v=>.int v
def K3.pb(Q:K3)(b:Nat->Int):Sx.Pb:=⟨Q.m,Q.n,λj=>D8 (Q.col j),b,Q.lim,Q.wt⟩
def C2(Q:K3)(T:Sx.Tb):List (Str×PF):=[("scales",.dat (il Q.n Q.sc)),("columns",.dat (.list (rl Q.n λj=>aE (Q.col j)))),("multiples",.own (rl 3 λt=>.int (Q.mu t))),("weights",.own (rl 3 λt=>il Q.n (Q.wt t))),("unit",.dat (.int Q.un)),("rights",.own (rl Q.m λp=>.int (T.rt p))),("limits",.dat (.list (rl Q.n λj=>au (Q.lim j)))),("chosen",.own (rl Q.m λk=>.int (T.B k:Int))),("full",.own (rl Q.n λj=>.bool (T.full j))),("size",.dat (.int T.size)),("inverse",.dat (.list (rl Q.m λk=>il Q.m (T.inv k)))),("prices",.own (rl 3 λt=>il Q.m (T.pr t)))]
abbrev m9(Q:K3)(T:Sx.Tb):OD:=.ins "Table" (C2 Q T)
def o7(Q:K3)(T:Sx.Tb):c5:=(m9 Q T).d
abbrev Gf:List Str:=["scales","columns","multiples","weights","unit","rights","limits","chosen","full","size","inverse","prices"]
abbrev lT(Q:K3)(T:Sx.Tb):List c5:=[(il Q.n Q.sc),(.list (rl Q.n λj=>aE (Q.col j))),.list (rl 3 λt=>.int (Q.mu t)),.list (rl 3 λt=>il Q.n (Q.wt t)),(.int Q.un),.list (rl Q.m λp=>.int (T.rt p)),(.list (rl Q.n λj=>au (Q.lim j))),.list (rl Q.m λk=>.int (T.B k:Int)),.list (rl Q.n λj=>.bool (T.full j)),(.int T.size),(.list (rl Q.m λk=>il Q.m (T.inv k))),.list (rl 3 λt=>il Q.m (T.pr t))]
theorem Wx(Q:K3)(T:Sx.Tb):o7 Q T=rC "Table" Gf (lT Q T):=rfl
theorem ag(Q:K3)(T:Sx.Tb):tq "Table" (o7 Q T)=some (Gf.map .str,lT Q T):=by rw[Wx];exact LK _ _ _
theorem MJ(w:Option Addr)(Q:K3)(T:Sx.Tb):PV.d (.ob w (.ins "Table" (C2 Q T)))=o7 Q T:=rfl
theorem zM(b:Bool):zN (PV.d (.dat (.bool b)))=some b:=rfl
section
variable(Q:K3)(T:Sx.Tb)
theorem vY:R9 "Table" "scales" (o7 Q T)=some ((il Q.n Q.sc)):=by delta R9;rw[ag,i7];simp only[o5,P2,F4];walk_at "f"
theorem zi:p5 "scales" (C2 Q T)=some (.dat (il Q.n Q.sc)):=by simp only[C2,p5];walk_at "f"
theorem ua:R9 "Table" "columns" (o7 Q T)=some ((.list (rl Q.n λj=>aE (Q.col j)))):=by delta R9;rw[ag,i7];simp only[o5,P2,F4];walk_at "f"
theorem vM:p5 "columns" (C2 Q T)=some (.dat (.list (rl Q.n λj=>aE (Q.col j)))):=by simp only[C2,p5];walk_at "f"
theorem qG:R9 "Table" "multiples" (o7 Q T)=some (.list (rl 3 λt=>.int (Q.mu t))):=by delta R9;rw[ag,i7];simp only[o5,P2,F4];walk_at "f"
theorem rq:p5 "multiples" (C2 Q T)=some (.own (rl 3 λt=>.int (Q.mu t))):=by simp only[C2,p5];walk_at "f"
theorem tY:R9 "Table" "weights" (o7 Q T)=some (.list (rl 3 λt=>il Q.n (Q.wt t))):=by delta R9;rw[ag,i7];simp only[o5,P2,F4];walk_at "f"
theorem vK:p5 "weights" (C2 Q T)=some (.own (rl 3 λt=>il Q.n (Q.wt t))):=by simp only[C2,p5];walk_at "f"
theorem BV:R9 "Table" "unit" (o7 Q T)=some ((.int Q.un)):=by delta R9;rw[ag,i7];simp only[o5,P2,F4];walk_at "f"
theorem Gs:p5 "unit" (C2 Q T)=some (.dat (.int Q.un)):=by simp only[C2,p5];walk_at "f"
theorem vZ:R9 "Table" "rights" (o7 Q T)=some (.list (rl Q.m λp=>.int (T.rt p))):=by delta R9;rw[ag,i7];simp only[o5,P2,F4];walk_at "f"
theorem rn:p5 "rights" (C2 Q T)=some (.own (rl Q.m λp=>.int (T.rt p))):=by simp only[C2,p5];walk_at "f"
theorem wd:R9 "Table" "limits" (o7 Q T)=some ((.list (rl Q.n λj=>au (Q.lim j)))):=by delta R9;rw[ag,i7];simp only[o5,P2,F4];walk_at "f"
theorem zj:p5 "limits" (C2 Q T)=some (.dat (.list (rl Q.n λj=>au (Q.lim j)))):=by simp only[C2,p5];walk_at "f"
theorem we:R9 "Table" "chosen" (o7 Q T)=some (.list (rl Q.m λk=>.int (T.B k:Int))):=by delta R9;rw[ag,i7];simp only[o5,P2,F4];walk_at "f"
theorem rz:p5 "chosen" (C2 Q T)=some (.own (rl Q.m λk=>.int (T.B k:Int))):=by simp only[C2,p5];walk_at "f"
theorem BX:R9 "Table" "full" (o7 Q T)=some (.list (rl Q.n λj=>.bool (T.full j))):=by delta R9;rw[ag,i7];simp only[o5,P2,F4];walk_at "f"
theorem yj:p5 "full" (C2 Q T)=some (.own (rl Q.n λj=>.bool (T.full j))):=by simp only[C2,p5];walk_at "f"
theorem BW:R9 "Table" "size" (o7 Q T)=some ((.int T.size)):=by delta R9;rw[ag,i7];simp only[o5,P2,F4];walk_at "f"
theorem Gu:p5 "size" (C2 Q T)=some (.dat (.int T.size)):=by simp only[C2,p5];walk_at "f"
theorem tZ:R9 "Table" "inverse" (o7 Q T)=some ((.list (rl Q.m λk=>il Q.m (T.inv k)))):=by delta R9;rw[ag,i7];simp only[o5,P2,F4];walk_at "f"
theorem vL:p5 "inverse" (C2 Q T)=some (.dat (.list (rl Q.m λk=>il Q.m (T.inv k)))):=by simp only[C2,p5];walk_at "f"
theorem wc:R9 "Table" "prices" (o7 Q T)=some (.list (rl 3 λt=>il Q.m (T.pr t))):=by delta R9;rw[ag,i7];simp only[o5,P2,F4];walk_at "f"
theorem rp:p5 "prices" (C2 Q T)=some (.own (rl 3 λt=>il Q.m (T.pr t))):=by simp only[C2,p5];walk_at "f"
theorem Gi:F4 "rest" (Gf.map .str) (lT Q T)=none:=by simp only[o5,P2,F4];walk_at "f"
theorem vH:F4 "amounts" (Gf.map .str) (lT Q T)=none:=by simp only[o5,P2,F4];walk_at "f"
theorem QF:F4 "paces" (Gf.map .str) (lT Q T)=none:=by simp only[o5,P2,F4];walk_at "f"
theorem uE:p5 "flip" (C2 Q T)=none:=by simp only[C2,p5];walk_at "f"
theorem QC:p5 "turn" (C2 Q T)=none:=by simp only[C2,p5];walk_at "f"
theorem Kd(r:Nat->Int):G7 "rights" (.own (rl Q.m λp=>.int (r p))) (C2 Q T)=C2 Q {T with rt:=r}:=by simp only[C2,G7];walk_at "f"
theorem Kf(r:Nat->Nat):G7 "chosen" (.own (rl Q.m λk=>.int (r k:Int))) (C2 Q T)=C2 Q {T with B:=r}:=by simp only[C2,G7];walk_at "f"
theorem US(r:Nat->Bool):G7 "full" (.own (rl Q.n λj=>.bool (r j))) (C2 Q T)=C2 Q {T with full:=r}:=by simp only[C2,G7];walk_at "f"
theorem UR(r:Int):G7 "size" (.dat (.int r)) (C2 Q T)=C2 Q {T with size:=r}:=by simp only[C2,G7];walk_at "f"
theorem HP(r:Nat->Nat->Int):G7 "inverse" (.dat (.list (rl Q.m λk=>il Q.m (r k)))) (C2 Q T)=C2 Q {T with inv:=r}:=by simp only[C2,G7];walk_at "f"
theorem Ke(r:Nat->Nat->Int):G7 "prices" (.own (rl 3 λt=>il Q.m (r t))) (C2 Q T)=C2 Q {T with pr:=r}:=by simp only[C2,G7];walk_at "f"
end
theorem mj{Q:K3}{T:Sx.Tb}{m:Str}{f:FV}{Fo:DV}{Fl:DL}{ds:Ds}{pv:PV}{l:List c5}(h:Fo ds=some pv)(hd:pv.d=o7 Q T)(hm:F4 m (Gf.map .str) (lT Q T)=none)(hl:Fl ds=some l):L9 "Table" m f Fo Fl ds=f (o7 Q T::l):=by delta L9;rw[h,i7,hd,ag,i7];simp only[hm,hl,i7]
structure Y9(Q:K3)(T:Sx.Tb):Prop where
 m1:Q.m<=1000
 n1:Q.n<=1000
 cl:∀j,j<Q.n->(Q.col j).length<=1000
 cb:∀j,j<Q.n->∀e∈Q.col j,e.1<Q.m/\Bt 7000 e.2
 wb:∀t j,t<3->j<Q.n->Bt 7000 (Q.wt t j)
 lb:∀j v,j<Q.n->Q.lim j=some v->Bt 7000 v
 bn:∀k,k<Q.m->T.B k<Q.n
 rb:∀p,p<Q.m->Bt 7000 (T.rt p)
 ib:∀k q,k<Q.m->q<Q.m->Bt 7000 (T.inv k q)
 pb:∀t q,t<3->q<Q.m->Bt 7000 (T.pr t q)
 sb:Bt 7000 T.size
 sp:0<T.size
 ab:∀k,k<Q.m->Bt 7000 (T.am (Q.pb λ_=>0) k)
 wF:∀a k,a<Q.n->k<Q.m->Bt 7000 (T.g0 (Q.pb λ_=>0) a k)
 ZO:∀t a,t<3->a<Q.n->Bt 7000 (T.rest (Q.pb λ_=>0) t a)
end Law
local macro_rules | `(tactic| walk_at "v") => `(tactic| ((first|simp only[L2.z9, L2.F8, L2.gT, L2.eV, L2.bu, L2.T7, L2.nM, L2.G8, L2.M6, L2.dP, L2.gW, L2.Ce, L2.qZ, L2.J9, L2.ma, L2.J1, L2.fO, L2.J5, L2.cM, Law.vY, Law.ua, Law.qG, Law.tY, Law.BV, Law.vZ, Law.wd, Law.we, Law.BX, Law.BW, Law.tZ, Law.wc, Law.zi, Law.vM, Law.rq, Law.vK, Law.Gs, Law.rn, Law.zj, Law.rz, Law.yj, Law.Gu, Law.vL, Law.rp, Law.MJ, Law.zM]|walk_at "r"); repeat (first|simp only[L2.z9, L2.F8, L2.gT, L2.eV, L2.bu, L2.T7, L2.nM, L2.G8, L2.M6, L2.dP, L2.gW, L2.Ce, L2.qZ, L2.J9, L2.ma, L2.J1, L2.fO, L2.J5, L2.cM, Law.vY, Law.ua, Law.qG, Law.tY, Law.BV, Law.vZ, Law.wd, Law.we, Law.BX, Law.BW, Law.tZ, Law.wc, Law.zi, Law.vM, Law.rq, Law.vK, Law.Gs, Law.rn, Law.zj, Law.rz, Law.yj, Law.Gu, Law.vL, Law.rp, Law.MJ, Law.zM]|walk_at "r")))
namespace Law
open PySem L2
section
variable{t a:Nat}
section
variable{Q:K3}{T:Sx.Tb}
theorem zh(h:t<3):t=0\/t=1\/t=2:=by lia
theorem FL(ht:t<3)(ha:a<Q.n)(cl:(Q.col a).length<=1000)(cb:∀e∈Q.col a,e.1<Q.m/\Bt 7000 e.2)(wb:Bt 7000 (Q.wt t a))(sb:Bt 7000 T.size)(pb:∀q,q<Q.m->Bt 7000 (T.pr t q)):O8 [o7 Q T,.int (t:Int),.int (a:Int)]=some (.dat (.int (T.rest (Q.pb λ_=>0) t a))):=by
 delta O8;walk_at "v";rw[C5 _ ht];walk_at "v";rw[C5 _ ha,C5 _ ht];walk_at "v";rw[C5 _ ha];walk_at "v";rw[o9 (wb.mono #[]) (sb.mono #[]),wC cl (λe he=>⟨(cb e he).1,((cb e he).2).mono #[]⟩) λi hi=>(pb i hi).mono #[]]
 walk_at "v";rfl
theorem rest_eq(K:Y9 Q T)(ht:t<3)(ha:a<Q.n):O8 [o7 Q T,.int (t:Int),.int (a:Int)]=some (.dat (.int (T.rest (Q.pb λ_=>0) t a))) :=
 FL ht ha (K.cl a ha) (K.cb a ha) (K.wb t a ht ha) K.sb λq hq=>K.pb t q ht hq
theorem wI(K:Y9 Q T):O3 [o7 Q T]=some (.own (rl Q.m λk=>.int (T.am (Q.pb λ_=>0) k))):=by
 delta O3;walk_at "v";rw[c7 (T6 K.m1),B6 (g:=λk=>.int (T.am (Q.pb λ_=>0) k)) λk hk=>⟨_,_,rfl,by delta fh;walk_at "v";rw[HU K.m1 (λi hi=>(K.ib k i hk hi).mono #[]) λi hi=>(K.rb i hi).mono #[]],rfl⟩]
 rfl
theorem Qu(K:Y9 Q T)(ha:a<Q.n):T4 [o7 Q T,.int (a:Int)]=some (.own (rl Q.m λk=>.int (T.g0 (Q.pb λ_=>0) a k))):=by
 delta T4;walk_at "v";rw[c7 (T6 K.m1),B6 (g:=λk=>.int (T.g0 (Q.pb λ_=>0) a k)) λk hk=>⟨_,_,rfl,by delta iL;walk_at "v";rw[C5 _ ha];walk_at "v";rw[wC (K.cl a ha) (λe he=>⟨(K.cb a ha e he).1,((K.cb a ha e he).2).mono #[]⟩) λi hi=>(K.ib k i hk hi).mono #[]],rfl⟩]
 rfl
end
end
section
variable{j t:Nat}
section
variable{Q:K3}{T:Sx.Tb}
abbrev j8(Q:K3):Sx.Pb:=Q.pb λ_=>0
theorem Rp(o:Option Int):J8 (au o) (.int 0)=some (.dat (.bool (decide (o=some 0)))):=by
 cases o with
 |none =>
  show(if L3 .none=true/\L3 (.int 0)=true then some (PV.dat (.bool (Z3 .none (.int 0))))else none)=_
  rw[Er,gN];simp[Z3]
 |some v =>
  rw[show au (some v)=.int v from rfl,mi]
  congr 3
  simp
def Ai(r:Nat->Int):Option (Nat×Int) :=
 if r 0≠0 then(if r 0<0 then some (0,r 0)else none)else if r 1≠0 then(if r 1<0 then some (1,r 1)else none)else if r 2≠0 then(if r 2<0 then some (2,r 2)else none)else none
theorem zy(r:Nat->Int):(Ai r).isSome=true↔Sx.Neg r:=by
 delta Ai Sx.Neg;by_cases h0:r 0=0
 . rw[c9 (λz=>z h0)]
   by_cases h1:r 1=0
   . rw[c9 (λz=>z h1)]
     by_cases h2:r 2=0
     . rw[c9 (λz=>z h2)];simp;lia
     . rw[c7 h2];split<;>simp<;>lia
   . rw[c7 h1];split<;>simp<;>lia
 . rw[c7 h0];split<;>simp<;>lia
def gn(Q:K3)(T:Sx.Tb)(j:Nat):Option (Nat×Int):=if Q.lim j=some 0 then none else Ai λt=>T.sg j*T.rest (j8 Q) t j
def gx:Option (Nat×Int)->c5
 |none=>.none
 |some (t,r)=>.tuple [.int (t:Int),.int r]
theorem gn_enter(hj:j<Q.n)(b:Nat->Int):(gn Q T j).isSome=true↔Sx.O4 (Q.pb b) T j:=by
 delta gn;constructor
 . intro h;by_cases c:Q.lim j=some 0
   . rw[c7 c]at h;cases h
   . rw[c9 c]at h;exact⟨hj,c,(zy _).mp h⟩
 . intro h;rw[c9 (show Q.lim j≠some 0 from h.u0)]
   exact(zy _).mpr h.neg
theorem ZN(T:Sx.Tb)(j:Nat):(if T.full j=true then some (PV.dat (.int (-1)))else some (PV.dat (.int 1)))=some (PV.dat (.int (T.sg j))):=by delta Sx.Tb.sg;split<;>rfl
theorem SA(T:Sx.Tb)(j:Nat):Bt 60000 (T.sg j):=by
 delta Sx.Tb.sg;split
 . exact Bt.lit
 . exact Bt.lit
theorem uK(K:Y9 Q T)(ht:t<3)(hj:j<Q.n)(x4:Option PV):
  jH [some (.dat (o7 Q T)),iD (j:Int),iD (T.sg j),iD (t:Int),x4]=some (if T.sg j*T.rest (j8 Q) t j≠0 then .ret (.dat (if T.sg j*T.rest (j8 Q) t j<0 then .tuple [.int (t:Int),.int (T.sg j*T.rest (j8 Q) t j)]else .none))
   else .next [some (.dat (o7 Q T)),iD (j:Int),iD (T.sg j),iD (t:Int),iD (T.sg j*T.rest (j8 Q) t j)]):=by
 delta jH;walk_at "v";rw[mj (Q:=Q) (T:=T) (l:=[.int (t:Int),.int (j:Int)]) rfl rfl (Gi Q T) rfl,rest_eq K ht hj];walk_at "v";rw[o9 (SA T j) ((K.ZO t j ht hj).mono #[])];walk_at "v";by_cases c:T.sg j*T.rest (j8 Q) t j=0
 . rw[c9 (λz=>z c),c9 (λz=>z c)]
 . rw[c7 c,c7 c];by_cases c2:T.sg j*T.rest (j8 Q) t j<0
   . simp only[c7 c2];walk_at "v"
   . simp only[c9 c2];walk_at "v"
theorem qm{gt:c5->Ds->Option Ds}{G:DO}{d:c5}{r:List c5}{ds ds1:Ds}{pv:PV}(h1:gt d ds=some ds1)(h2:G ds1=some (.ret pv)):M5 gt G (d::r) ds=some (.ret pv):=by unfold M5;rw[h1,i7,h2];rfl
theorem tD(K:Y9 Q T)(hj:j<Q.n):kD [o7 Q T,.int (j:Int)]=some (.dat (gx (gn Q T j))):=by
 delta kD gn;walk_at "v";rw[C5 _ hj];walk_at "v";rw[Rp];walk_at "v";by_cases c:Q.lim j=some 0
 . simp only[c7 c];rfl
 . simp only[c9 c];walk_at "v";rw[C5 _ hj];walk_at "v";rw[ZN];walk_at "v";have h0:=uK K (t:=0) #[] hj;have h1:=uK K (t:=1) #[] hj;have h2:=uK K (t:=2) #[] hj;delta Ai;by_cases c0:T.sg j*T.rest (j8 Q) 0 j=0
   . simp only[c0,ne_eq,mV,N9]at h0 ⊢;rw[P9 (ds2:=[some (.dat (o7 Q T)),iD (j:Int),iD (T.sg j),iD 0,iD 0]) rfl (h0 none)];by_cases c1:T.sg j*T.rest (j8 Q) 1 j=0
     . simp only[c1,ne_eq,mV,N9]at h1 ⊢;rw[P9 (ds2:=[some (.dat (o7 Q T)),iD (j:Int),iD (T.sg j),iD 1,iD 0]) rfl (h1 _)];by_cases c2:T.sg j*T.rest (j8 Q) 2 j=0
       . simp only[c2,ne_eq,mV,N9]at h2 ⊢;rw[P9 (ds2:=[some (.dat (o7 Q T)),iD (j:Int),iD (T.sg j),iD 2,iD 0]) rfl (h2 _)];rfl
       . simp only[c7 (show T.sg j*T.rest (j8 Q) 2 j≠0 from c2)]at h2 ⊢
         rw[qm rfl (h2 _)];split<;>rfl
     . simp only[c7 (show T.sg j*T.rest (j8 Q) 1 j≠0 from c1)]at h1 ⊢
       rw[qm rfl (h1 _)];split<;>rfl
   . simp only[c7 (show T.sg j*T.rest (j8 Q) 0 j≠0 from c0)]at h0 ⊢
     rw[qm rfl (h0 _)];split<;>rfl
theorem BU{gt:c5->Ds->Option Ds}{G:DO}{items:List c5}(I:Nat->Ds->Prop)(R:PV->Prop)(hs:∀i d ds,items[i]? = some d->I i ds->∃ds1,gt d ds=some ds1/\((∃ds2,G ds1=some (.next ds2)/\I (i+1) ds2)\/∃pv,G ds1=some (.ret pv)/\R pv)):
  ∀(k i:Nat) (ds:Ds),i+k=items.length->I i ds->(∃ds',M5 gt G (items.drop i) ds=some (.next ds')/\I items.length ds')\/∃pv,M5 gt G (items.drop i) ds=some (.ret pv)/\R pv
 | 0,i,ds,e,h=>by
  rw[Ea ∅];have:i=items.length:=by lia
  rw[<-this];exact .inl ⟨ds,rfl,h⟩
 |k+1,i,ds,e,h=>by
  have hi:i<items.length:=by lia
  rw[nU hi];obtain⟨ds1,h1,⟨ds2,h2,h3⟩|⟨pv,h2,h3⟩⟩:=hs i _ ds (G0 hi) h
  . rw[P9 h1 h2];exact BU I R hs k (i+1) ds2 ∅ h3
  . exact .inr ⟨pv,qm h1 h2,h3⟩
def optN:Option Nat->c5
 |none=>.none
 |some a=>.int (a:Int)
theorem XY(x y:Nat×Int):∃b,uH (gx (some x)) (gx (some y))=some (.dat (.bool b)):=⟨_,rfl⟩
theorem zf(K:Y9 Q T)(cf:Bool):∃r:Option Nat,gd [o7 Q T,.bool cf]=some (.dat (optN r))/\(r=none->∀j,j<Q.n->gn Q T j=none)/\∀a,r=some a->a<Q.n/\(gn Q T a).isSome=true/\(cf=true->∀j,j<a->gn Q T j=none):=by
 delta gd;walk_at "v";rw[A1,C9 (by have:=K.n1;lia)]
 walk_at "v";rw[Q8,qS];have key:=BU (gt:=A8 4) (G:=af) (items:=rl Q.n λi=>.int (i:Int))
  (λi ds=>∃(r:Option Nat) (best:Option (Nat×Int)) (x4 x5:Option PV),ds=[some (.dat (o7 Q T)),some (.dat (.bool cf)),some (.dat (optN r)),some (.dat (gx best)),x4,x5]/\(r.isSome=best.isSome)/\(r=none->∀j,j<i->gn Q T j=none)/\(∀a,r=some a->a<Q.n/\(gn Q T a).isSome=true/\cf=false))
  (λpv=>∃a,pv=.dat (optN (some a))/\a<Q.n/\(gn Q T a).isSome=true/\∀j,j<a->gn Q T j=none)
  (by
   rintro i d ds hd ⟨r,best,x4,x5,rfl,hb,h1,h2⟩;obtain⟨hi,rfl⟩:=vz hd;refine⟨_,rfl,?_⟩;cases hg:gn Q T i with
   |none =>
    refine .inl ⟨[some (.dat (o7 Q T)),some (.dat (.bool cf)),some (.dat (optN r)),some (.dat (gx best)),iD (i:Int),some (.dat .none)],?_,r,best,_,_,rfl,hb,λhr j hj=>?_,h2⟩
    . delta af;walk_at "v";rw[tD K hi,hg];simp only[gx];walk_at "v"
    . by_cases c:j=i
      . rw[c];exact hg
      . exact h1 hr j ∅
   |some g =>
    have go:(r=none\/∃a0 b0,r=some a0/\best=some b0/\(∃w,uH (gx (some g)) (gx (some b0))=some (.dat (.bool w))/\w=true))->af [some (.dat (o7 Q T)),some (.dat (.bool cf)),some (.dat (optN r)),some (.dat (gx best)),iD (i:Int),x5]=if cf=true then some (.ret (.dat (.int (i:Int))))else some (.next [some (.dat (o7 Q T)),some (.dat (.bool cf)),iD (i:Int),some (.dat (gx (some g))),iD (i:Int),some (.dat (gx (some g)))]):=by
     obtain⟨g1,g2⟩:=g;rintro(rfl|⟨a0,⟨b1,b2⟩,rfl,rfl,w,hw,rfl⟩)
     . delta af;walk_at "v";rw[tD K hi,hg];simp only[gx,optN];walk_at "v"
     . delta af;walk_at "v";rw[tD K hi,hg];simp only[gx,optN]at hw ⊢;walk_at "v";rw[hw];walk_at "v"
    have nx:cf=false->(r=none\/∃a0 b0,r=some a0/\best=some b0/\(∃w,uH (gx (some g)) (gx (some b0))=some (.dat (.bool w))/\w=true))->(∃ds2,af [some (.dat (o7 Q T)),some (.dat (.bool cf)),some (.dat (optN r)),some (.dat (gx best)),iD (i:Int),x5]=some (.next ds2)/\∃(r:Option Nat) (best:Option (Nat×Int)) (x4 x5:Option PV),ds2=[some (.dat (o7 Q T)),some (.dat (.bool cf)),some (.dat (optN r)),some (.dat (gx best)),x4,x5]/\(r.isSome=best.isSome)/\(r=none->∀j,j<i+1->gn Q T j=none)/\(∀a,r=some a->a<Q.n/\(gn Q T a).isSome=true/\cf=false)):=λhc h=>by rw[go h,hc];exact⟨_,rfl,some i,some g,_,_,rfl,rfl,(λz=>by cases z),λa ha=>by cases ha;exact⟨hi,by rw[hg];rfl,rfl⟩⟩
    cases hr:r with
    |none =>
     cases hc:cf with
     |false =>
      subst hc hr;exact .inl (nx rfl (.inl rfl))
     |true =>
      subst hc hr;exact .inr ⟨.dat (.int (i:Int)),go (.inl rfl),i,rfl,hi,by rw[hg];rfl,h1 rfl⟩
    |some a0 =>
     obtain⟨g1,g2,g3⟩:=h2 a0 hr;subst g3;cases hbb:best with
     |none=>rw[hr,hbb]at hb;cases hb
     |some b0 =>
      subst hr hbb;obtain⟨w,hw⟩:=XY g b0;cases w with
      |true=>exact .inl (nx rfl (.inr ⟨a0,b0,rfl,rfl,true,hw,rfl⟩))
      |false =>
       refine .inl ⟨[some (.dat (o7 Q T)),some (.dat (.bool false)),some (.dat (optN (some a0))),some (.dat (gx (some b0))),iD (i:Int),some (.dat (gx (some g)))],?_,some a0,some b0,_,_,rfl,rfl,(λz=>by cases z),h2⟩
       obtain⟨g1,g2⟩:=g;obtain⟨b1,b2⟩:=b0;delta af;walk_at "v";rw[tD K hi,hg];simp only[gx,optN]at hw ⊢;walk_at "v";rw[hw];walk_at "v")
  Q.n 0 [some (.dat (o7 Q T)),some (.dat (.bool cf)),some (.dat .none),some (.dat .none),none,none] (by rw[A1];lia) ⟨none,none,none,none,rfl,rfl,λ_ j hj=>by lia,λa h=>by cases h⟩
 rw[List.drop_zero]at key;rcases key with ⟨ds',h1,r,best,x4,x5,rfl,hb,h2,h3⟩|⟨pv,h1,a,rfl,h2,h3,h4⟩
 . rw[h1];refine⟨r,rfl,λhr j hj=>h2 hr j (by rw[A1];exact hj),λa ha=>?_⟩
   obtain⟨g1,g2,g3⟩:=h3 a ha;exact⟨g1,g2,λz=>by rw[g3]at z;cases z⟩
 . rw[h1];exact⟨some a,rfl,(λz=>by cases z),λb hb=>by cases hb;exact⟨h2,h3,λ_=>h4⟩⟩
end
end
section
variable{a k:Nat}{r t:S9}
structure S9 where
 top:Int
 bot:Int
 ch:Nat
 pl:Option Nat
 tp:Bool
def F6(s:S9):c5:=.tuple [.int s.top,.int s.bot,.int (s.ch:Int),optN s.pl,.bool s.tp]
section
variable{Q:K3}{T:Sx.Tb}
def sM(Q:K3)(a:Nat):List S9:=match Q.lim a with
 |some v=>[⟨v,1,a,none,false⟩]
 |none=>[]
def stK(Q:K3)(T:Sx.Tb)(a k:Nat):List S9 :=
 if 0<T.sg a*T.g0 (j8 Q) a k then[⟨T.am (j8 Q) k,T.sg a*T.g0 (j8 Q) a k,T.B k,some k,false⟩]
 else if T.sg a*T.g0 (j8 Q) a k<0 then(match Q.lim (T.B k)with
  |some v=>[⟨v*T.size-T.am (j8 Q) k,-(T.sg a*T.g0 (j8 Q) a k),T.B k,some k,true⟩]
  |none=>[])
 else[]
def stI(Q:K3)(T:Sx.Tb)(a:Nat):Nat->List S9
 | 0=>sM Q a
 |k+1=>stI Q T a k++stK Q T a k
theorem Fx(Q:K3)(T:Sx.Tb)(a:Nat):∀k,(stI Q T a k).length<=k+1
 | 0=>by unfold stI sM;split<;>simp
 |k+1=>by
  have:=Fx Q T a k;rw[stI,hW];have:(stK Q T a k).length<=1:=by
   unfold stK;split
   . simp
   . split
     . split<;>simp
     . simp
  lia
theorem JP(K:Y9 Q T)(ha:a<Q.n)(hk:k<Q.m)(x7 x8 x9:Option PV){l:List S9}(hl:l.length<=10000):∃y7 y8 y9,
  gG [some (.dat (o7 Q T)),iD (a:Int),some (.dat (.list (rl Q.m λk=>.int (T.g0 (j8 Q) a k)))),some (.own (l.map F6)),iD (T.sg a),iD (0+(k:Int)),iD (T.am (j8 Q) k),x7,x8,x9]=some (.next [some (.dat (o7 Q T)),iD (a:Int),some (.dat (.list (rl Q.m λk=>.int (T.g0 (j8 Q) a k)))),some (.own ((l++stK Q T a k).map F6)),iD (T.sg a),iD (0+(k:Int)),iD (T.am (j8 Q) k),y7,y8,y9]):=by
 have hB:=K.bn k hk;have hp:=(K.wF a k ha hk).mono (n:=60000) #[];refine⟨iD (T.B k:Int),some (.dat (au (Q.lim (T.B k)))),iD (T.sg a*T.g0 (j8 Q) a k),?_⟩;delta gG;walk_at "v";rw[ow _ hk];walk_at "v";rw[C5 _ hB];walk_at "v";rw[ow _ hk];walk_at "v";rw[o9 (SA T a) hp];walk_at "v";delta stK;by_cases c:0<T.sg a*T.g0 (j8 Q) a k
 . simp only[c7 c];try walk_at "v"
   rw[dw (l:=l.map F6) _ rfl (by rw[F9];lia),hV]
   simp only[o5,P2,F6,optN,K8];rfl
 . simp only[c9 c];by_cases c2:T.sg a*T.g0 (j8 Q) a k<0
   . simp only[c7 c2];cases hlim:Q.lim (T.B k)with
     |none =>
      simp only[au];walk_at "v"
     |some v =>
      simp only[au];walk_at "v";rw[o9 ((K.lb _ v hB hlim).mono #[]) (K.sb.mono #[])];walk_at "v";rw[dw (l:=l.map F6) _ rfl (by rw[F9];lia),hV]
      simp only[o5,P2,F6,optN,K8];rfl
   . simp only[c9 c2];walk_at "v"
theorem OW(K:Y9 Q T)(ha:a<Q.n):gB [o7 Q T,.int (a:Int),.list (rl Q.m λk=>.int (T.g0 (j8 Q) a k))]=some (.own ((stI Q T a Q.m).map F6)):=by
 have m1:=K.m1;obtain⟨ds',h1,x5,x6,x7,x8,x9,rfl⟩:=qo (gt:=kG 2 (V0 5 (V0 6 kH))) (G:=gG) (items:=rl Q.m λi=>.tuple [.int (0+(i:Int)),.int (T.am (j8 Q) i)]) (ds:=[some (.dat (o7 Q T)),iD (a:Int),some (.dat (.list (rl Q.m λk=>.int (T.g0 (j8 Q) a k)))),some (.own ((stI Q T a 0).map F6)),iD (T.sg a),none,none,none,none,none])
  (λi ds=>∃x5 x6 x7 x8 x9,ds=[some (.dat (o7 Q T)),iD (a:Int),some (.dat (.list (rl Q.m λk=>.int (T.g0 (j8 Q) a k)))),some (.own ((stI Q T a i).map F6)),iD (T.sg a),x5,x6,x7,x8,x9])
  ⟨none,none,none,none,none,rfl⟩ (by
   rintro i d ds hd ⟨x5,x6,x7,x8,x9,rfl⟩;obtain⟨hi,rfl⟩:=vz hd;obtain⟨y7,y8,y9,e⟩:=JP K ha hi x7 x8 x9 (l:=stI Q T a i) (by have:=Fx Q T a i;omega)
   exact⟨_,_,rfl,.inl e,_,_,_,_,_,rfl⟩)
 rw[A1]at h1;have tl:∀l0,l0=(stI Q T a 0).map F6->(lZ (j0 4 (jR (j5 (c6 i6 (z9 "Table" "full" (i8 0)) (i8 1))) (bo W5 (fC (.int 1))) (fC (.int 1)))) (lZ (L7 (D5 lu (i9 (L9 "Table" "amounts" O3 (i8 0) m6) m6)) (kG 2 (V0 5 (V0 6 kH))) gG) (Q6 3))) [some (.dat (o7 Q T)),iD (a:Int),some (.dat (.list (rl Q.m λk=>.int (T.g0 (j8 Q) a k)))),some (.own l0),none,none,none,none,none,none]=some (.ret (.own ((stI Q T a Q.m).map F6))):=by rintro l0 rfl;walk_at "v";rw[C5 _ ha];walk_at "v";rw[ZN];walk_at "v";rw[mj (Q:=Q) (T:=T) (l:=[]) rfl rfl (vH Q T) rfl,wI K];walk_at "v";rw[tJ,h1];walk_at "v"
 have own:(C3 (j5 (c6 aH (c6 i6 (z9 "Table" "limits" (i8 0)) (i8 1)) (fC .none))) (de 3 (m3 (i9 (c6 i6 (z9 "Table" "limits" (i8 0)) (i8 1)) (i9 (fC (.int 1)) (i9 (i8 1) (i9 (fC .none) (i9 (fC (.bool false)) m6))))))) q9) [some (.dat (o7 Q T)),iD (a:Int),some (.dat (.list (rl Q.m λk=>.int (T.g0 (j8 Q) a k)))),some (.own []),none,none,none,none,none,none]=some (.next [some (.dat (o7 Q T)),iD (a:Int),some (.dat (.list (rl Q.m λk=>.int (T.g0 (j8 Q) a k)))),some (.own ((stI Q T a 0).map F6)),none,none,none,none,none,none]):=by
  walk_at "v";rw[C5 _ ha];unfold stI sM;cases Q.lim a with
  |none=>simp only[au];walk_at "v"
  |some v =>
   simp only[au];walk_at "v";rw[dw (l:=[]) _ rfl (by simp)]
   rfl
 unfold gB D1;rw[c7 (by rfl),m8,show K4 3 (O7 m6) (M0 [o7 Q T,.int (a:Int),.list (rl Q.m λk=>.int (T.g0 (j8 Q) a k))]++v5 (10-3) none)=some (.next [some (.dat (o7 Q T)),iD (a:Int),some (.dat (.list (rl Q.m λk=>.int (T.g0 (j8 Q) a k)))),some (.own []),none,none,none,none,none,none])from rfl,j9,m8,own,j9,tl _ rfl]
 rfl
def pW(s r:S9):Bool:=decide (s.top*r.bot<r.top*s.bot)||(decide (s.top*r.bot=r.top*s.bot)&&decide (s.ch<r.ch))
structure Hk(s:S9):Prop where
 t:Bt 20000 s.top
 b:Bt 20000 s.bot
 p:0<s.bot
theorem JR{s:S9}(hs:Hk s)(hr:Hk r):ni [F6 s,F6 r]=some (.dat (.bool (pW s r))):=by
 delta ni F6;walk_at "v";rw[o9 (hs.t.mono #[]) (hr.b.mono #[])];walk_at "v";rw[o9 (hr.t.mono #[]) (hs.b.mono #[])];walk_at "v";delta pW;by_cases c:s.top*r.bot<r.top*s.bot
 . simp[c];rfl
 . by_cases c2:s.top*r.bot=r.top*s.bot
   . simp[c,c2];rfl
   . simp[c,c2];rfl
def bZ:Option S9->c5
 |none=>.none
 |some s=>F6 s
def dY(o:Option S9)(s:S9):Option S9:=match o with
 |none=>some s
 |some r=>if pW s r=true then some s else some r
theorem Ro{l:List S9}(h:∀s∈l,Hk s):ax [.list (l.map F6)]=some (.dat (bZ (l.foldl dY none))):=by
 have key:∀(l:List S9) (o:Option S9) (L:c5) (x:Option PV),(∀s∈l,Hk s)->(∀r,o=some r->Hk r)->∃x',M5 (A8 2) aj (l.map F6) [some (.dat L),some (.dat (bZ o)),x]=some (.next [some (.dat L),some (.dat (bZ (l.foldl dY o))),x']):=by
  intro l;induction l with
  |nil=>exact λo L x _ _=>⟨x,rfl⟩
  |cons s l ih =>
   intro o L x h1 h2;have hs:=h1 s B7;have e:aj [some (.dat L),some (.dat (bZ o)),some (.dat (F6 s))]=some (.next [some (.dat L),some (.dat (bZ (dY o s))),some (.dat (F6 s))]):=by
    delta aj;cases o with
    |none =>
     simp only[bZ];walk_at "v";rfl
    |some r =>
     have hn:cR (F6 r) .none=some (.dat (.bool false)):=rfl;simp only[bZ];simp only[C3,cz,j5,c6,i8,fC,xE,R4,i7,PV.gX,hn,uY,aB,N9,e9,i9,m6,JR hs (h2 r rfl)];delta dY;cases c:pW s r
     . simp only[c,aB,N9];rfl
     . simp only[c,w9];rfl
   rw[o5,P9 (ds1:=[some (.dat L),some (.dat (bZ o)),some (.dat (F6 s))]) rfl e,xi];refine ih _ L _ (λy hy=>h1 y (A0 _ hy)) λr hr=>?_
   unfold dY at hr;split at hr
   . cases hr;exact hs
   . split at hr
     . cases hr;exact hs
     . cases hr;exact h2 _ rfl
 obtain⟨x',e⟩:=key l none (.list (l.map F6)) none h (λr z=>by cases z)
 delta ax;walk_at "v";have e':M5 (A8 2) aj (l.map F6) [some (.dat (.list (l.map F6))),some (.dat .none),none]=some (.next [some (.dat (.list (l.map F6))),some (.dat (bZ (l.foldl dY none))),x']):=e;rw[e'];walk_at "v"
def le(r s:S9):Prop:=r.top*s.bot<s.top*r.bot\/(r.top*s.bot=s.top*r.bot/\r.ch<=s.ch)
theorem Lw{s:S9}(h:pW s r=false):le r s:=by
 unfold pW at h;rw[NI,Bool.and_eq_false_iff]at h;obtain⟨h1,h2⟩:=h;have h1:=of_decide_eq_false h1;delta le;by_cases c:s.top*r.bot=r.top*s.bot
 . rcases h2 with h2|h2
   . exact absurd c (of_decide_eq_false h2)
   . have:=of_decide_eq_false h2;exact .inr ⟨c.symm,by lia⟩
 . left;lia
theorem ID{s:S9}(h:pW s r=true):le s r:=by
 unfold pW at h;rw[MQ,ek]at h;rcases h with h|⟨h1,h2⟩
 . exact .inl (pE h)
 . have:=pE h1;have:=pE h2;exact .inr ⟨by assumption,by lia⟩
theorem le_trans{s:S9}(hr:0<r.bot)(hs:0<s.bot)(ht:0<t.bot)(h1:le r s)(h2:le s t):le r t:=by
 have a1:r.top*s.bot<=s.top*r.bot:=by unfold le at h1;omega
 have a2:s.top*t.bot<=t.top*s.bot:=by unfold le at h2;omega
 have b1:=jC a1 (Q7 ht);have b2:=jC a2 (Q7 hr);have e1:s.top*r.bot*t.bot=s.top*t.bot*r.bot:=by grind
 have e2:s.bot*(r.top*t.bot)=r.top*s.bot*t.bot:=by grind
 have e3:s.bot*(t.top*r.bot)=t.top*s.bot*r.bot:=by grind
 have c1:s.bot*(r.top*t.bot)<=s.bot*(t.top*r.bot):=by omega
 have c2:=xH c1 hs;unfold le;by_cases c:r.top*t.bot=t.top*r.bot
 . right;refine⟨c,?_⟩;have d1:r.top*s.bot*t.bot=s.top*r.bot*t.bot:=by rw[c]at e2;omega
   have d2:s.top*t.bot*r.bot=t.top*s.bot*r.bot:=by rw[c]at e2;omega
   have f1:r.top*s.bot=s.top*r.bot:=sE (by omega) d1
   have f2:s.top*t.bot=t.top*s.bot:=sE (by omega) d2
   unfold le at h1 h2;omega
 . left;omega
theorem zD:∀(l:List S9) (o:Option S9),(∀s∈l,0<s.bot)->(∀r,o=some r->0<r.bot)->(l.foldl dY o=none->o=none/\l=[])/\∀r,l.foldl dY o=some r->(o=some r\/r∈l)/\(∀s,o=some s->le r s)/\∀s∈l,le r s
 | [],o,_,_=>⟨λh=>⟨h,rfl⟩,λr h=>⟨.inl h,λs hs=>by have h':o=some r:=h;rw[h']at hs;cases hs;exact .inr ⟨rfl,l5 _⟩,λs hs=>absurd hs (by simp)⟩⟩
 |x::l,o,h1,h2=>by
  have hx:=h1 x B7;have hb:∃y,dY o x=some y/\0<y.bot/\(o=some y\/y=x)/\le y x/\∀s,o=some s->le y s:=by
   delta dY;cases o with
   |none=>exact⟨x,rfl,hx,.inr rfl,.inr ⟨rfl,l5 _⟩,λs z=>by cases z⟩
   |some r =>
    cases c:pW x r with
    |true=>exact⟨x,by simp[c],hx,.inr rfl,.inr ⟨rfl,l5 _⟩,λs z=>by cases z;exact ID c⟩
    |false=>exact⟨r,by simp[c],h2 r rfl,.inl rfl,Lw c,λs z=>by cases z;exact .inr ⟨rfl,l5 _⟩⟩
  obtain⟨y,e,hy,h3,h4,h5⟩:=hb;rw[xi,e];obtain⟨i1,i2⟩:=zD l (some y) (λs hs=>h1 s (A0 _ hs)) λr z=>by cases z;exact hy
  refine⟨λh=>(by have:=(i1 h).1;cases this),λr hr=>?_⟩
  obtain⟨j1,j2,j3⟩:=i2 r hr;have hrb:0<r.bot:=by
   rcases j1 with j1|j1
   . cases j1;exact hy
   . exact h1 r (A0 _ j1)
  have ly:=j2 y rfl;refine⟨?_,λs hs=>le_trans hrb hy (h2 s hs) ly (h5 s hs),λs hs=>?_⟩
  . rcases j1 with j1|j1
    . cases j1;rcases h3 with h3|h3
      . exact .inl h3
      . rw[h3];exact .inr B7
    . exact .inr (A0 _ j1)
  . rcases List.mem_cons.mp hs with rfl|hs
    . exact le_trans hrb hy hx ly h4
    . exact j3 s hs
end
end
section
variable{a p t:Nat}{w:Option Addr}{ds:Ds}{v:Int}
section
variable{Q:K3}{T:Sx.Tb}
theorem lL{n:Nat}(h:a<n):eO n (a:Int)=some a:=by
 delta eO;first
 |(rw[c7 ∅];first|rfl|simp;lia)
 |(simp;lia)
theorem sS{f:Str}{i:Nat}{Fk Fv:DV}{pv:PV}{l:List c5}(h:ds[i]? = some (some (.ob w (m9 Q T))))(hl:p5 f (C2 Q T)=some (.own l))(hv:Fv ds=some pv)(hk:Fk ds=some (.dat (.int (a:Int))))(ha:a<l.length):
  bu "Table" i f Fk Fv ds=some (.next (ds.set i (some (.ob w (.ins "Table" (G7 f (.own (l.set a pv.d)) (C2 Q T))))))):=by delta bu eV;rw[hv,i7,hk,i7,h];simp only[w9,i7,hl,qZ,PV.gX,lL ha]
theorem KH{i:Nat}{Fk Fv:DV}{pv:PV}{b:Bool}(h:ds[i]? = some (some (.ob w (m9 Q T))))(hv:Fv ds=some pv)(hd:pv.d=.bool b)(hk:Fk ds=some (.dat (.int (a:Int))))(ha:a<Q.n):
  bu "Table" i "full" Fk Fv ds=some (.next (ds.set i (some (.ob w (m9 Q {T with full:=λj=>if j=a then b else T.full j}))))):=by
 rw[sS h (yj Q T) hv hk (by rw[A1];exact ha),gP,hd]
 have e:(rl Q.n λk=>if k=a then PyData.bool b else .bool (T.full k))=rl Q.n λj=>.bool (if j=a then b else T.full j):=Y1 λk _=>by split<;>rfl
 rw[e,US]
theorem Et{i:Nat}{Fk Fv:DV}{pv:PV}{x:Int}(h:ds[i]? = some (some (.ob w (m9 Q T))))(hv:Fv ds=some pv)(hd:pv.d=.int x)(hk:Fk ds=some (.dat (.int (p:Int))))(hp:p<Q.m):
  bu "Table" i "rights" Fk Fv ds=some (.next (ds.set i (some (.ob w (m9 Q {T with rt:=λj=>if j=p then x else T.rt j}))))):=by
 rw[sS h (rn Q T) hv hk (by rw[A1];exact hp),gP,hd]
 have e:(rl Q.m λk=>if k=p then Z0 x else .int (T.rt k))=rl Q.m λj=>.int (if j=p then x else T.rt j):=Y1 λk _=>by split<;>rfl
 rw[e,Kd]
theorem Ew{i:Nat}{Fk Fv:DV}{pv:PV}{x:Nat}(h:ds[i]? = some (some (.ob w (m9 Q T))))(hv:Fv ds=some pv)(hd:pv.d=.int (x:Int))(hk:Fk ds=some (.dat (.int (p:Int))))(hp:p<Q.m):
  bu "Table" i "chosen" Fk Fv ds=some (.next (ds.set i (some (.ob w (m9 Q {T with B:=λj=>if j=p then x else T.B j}))))):=by
 rw[sS h (rz Q T) hv hk (by rw[A1];exact hp),gP,hd]
 have e:(rl Q.m λk=>if k=p then Z0 (x:Int)else .int (T.B k:Int))=rl Q.m λj=>.int ((if j=p then x else T.B j:Nat):Int):=Y1 λk _=>by split<;>rfl
 rw[e,Kf]
theorem Eu{i:Nat}{Fk Fv:DV}{pv:PV}{x:Nat->Int}(h:ds[i]? = some (some (.ob w (m9 Q T))))(hv:Fv ds=some pv)(hd:pv.d=il Q.m x)(hk:Fk ds=some (.dat (.int (t:Int))))(ht:t<3):
  bu "Table" i "prices" Fk Fv ds=some (.next (ds.set i (some (.ob w (m9 Q {T with pr:=λj=>if j=t then x else T.pr j}))))):=by
 rw[sS h (rp Q T) hv hk (by rw[A1];exact ht),gP,hd]
 have e:(rl 3 λk=>if k=t then il Q.m x else il Q.m (T.pr k))=rl 3 λj=>il Q.m (if j=t then x else T.pr j):=Y1 λk _=>by split<;>rfl
 rw[e,Ke]
def jz(Q:K3)(T:Sx.Tb)(a:Nat)(by':Int):Sx.Tb:={T with full:=λj=>if j=a then !T.full a else T.full j,rt:=λp=>T.rt p+by'*D8 (Q.col a) p}
theorem zB{w:Option Addr}{a by':Int}(hb:Bt 60000 by'):∀(c:List (Nat×Int)) (T:Sx.Tb) (x3 x4:Option PV),(∀e∈c,e.1<Q.m/\Bt 60000 e.2) ->
  ∃y3 y4,M5 (kG 2 (V0 3 (V0 4 kH))) bU (c.map λe=>.tuple [.int (e.1:Int),.int e.2]) [some (.ob w (m9 Q T)),iD a,iD by',x3,x4]=some (.next [some (.ob w (m9 Q {T with rt:=λp=>T.rt p+by'*D8 c p})),iD a,iD by',y3,y4])
 | [],T,x3,x4,_=>⟨x3,x4,by
   have:({T with rt:=λp=>T.rt p+by'*D8 [] p}:Sx.Tb)=T:=by
    have:(λp=>T.rt p+by'*D8 [] p)=T.rt:=by funext p;rw[D8,K9,mK]
    rw[this]
   rw[this];rfl⟩
 |e::c,T,x3,x4,h=>by
  obtain⟨h1,h2⟩:=h e B7;have eB:bU [some (.ob w (m9 Q T)),iD a,iD by',iD (e.1:Int),iD e.2]=some (.next [some (.ob w (m9 Q {T with rt:=λj=>if j=e.1 then T.rt e.1+by'*e.2 else T.rt j})),iD a,iD by',iD (e.1:Int),iD e.2]):=by
   delta bU;rw[Et (Q:=Q) (T:=T) (w:=w) (p:=e.1) (x:=T.rt e.1+by'*e.2) (pv:=.dat (.int (T.rt e.1+by'*e.2))) rfl ?_ rfl rfl h1]
   . rfl
   . walk_at "v";rw[C5 _ h1];walk_at "v";rw[o9 hb h2];walk_at "v"
  obtain⟨y3,y4,ih⟩:=zB (w:=w) (a:=a) hb c {T with rt:=λj=>if j=e.1 then T.rt e.1+by'*e.2 else T.rt j} (iD (e.1:Int)) (iD e.2) λx hx=>h x (A0 _ hx)
  refine⟨y3,y4,?_⟩;rw[o5,P9 (ds1:=[some (.ob w (m9 Q T)),iD a,iD by',iD (e.1:Int),iD e.2]) rfl eB,ih];have:(λp=>(if p=e.1 then T.rt e.1+by'*e.2 else T.rt p)+by'*D8 c p)=λp=>T.rt p+by'*D8 (e::c) p:=by
   funext p
   rw[D8];by_cases z:e.1=p
   . rw[c7 z.symm,c7 z,z,iq,Int.add_assoc]
   . rw[c9 λy=>z y.symm,c9 z,K8]
  simp only[this]
theorem GO(ha:a<Q.n)(hv:Q.lim a=some v)(hb:Bt 60000 v)(cb:∀e∈Q.col a,e.1<Q.m/\Bt 7000 e.2):J4 [.ob none (m9 Q T),.dat (.int (a:Int))]=some (.dat .none,[some (.ob none (m9 Q (jz Q T a (-(T.sg a*v))))),none]):=by
 refine md rfl λt=>?_
 have hby:Bt 60000 (-(T.sg a*v)):=by
  delta Sx.Tb.sg;split
  . exact hb.of_le ∅
  . exact hb.of_le ∅
 rw[show((aV t 0 [PV.ob none (m9 Q T),.dat (.int (a:Int))]).map some++v5 (5-2) none:Ds)=[some (.ob (some (t 0)) (m9 Q T)),iD (a:Int),none,none,none]from rfl]
 have s1:j0 2 (jR (j5 (gT "Table" 0 "full" (i8 1))) (c6 i6 (F8 "Table" 0 "limits") (i8 1)) (bo W5 (c6 i6 (F8 "Table" 0 "limits") (i8 1)))) [some (.ob (some (t 0)) (m9 Q T)),iD (a:Int),none,none,none]=some (.next [some (.ob (some (t 0)) (m9 Q T)),iD (a:Int),iD (-(T.sg a*v)),none,none]):=by
  walk_at "v";rw[C5 _ ha];walk_at "v";rw[C5 _ ha,hv];simp only[au];walk_at "v";delta Sx.Tb.sg;cases T.full a
  . simp only[aB,N9,cU];rfl
  . simp only[w9,mI,cU,Int.neg_neg];rfl
 have s2:bu "Table" 0 "full" (i8 1) (rF (gT "Table" 0 "full" (i8 1))) [some (.ob (some (t 0)) (m9 Q T)),iD (a:Int),iD (-(T.sg a*v)),none,none]=some (.next [some (.ob (some (t 0)) (m9 Q {T with full:=λj=>if j=a then !T.full a else T.full j})),iD (a:Int),iD (-(T.sg a*v)),none,none]):=by
  rw[KH (Q:=Q) (T:=T) (w:=some (t 0)) (a:=a) (b:=!T.full a) (pv:=.dat (.bool (!T.full a))) rfl ?_ rfl rfl ha]
  . rfl
  . walk_at "v";rw[C5 _ ha];walk_at "v"
 obtain⟨y3,y4,h3⟩:=zB (Q:=Q) (w:=some (t 0)) (a:=(a:Int)) hby (Q.col a) {T with full:=λj=>if j=a then !T.full a else T.full j} none none λe he=>⟨(cb e he).1,((cb e he).2).mono #[]⟩
 rw[m8,s1,j9,m8,s2,j9];walk_at "v";rw[C5 _ ha];walk_at "v";rw[h3];simp only[i7,kI,K5,w9];rfl
theorem GP(K:Y9 Q T)(ha:a<Q.n)(hv:Q.lim a=some v):J4 [.ob none (m9 Q T),.dat (.int (a:Int))]=some (.dat .none,[some (.ob none (m9 Q (jz Q T a (-(T.sg a*v))))),none]) :=
 GO ha hv ((K.lb a v ha hv).mono #[]) (K.cb a ha)
end
end
section
variable{w:Option Addr}{c':OD}{ds r:Ds}{xs:List c5}{a t:Nat}{g:Int}
section
variable{Q:K3}{T:Sx.Tb}
theorem MF(ds:Ds):∀xs:List c5,oa ds (xs.map AV.d)=some (xs.map .dat)
 | []=>rfl
 |x::xs=>by rw[o5,oa,MF ds xs];rfl
theorem FQ:∀(xs:List c5) (r ds:Ds),bY (xs.map AV.d) r ds=ds
 | [],r,ds=>by simp[bY]
 |x::xs,[],ds=>by simp[bY]
 |x::xs,y::r,ds=>by rw[o5,bY,FQ xs]
theorem yT:∀xs:List c5,O6 (xs.map AV.d)=[]
 | []=>rfl
 |x::xs=>by rw[o5,O6,yT xs]
theorem uX{i:Nat}{c:OD}{f:List PV->Option (PV×Ds)}{Fl:Ds->Option (List AV)}{pv:PV}(h:ds[i]? = some (some (.ob w c)))(hl:Fl ds=some (.s i::xs.map AV.d))(hf:f (.ob none c::xs.map .dat)=some (pv,some (.ob none c')::r)):
  gU f Fl ds=some (pv,ds.set i (some (.ob w c'))):=by
 delta gU;rw[hl,i7];rw[c7 (by rw[O6,yT];simp),oa]
 simp only[h,MF,i7,hf];rw[bY,h,FQ];rfl
theorem qe{m:Str}{i:Nat}{f:List PV->Option (PV×Ds)}{Fl:Ds->Option (List AV)}{pv:PV}(h:ds[i]? = some (some (.ob w (m9 Q T))))(hm:p5 m (C2 Q T)=none)(hl:Fl ds=some (xs.map AV.d))(hf:f (.ob none (m9 Q T)::xs.map .dat)=some (pv,some (.ob none c')::r)):
  J1 "Table" m i f Fl ds=some (pv,ds.set i (some (.ob w c'))):=by delta J1 eV;rw[h];simp only[w9,i7,hm];refine uX (xs:=xs) h ?_ hf;delta fO;rw[h];simp only[hl,i7]
def tQ(Q:K3)(T:Sx.Tb)(a l:Nat)(g:Int)(t q:Nat):Int:=(T.pr t q*(g*T.g0 (j8 Q) a l)-(-g*T.rest (j8 Q) t a)*T.inv l q).fdiv T.size
def bF(Q:K3)(T:Sx.Tb)(a l:Nat)(g:Int)(k q:Nat):Int:=if k=l then g*T.inv l q else(T.inv k q*(g*T.g0 (j8 Q) a l)-(g*T.g0 (j8 Q) a k)*T.inv l q).fdiv T.size
def N0(Q:K3)(T:Sx.Tb)(a:Nat):Sx.Tb:=if T.full a=true then jz Q T a (-(T.sg a*(Q.lim a).getD 0))else T
def Q5(Q:K3)(T:Sx.Tb)(a l:Nat)(g:Int):Sx.Tb:=⟨λk=>if k=l then a else T.B k,(N0 Q T a).full,g*T.g0 (j8 Q) a l,bF Q T a l g,λt=>if t<3 then tQ Q T a l g t else T.pr t,(N0 Q T a).rt⟩
theorem tP:(N0 Q T a).B=T.B/\(N0 Q T a).size=T.size/\(N0 Q T a).inv=T.inv/\(N0 Q T a).pr=T.pr:=by delta N0;split<;>exact⟨rfl,rfl,rfl,rfl⟩
def R6(Q:K3)(T:Sx.Tb)(a l:Nat)(g:Int)(i:Nat):Sx.Tb:=⟨T.B,(N0 Q T a).full,T.size,T.inv,λt=>if t<i then tQ Q T a l g t else T.pr t,(N0 Q T a).rt⟩
theorem a0h(a l:Nat)(g:Int):R6 Q T a l g 0=N0 Q T a:=by
 delta R6;have:(λt=>if t<0 then tQ Q T a l g t else T.pr t)=T.pr:=by funext t;simp
 rw[this];obtain⟨h1,h2,h3,h4⟩:=tP (Q:=Q) (T:=T) (a:=a);cases hu:N0 Q T a;rw[hu]at h1 h2 h3 h4;simp only at h1 h2 h3 h4;rw[<-h1,<-h2,<-h3,<-h4]
theorem uk(K:Y9 Q T){l:Nat}(ha:a<Q.n)(hl:l<Q.m)(ht:t<3)(hg:g=1\/g = -1)(w:Option Addr)(x8:Option PV):
  ∃y8,bT [some (.ob w (m9 Q (R6 Q T a l g t))),iD (a:Int),iD (l:Int),some (.dat (.list (rl Q.m λk=>.int (T.g0 (j8 Q) a k)))),iD g,iD (g*T.g0 (j8 Q) a l),some (.dat (il Q.m (T.inv l))),iD (t:Int),x8,none]=some (.next [some (.ob w (m9 Q (R6 Q T a l g (t+1)))),iD (a:Int),iD (l:Int),some (.dat (.list (rl Q.m λk=>.int (T.g0 (j8 Q) a k)))),iD g,iD (g*T.g0 (j8 Q) a l),some (.dat (il Q.m (T.inv l))),iD (t:Int),y8,none]):=by
 have gb:Bt 10 g:=by rcases hg with h|h<;>rw[h]<;>exact⟨by decide⟩
 have ept:(R6 Q T a l g t).pr t=T.pr t:=by show(if t<t then _ else T.pr t)=T.pr t;rw[c9 ∅]
 have er:(R6 Q T a l g t).rest (j8 Q) t a=T.rest (j8 Q) t a:=by delta Sx.Tb.rest;rw[ept];rfl
 have rb:=K.ZO t a ht ha;have e1:=FL (Q:=Q) (T:=R6 Q T a l g t) ht ha (K.cl a ha) (K.cb a ha) (K.wb t a ht ha) K.sb (λq hq=>by rw[ept];exact K.pb t q ht hq)
 rw[er]at e1;obtain⟨r,e2,e3⟩:=yM (m:=Q.m) (f:=T.pr t) (g:=T.inv l) (fa:=-g*T.rest (j8 Q) t a) (pv:=g*T.g0 (j8 Q) a l) (sz:=T.size) K.m1 (λi hi=>(K.pb t i ht hi).mono #[]) (λi hi=>(K.ib l i hl hi).mono #[]) ((gb.neg.mul rb).mono #[]) ((gb.mul (K.wF a l ha hl)).mono #[]) (K.sb.mono #[]) K.sp
 refine⟨iD (-g*T.rest (j8 Q) t a),?_⟩;delta bT;have s1:j0 8 (c6 B9 (bo W5 (i8 4)) (G8 (L9 "Table" "rest" O8 (M6 0) (i9 (i8 7) (i9 (i8 1) m6))))) [some (.ob w (m9 Q (R6 Q T a l g t))),iD (a:Int),iD (l:Int),some (.dat (.list (rl Q.m λk=>.int (T.g0 (j8 Q) a k)))),iD g,iD (g*T.g0 (j8 Q) a l),some (.dat (il Q.m (T.inv l))),iD (t:Int),x8,none]=some (.next [some (.ob w (m9 Q (R6 Q T a l g t))),iD (a:Int),iD (l:Int),some (.dat (.list (rl Q.m λk=>.int (T.g0 (j8 Q) a k)))),iD g,iD (g*T.g0 (j8 Q) a l),some (.dat (il Q.m (T.inv l))),iD (t:Int),iD (-g*T.rest (j8 Q) t a),none]):=by
  walk_at "v";rw[mj (Q:=Q) (T:=R6 Q T a l g t) (l:=[.int (t:Int),.int (a:Int)]) rfl rfl (Gi Q _) rfl,e1];walk_at "v";simp only[LF,w9,i7,PV.gX];rw[o9 (gb.neg.mono #[]) (show Bt 60000 (T.rest (j8 Q) t a)from rb.mono #[])]
  rfl
 rw[m8,s1,j9];rw[Eu (Q:=Q) (T:=R6 Q T a l g t) (w:=w) (t:=t) (x:=tQ Q T a l g t) (pv:=r) rfl ?_ e3 rfl ht]
 . have:({R6 Q T a l g t with pr:=λj=>if j=t then tQ Q T a l g t else(R6 Q T a l g t).pr j}:Sx.Tb)=R6 Q T a l g (t+1):=by
     delta R6;have:(λj=>if j=t then tQ Q T a l g t else if j<t then tQ Q T a l g j else T.pr j)=λj=>if j<t+1 then tQ Q T a l g j else T.pr j:=by
      funext j
      by_cases c:j=t
      . rw[c7 c,c7 ∅,c]
      . rw[c9 c];by_cases c2:j<t
        . rw[c7 c2,c7 ∅]
        . rw[c9 c2,c9 ∅]
     simp only[this]
   rw[this];rfl
 . walk_at "v";rw[C5 _ ht];walk_at "v";rw[ept];exact e2
theorem Ug(K:Y9 Q T){l:Nat}(ha:a<Q.n)(hl:l<Q.m)(hf:T.full a=true->Q.lim a≠none)(hg:g=if 0<T.g0 (j8 Q) a l then 1 else -1):
  bP [.ob none (m9 Q T),.dat (.int (a:Int)),.dat (.int (l:Int)),.dat (.list (rl Q.m λk=>.int (T.g0 (j8 Q) a k)))]=some (.dat .none,[some (.ob none (m9 Q (Q5 Q T a l g))),none,none,none]):=by
 refine md rfl λt=>?_
 have hg':g=1\/g = -1:=by rw[hg];split<;>simp
 have gb:Bt 10 g:=by rcases hg' with h|h<;>rw[h]<;>exact⟨by decide⟩
 generalize hw:(some (t 0):Option Addr)=w;generalize hP:(pe (rl Q.m λk=>.int (T.g0 (j8 Q) a k)))=PC
 rw[show((aV t 0 [PV.ob none (m9 Q T),.dat (.int (a:Int)),.dat (.int (l:Int)),.dat PC]).map some++v5 (10-4) none:Ds)=[some (.ob (some (t 0)) (m9 Q T)),iD (a:Int),iD (l:Int),some (.dat PC),none,none,none,none,none,none]from rfl,hw]
 have s1:C3 (j5 (gT "Table" 0 "full" (i8 1))) (J9 (J1 "Table" "flip" 0 J4 (J5 (i8 1) cM))) q9 [some (.ob w (m9 Q T)),iD (a:Int),iD (l:Int),some (.dat PC),none,none,none,none,none,none]=some (.next [some (.ob w (m9 Q (N0 Q T a))),iD (a:Int),iD (l:Int),some (.dat PC),none,none,none,none,none,none]):=by
  have eb:j5 (gT "Table" 0 "full" (i8 1)) [some (.ob w (m9 Q T)),iD (a:Int),iD (l:Int),some (.dat PC),none,none,none,none,none,none]=some (T.full a):=by walk_at "v";rw[C5 _ ha];walk_at "v"
  delta C3 N0;rw[eb,i7];by_cases c:T.full a=true
  . rw[c7 c,c7 c];obtain⟨v,hv⟩:=Option.ne_none_iff_exists'.mp (hf c);rw[hv];delta J9;rw[qe (Q:=Q) (T:=T) (w:=w) (xs:=[.int (a:Int)]) rfl (uE Q T) rfl (GP K ha hv)];rfl
  . rw[c9 c,c9 c];rfl
 have s2:j0 4 (jR (j5 (c6 oK (c6 i6 (i8 3) (i8 2)) (fC (.int 0)))) (fC (.int 1)) (bo W5 (fC (.int 1)))) [some (.ob w (m9 Q (N0 Q T a))),iD (a:Int),iD (l:Int),some (.dat PC),none,none,none,none,none,none]=some (.next [some (.ob w (m9 Q (N0 Q T a))),iD (a:Int),iD (l:Int),some (.dat PC),iD g,none,none,none,none,none]):=by subst hP;walk_at "v";rw[C5 _ hl];walk_at "v";rw[hg];split<;>rfl
 have s3:j0 5 (c6 B9 (i8 4) (c6 i6 (i8 3) (i8 2))) [some (.ob w (m9 Q (N0 Q T a))),iD (a:Int),iD (l:Int),some (.dat PC),iD g,none,none,none,none,none]=some (.next [some (.ob w (m9 Q (N0 Q T a))),iD (a:Int),iD (l:Int),some (.dat PC),iD g,iD (g*T.g0 (j8 Q) a l),none,none,none,none]):=by subst hP;walk_at "v";rw[C5 _ hl];walk_at "v";rw[o9 (gb.mono #[]) ((K.wF a l ha hl).mono #[])];rfl
 have s4:j0 6 (c6 i6 (F8 "Table" 0 "inverse") (i8 2)) [some (.ob w (m9 Q (N0 Q T a))),iD (a:Int),iD (l:Int),some (.dat PC),iD g,iD (g*T.g0 (j8 Q) a l),none,none,none,none]=some (.next [some (.ob w (m9 Q (R6 Q T a l g 0))),iD (a:Int),iD (l:Int),some (.dat PC),iD g,iD (g*T.g0 (j8 Q) a l),some (.dat (il Q.m (T.inv l))),none,none,none]):=by rw[a0h];walk_at "v";rw[C5 _ hl,(tP (Q:=Q) (T:=T) (a:=a)).2.2.1];rfl
 have s5:∃x7 x8,L7 (F7 (fC dW)) (A8 7) bT [some (.ob w (m9 Q (R6 Q T a l g 0))),iD (a:Int),iD (l:Int),some (.dat PC),iD g,iD (g*T.g0 (j8 Q) a l),some (.dat (il Q.m (T.inv l))),none,none,none]=some (.next [some (.ob w (m9 Q (R6 Q T a l g 3))),iD (a:Int),iD (l:Int),some (.dat PC),iD g,iD (g*T.g0 (j8 Q) a l),some (.dat (il Q.m (T.inv l))),x7,x8,none]):=by subst hP;obtain⟨y0,e0⟩:=uk K ha hl (t:=0) #[] hg' w none;obtain⟨y1,e1⟩:=uk K ha hl (t:=1) #[] hg' w y0;obtain⟨y2,e2⟩:=uk K ha hl (t:=2) #[] hg' w y1;refine⟨iD 2,y2,?_⟩;walk_at "v";rw[P9 rfl e0,P9 rfl e1,P9 rfl e2];rfl
 obtain⟨x7,x8,s5⟩:=s5;have s6:K4 9 (k6 (D5 cZ (i9 (F8 "Table" 0 "inverse") (i9 (i8 3) m6))) (P1 2) k7 eL) [some (.ob w (m9 Q (R6 Q T a l g 3))),iD (a:Int),iD (l:Int),some (.dat PC),iD g,iD (g*T.g0 (j8 Q) a l),some (.dat (il Q.m (T.inv l))),x7,x8,none]=some (.next [some (.ob w (m9 Q (R6 Q T a l g 3))),iD (a:Int),iD (l:Int),some (.dat PC),iD g,iD (g*T.g0 (j8 Q) a l),some (.dat (il Q.m (T.inv l))),x7,x8,some (.own (rl Q.m λk=>il Q.m λq=>(T.inv k q*(g*T.g0 (j8 Q) a l)-(g*T.g0 (j8 Q) a k)*T.inv l q).fdiv T.size))]):=by
  subst hP;walk_at "v";rw[show(R6 Q T a l g 3).inv=T.inv from rfl,jI]
  walk_at "v";rw[c7 (T6 K.m1),B6 (g:=λk=>il Q.m λq=>(T.inv k q*(g*T.g0 (j8 Q) a l)-(g*T.g0 (j8 Q) a k)*T.inv l q).fdiv T.size) λk hk=>?_]
  . rfl
  . obtain⟨r,e2,e3⟩:=yM (m:=Q.m) (f:=T.inv k) (g:=T.inv l) (fa:=g*T.g0 (j8 Q) a k) (pv:=g*T.g0 (j8 Q) a l) (sz:=T.size) K.m1 (λi hi=>(K.ib k i hk hi).mono #[]) (λi hi=>(K.ib l i hl hi).mono #[]) ((gb.mul (K.wF a k ha hk)).mono #[]) ((gb.mul (K.wF a l ha hl)).mono #[]) (K.sb.mono #[]) K.sp
    refine⟨_,r,rfl,?_,e3⟩;delta eL;walk_at "v";rw[o9 (gb.mono #[]) ((K.wF a k ha hk).mono #[])];walk_at "v";exact e2
 have s7:X3 9 (i8 2) (k6 (F7 (i8 6)) k8 k7 bR) [some (.ob w (m9 Q (R6 Q T a l g 3))),iD (a:Int),iD (l:Int),some (.dat PC),iD g,iD (g*T.g0 (j8 Q) a l),some (.dat (il Q.m (T.inv l))),x7,x8,some (.own (rl Q.m λk=>il Q.m λq=>(T.inv k q*(g*T.g0 (j8 Q) a l)-(g*T.g0 (j8 Q) a k)*T.inv l q).fdiv T.size))]=some (.next [some (.ob w (m9 Q (R6 Q T a l g 3))),iD (a:Int),iD (l:Int),some (.dat PC),iD g,iD (g*T.g0 (j8 Q) a l),some (.dat (il Q.m (T.inv l))),x7,x8,some (.own (rl Q.m λk=>il Q.m (bF Q T a l g k)))]):=by
  have ev:k6 (F7 (i8 6)) k8 k7 bR [some (.ob w (m9 Q (R6 Q T a l g 3))),iD (a:Int),iD (l:Int),some (.dat PC),iD g,iD (g*T.g0 (j8 Q) a l),some (.dat (il Q.m (T.inv l))),x7,x8,some (.own (rl Q.m λk=>il Q.m λq=>(T.inv k q*(g*T.g0 (j8 Q) a l)-(g*T.g0 (j8 Q) a k)*T.inv l q).fdiv T.size))]=some (.own (rl Q.m λq=>.int (g*T.inv l q))):=by
   walk_at "v";rw[c7 (T6 K.m1),B6 (g:=λq=>.int (g*T.inv l q)) λq hq=>⟨_,_,rfl,by delta bR;walk_at "v";rw[o9 (gb.mono #[]) ((K.ib l q hl hq).mono #[])],rfl⟩]
   rfl
  delta X3;rw[ev,i7];show(eO (rl Q.m _).length (l:Int)).bind _=_
  rw[A1,lL hl,i7,gP];have:(rl Q.m λk=>if k=l then PV.d (.own (rl Q.m λq=>.int (g*T.inv l q)))else il Q.m λq=>(T.inv k q*(g*T.g0 (j8 Q) a l)-(g*T.g0 (j8 Q) a k)*T.inv l q).fdiv T.size)=rl Q.m λk=>il Q.m (bF Q T a l g k):=Y1 λk _=>by
   by_cases c:k=l
   . rw[c7 c];show il Q.m _=_
     congr 2
     funext q
     delta bF;rw[c7 c]
   . rw[c9 c]
     congr 2
     funext q
     delta bF;rw[c9 c]
  rw[this];rfl
 have s8:jx 9 (T7 "Table" 0 "inverse" gW (i8 9)) [some (.ob w (m9 Q (R6 Q T a l g 3))),iD (a:Int),iD (l:Int),some (.dat PC),iD g,iD (g*T.g0 (j8 Q) a l),some (.dat (il Q.m (T.inv l))),x7,x8,some (.own (rl Q.m λk=>il Q.m (bF Q T a l g k)))]=some (.next [some (.ob w (m9 Q {R6 Q T a l g 3 with inv:=bF Q T a l g})),iD (a:Int),iD (l:Int),some (.dat PC),iD g,iD (g*T.g0 (j8 Q) a l),some (.dat (il Q.m (T.inv l))),x7,x8,some (.dat (.list (rl Q.m λk=>il Q.m (bF Q T a l g k))))]):=by walk_at "v";rw[c7 (by delta C2;simp),HP]
 have s9:T7 "Table" 0 "size" gW (i8 5) [some (.ob w (m9 Q {R6 Q T a l g 3 with inv:=bF Q T a l g})),iD (a:Int),iD (l:Int),some (.dat PC),iD g,iD (g*T.g0 (j8 Q) a l),some (.dat (il Q.m (T.inv l))),x7,x8,some (.dat (.list (rl Q.m λk=>il Q.m (bF Q T a l g k))))]=some (.next [some (.ob w (m9 Q {R6 Q T a l g 3 with inv:=bF Q T a l g,size:=g*T.g0 (j8 Q) a l})),iD (a:Int),iD (l:Int),some (.dat PC),iD g,iD (g*T.g0 (j8 Q) a l),some (.dat (il Q.m (T.inv l))),x7,x8,some (.dat (.list (rl Q.m λk=>il Q.m (bF Q T a l g k))))]):=by walk_at "v";rw[c7 (by delta C2;simp),UR]
 have s10:bu "Table" 0 "chosen" (i8 2) (i8 1) [some (.ob w (m9 Q {R6 Q T a l g 3 with inv:=bF Q T a l g,size:=g*T.g0 (j8 Q) a l})),iD (a:Int),iD (l:Int),some (.dat PC),iD g,iD (g*T.g0 (j8 Q) a l),some (.dat (il Q.m (T.inv l))),x7,x8,some (.dat (.list (rl Q.m λk=>il Q.m (bF Q T a l g k))))]=some (.next [some (.ob w (m9 Q (Q5 Q T a l g))),iD (a:Int),iD (l:Int),some (.dat PC),iD g,iD (g*T.g0 (j8 Q) a l),some (.dat (il Q.m (T.inv l))),x7,x8,some (.dat (.list (rl Q.m λk=>il Q.m (bF Q T a l g k))))]):=by
  rw[Ew (Q:=Q) (T:={R6 Q T a l g 3 with inv:=bF Q T a l g,size:=g*T.g0 (j8 Q) a l}) (w:=w) (p:=l) (x:=a) (pv:=.dat (.int (a:Int))) rfl rfl rfl rfl hl]
  rfl
 rw[m8,s1,j9,m8,s2,j9,m8,s3,j9,m8,s4,j9,m8,s5,j9,m8,s6,j9,m8,s7,j9,m8,s8,j9,m8,s9,j9,s10];subst hw;simp only[i7,kI,K5,w9]
end
end
section
variable{a p:Nat}{v g:Int}
section
variable{Q:K3}{T:Sx.Tb}
theorem BK(s:S9):i6 (F6 s) (.int 3)=some (.dat (optN s.pl)):=rfl
theorem Yn(s:S9):i6 (F6 s) (.int 4)=some (.dat (.bool s.tp)):=rfl
theorem Yo(s:S9):i6 (F6 s) (.int 2)=some (.dat (.int (s.ch:Int))):=rfl
theorem Yp(s:S9):i6 (F6 s) (.int 0)=some (.dat (.int s.top)):=rfl
theorem QI(K:Y9 Q T){s:S9}{PC:c5}(ha:a<Q.n)(hv:Q.lim a=some v)(hs:s.pl=none):
  kB [.ob none (m9 Q T),.dat (.int (a:Int)),.dat PC,.dat (F6 s)]=some (.dat .none,[some (.ob none (m9 Q (jz Q T a (-(T.sg a*v))))),none,none,none]):=by
 refine md rfl λt=>?_
 rw[show((aV t 0 [PV.ob none (m9 Q T),.dat (.int (a:Int)),.dat PC,.dat (F6 s)]).map some++v5 (4-4) none:Ds)=[some (.ob (some (t 0)) (m9 Q T)),iD (a:Int),some (.dat PC),some (.dat (F6 s))]from rfl]
 generalize hw:(some (t 0):Option Addr)=w;have s1:C3 (j5 (c6 cR (c6 i6 (i8 3) (fC (.int 3))) (fC .none))) (lZ (J9 (J1 "Table" "flip" 0 J4 (J5 (i8 1) cM))) ma) q9 [some (.ob w (m9 Q T)),iD (a:Int),some (.dat PC),some (.dat (F6 s))]=some (.retO (.dat .none) [some (.ob w (m9 Q (jz Q T a (-(T.sg a*v))))),iD (a:Int),some (.dat PC),some (.dat (F6 s))]):=by
  have eb:j5 (c6 cR (c6 i6 (i8 3) (fC (.int 3))) (fC .none)) [some (.ob w (m9 Q T)),iD (a:Int),some (.dat PC),some (.dat (F6 s))]=some true:=by walk_at "v";rw[BK,hs];rfl
  delta C3;rw[eb,i7,c7 rfl,m8];delta J9;rw[qe (Q:=Q) (T:=T) (w:=w) (xs:=[.int (a:Int)]) rfl (uE Q T) rfl (GP K ha hv)];rfl
 rw[m8,s1];subst hw;show(some (Out.retO _ _)).bind _=_
 simp only[i7,kI,K5,w9]
theorem Gk(K:Y9 Q T){l:Nat}{s:S9}(ha:a<Q.n)(hl:l<Q.m)(hs:s.pl=some l)(hf:T.full a=true->Q.lim a≠none)(hg:g=if 0<T.g0 (j8 Q) a l then 1 else -1)(hc:s.ch<Q.n)(hv:s.tp=true->Q.lim s.ch=some v):
  kB [.ob none (m9 Q T),.dat (.int (a:Int)),.dat (.list (rl Q.m λk=>.int (T.g0 (j8 Q) a k))),.dat (F6 s)]=some (.dat .none,[some (.ob none (m9 Q (if s.tp=true then jz Q (Q5 Q T a l g) s.ch (-((Q5 Q T a l g).sg s.ch*v))else Q5 Q T a l g))),none,none,none]):=by
 refine md rfl λt=>?_
 generalize hP:(pe (rl Q.m λk=>.int (T.g0 (j8 Q) a k)))=PC
 rw[show((aV t 0 [PV.ob none (m9 Q T),.dat (.int (a:Int)),.dat PC,.dat (F6 s)]).map some++v5 (4-4) none:Ds)=[some (.ob (some (t 0)) (m9 Q T)),iD (a:Int),some (.dat PC),some (.dat (F6 s))]from rfl]
 generalize hw:(some (t 0):Option Addr)=w;have s1:C3 (j5 (c6 cR (c6 i6 (i8 3) (fC (.int 3))) (fC .none))) (lZ (J9 (J1 "Table" "flip" 0 J4 (J5 (i8 1) cM))) ma) q9 [some (.ob w (m9 Q T)),iD (a:Int),some (.dat PC),some (.dat (F6 s))]=some (.next [some (.ob w (m9 Q T)),iD (a:Int),some (.dat PC),some (.dat (F6 s))]):=by
  have eb:j5 (c6 cR (c6 i6 (i8 3) (fC (.int 3))) (fC .none)) [some (.ob w (m9 Q T)),iD (a:Int),some (.dat PC),some (.dat (F6 s))]=some false:=by walk_at "v";rw[BK,hs];rfl
  delta C3;rw[eb];rfl
 have s2:J9 (J1 "Table" "turn" 0 bP (J5 (i8 1) (J5 (c6 i6 (i8 3) (fC (.int 3))) (J5 (i8 2) cM)))) [some (.ob w (m9 Q T)),iD (a:Int),some (.dat PC),some (.dat (F6 s))]=some (.next [some (.ob w (m9 Q (Q5 Q T a l g))),iD (a:Int),some (.dat PC),some (.dat (F6 s))]):=by
  delta J9;have ha':J5 (i8 1) (J5 (c6 i6 (i8 3) (fC (.int 3))) (J5 (i8 2) cM)) [some (.ob w (m9 Q T)),iD (a:Int),some (.dat PC),some (.dat (F6 s))]=some (([.int (a:Int),.int (l:Int),PC]:List c5).map AV.d):=by walk_at "v";rw[BK,hs];rfl
  rw[qe (Q:=Q) (T:=T) (w:=w) (xs:=[.int (a:Int),.int (l:Int),PC]) rfl (QC Q T) ha' (by subst hP;exact Ug K ha hl hf hg)]
  rfl
 have s3:C3 (j5 (c6 i6 (i8 3) (fC (.int 4)))) (J9 (J1 "Table" "flip" 0 J4 (J5 (c6 i6 (i8 3) (fC (.int 2))) cM))) q9 [some (.ob w (m9 Q (Q5 Q T a l g))),iD (a:Int),some (.dat PC),some (.dat (F6 s))]=some (.next [some (.ob w (m9 Q (if s.tp=true then jz Q (Q5 Q T a l g) s.ch (-((Q5 Q T a l g).sg s.ch*v))else Q5 Q T a l g))),iD (a:Int),some (.dat PC),some (.dat (F6 s))]):=by
  have eb:j5 (c6 i6 (i8 3) (fC (.int 4))) [some (.ob w (m9 Q (Q5 Q T a l g))),iD (a:Int),some (.dat PC),some (.dat (F6 s))]=some s.tp:=by walk_at "v";rw[Yn];rfl
  delta C3;rw[eb,i7];by_cases c:s.tp=true
  . rw[c7 c,c7 c];delta J9;have ha':J5 (c6 i6 (i8 3) (fC (.int 2))) cM [some (.ob w (m9 Q (Q5 Q T a l g))),iD (a:Int),some (.dat PC),some (.dat (F6 s))]=some (([.int (s.ch:Int)]:List c5).map AV.d):=by walk_at "v";rw[Yo];rfl
    rw[qe (Q:=Q) (T:=Q5 Q T a l g) (w:=w) (xs:=[.int (s.ch:Int)]) rfl (uE Q _) ha' (GO hc (hv c) ((K.lb _ v hc (hv c)).mono #[]) (K.cb _ hc))];rfl
  . rw[c9 c,c9 c];rfl
 rw[m8,s1,j9,m8,s2,j9,s3];subst hw;simp only[i7,kI,K5,w9]
def Y3(Q:K3)(T:Sx.Tb)(tp:Nat->Option Q2):Nat->Nat->Q2
 | 0,j=>if T.full j=true then(tp j).getD q0 else q0
 |i+1,j=>if j=T.B i then r9 (T.am (j8 Q) i*Q.sc (T.B i)) (T.size*Q.un)else Y3 Q T tp i j
theorem XU(K:Y9 Q T){tp:Nat->Option Q2}(hs:∀j,j<Q.n->Bt 7000 (Q.sc j))(hu:Bt 900 Q.un)(hz:Bt 7000 T.size)(hp:0<Q.un)(hf:∀j,j<Q.n->T.full j=true->tp j≠none):
  bg [o7 Q T,.list (rl Q.n λj=>A5 (tp j))]=some (.own (rl Q.n λj=>fr (Y3 Q T tp Q.m j))):=by
 have hb:Bt 8000 (T.size*Q.un):=(hz.mul hu).mono #[];have hne:T.size*Q.un≠0:=by
  have:=H0 K.sp hp
  lia
 delta bg;walk_at "v";rw[jI];walk_at "v";rw[c7 (T6 K.n1),B6 (g:=λj=>fr (Y3 Q T tp 0 j)) λj hj=>⟨_,if T.full j=true then .dat (A5 (tp j))else .dat ba,rfl,by
  delta qB;walk_at "v";split<;>rfl,by
  show PV.d _=fr (if T.full j=true then(tp j).getD q0 else q0)
  by_cases c:T.full j=true
  . rw[c7 c,c7 c];obtain⟨v,hv⟩:=Option.ne_none_iff_exists'.mp (hf j hj c);rw[hv];rfl
  . rw[c9 c,c9 c];rfl⟩]
 walk_at "v";rw[mj (Q:=Q) (T:=T) (l:=[]) rfl rfl (vH Q T) rfl,wI K];walk_at "v";rw[jI];walk_at "v";obtain⟨ds',h1,x3,x4,rfl⟩:=qo (gt:=kG 2 (V0 3 (V0 4 kH))) (G:=lI) (items:=rl Q.m λi=>.tuple [.int (T.B i:Int),.int (T.am (j8 Q) i)]) (ds:=[some (.dat (o7 Q T)),some (.dat (.list (rl Q.n λj=>A5 (tp j)))),some (.own (rl Q.n λj=>fr (Y3 Q T tp 0 j))),none,none])
  (λi ds=>∃x3 x4,ds=[some (.dat (o7 Q T)),some (.dat (.list (rl Q.n λj=>A5 (tp j)))),some (.own (rl Q.n λj=>fr (Y3 Q T tp i j))),x3,x4])
  ⟨none,none,rfl⟩ (by
   rintro i d ds hd ⟨x3,x4,rfl⟩;obtain⟨hi,rfl⟩:=vz hd;have hB:=K.bn i hi;refine⟨[some (.dat (o7 Q T)),some (.dat (.list (rl Q.n λj=>A5 (tp j)))),some (.own (rl Q.n λj=>fr (Y3 Q T tp i j))),iD (T.B i:Int),iD (T.am (j8 Q) i)],[some (.dat (o7 Q T)),some (.dat (.list (rl Q.n λj=>A5 (tp j)))),some (.own (rl Q.n λj=>fr (Y3 Q T tp (i+1) j))),iD (T.B i:Int),iD (T.am (j8 Q) i)],rfl,.inl ?_,_,_,rfl⟩
   delta lI;have ev:e9 W0 (i9 (c6 B9 (i8 4) (c6 i6 (z9 "Table" "scales" (i8 0)) (i8 3))) (i9 (c6 B9 (z9 "Table" "size" (i8 0)) (z9 "Table" "unit" (i8 0))) m6)) [some (.dat (o7 Q T)),some (.dat (.list (rl Q.n λj=>A5 (tp j)))),some (.own (rl Q.n λj=>fr (Y3 Q T tp i j))),iD (T.B i:Int),iD (T.am (j8 Q) i)]=some (.dat (fr (r9 (T.am (j8 Q) i*Q.sc (T.B i)) (T.size*Q.un)))):=by walk_at "v";rw[C5 _ hB];walk_at "v";rw[o9 ((K.ab i hi).mono #[]) ((hs _ hB).mono #[]),o9 (hz.mono #[]) (hu.mono #[])];walk_at "v";rw[jy hne hb]
   delta X3;rw[ev,i7];show(eO (rl Q.n _).length (T.B i:Int)).bind _=_
   rw[A1,lL hB,i7,gP];have:(rl Q.n λk=>if k=T.B i then PV.d (.dat (fr (r9 (T.am (j8 Q) i*Q.sc (T.B i)) (T.size*Q.un))))else fr (Y3 Q T tp i k))=rl Q.n λj=>fr (Y3 Q T tp (i+1) j):=Y1 λk _=>by rw[Y3];split<;>rfl
   rw[this];rfl)
 rw[A1]at h1;rw[h1];walk_at "v"
def N4(Q:K3)(T:Sx.Tb)(p:Nat):Tr:=⟨r9 (T.pr 0 p) (T.size*Q.mu 0),r9 (T.pr 1 p) (T.size*Q.mu 1),r9 (T.pr 2 p) (T.size*Q.mu 2)⟩
theorem Qd(K:Y9 Q T)(hp:p<Q.m)(hm:∀t,t<3->0<Q.mu t/\Bt 900 (Q.mu t)):iG [o7 Q T,.int (p:Int)]=some (.dat (B8 (N4 Q T p))):=by
 have one:∀t:Nat,t<3->bQ [iD (t:Int),some (.dat (o7 Q T)),iD (p:Int),none]=some (.dat (fr (r9 (T.pr t p) (T.size*Q.mu t)))):=λt ht=>by
  obtain⟨m0,m1⟩:=hm t ht;have hne:T.size*Q.mu t≠0:=by
   have:=H0 K.sp m0
   lia
  delta bQ;walk_at "v";rw[C5 _ ht];walk_at "v";rw[C5 _ hp,C5 _ ht];walk_at "v";rw[o9 (K.sb.mono #[]) (m1.mono #[])];walk_at "v";rw[jy hne ((K.sb.mul m1).mono #[])]
 delta iG;walk_at "v";have e:D6 k8 k7 bQ [some (.dat (o7 Q T)),iD (p:Int),none] [.int 0,.int 1,.int 2]=some [fr (r9 (T.pr 0 p) (T.size*Q.mu 0)),fr (r9 (T.pr 1 p) (T.size*Q.mu 1)),fr (r9 (T.pr 2 p) (T.size*Q.mu 2))]:=by
  have:=B6 (Fe:=bQ) (ds:=[some (.dat (o7 Q T)),iD (p:Int),none]) (n:=3) (f:=λi=>.int (i:Int)) (g:=λt=>fr (r9 (T.pr t p) (T.size*Q.mu t))) (gt:=k8) λi hi=>⟨_,_,rfl,one i hi,rfl⟩
  exact this
 rw[e];rfl
theorem yf{n:Nat}(x:c5)(h:n<=1000):nI (.list [x]) (.int (n:Int))=some (.own (rl n λ_=>x)):=by
 show(if (0<=(n:Int)/\(n:Int).toNat<=100000)/\[x].length*(n:Int).toNat<=100000 then some (PV.own (v5 (n:Int).toNat [x]).flatten)else none)=_
 rw[c7 ⟨⟨by lia,by lia⟩,by rw[Q8,DZ];lia⟩,Q8,WO]
def aU(Q:K3)(T:Sx.Tb)(a:Nat):Nat->Nat->Q2
 | 0,j=>if j=a then(Q.sc a,1)else q0
 |i+1,j=>if j=T.B i then r9 (-T.g0 (j8 Q) a i*Q.sc (T.B i)) T.size else aU Q T a i j
theorem Wm(K:Y9 Q T)(ha:a<Q.n)(hs:∀j,j<Q.n->Bt 7000 (Q.sc j)):fY [o7 Q T,.int (a:Int),.list (rl Q.m λk=>.int (T.g0 (j8 Q) a k))]=some (.own (rl Q.n λj=>fr (aU Q T a Q.m j))):=by
 have n1:=K.n1;have e0:K4 3 (c6 nI (O7 (i9 (fC ba) m6)) (e9 M4 (i9 (z9 "Table" "full" (i8 0)) m6))) [some (.dat (o7 Q T)),iD (a:Int),some (.dat (.list (rl Q.m λk=>.int (T.g0 (j8 Q) a k)))),none,none,none]=some (.next [some (.dat (o7 Q T)),iD (a:Int),some (.dat (.list (rl Q.m λk=>.int (T.g0 (j8 Q) a k)))),some (.own (rl Q.n λ_=>ba)),none,none]):=by walk_at "v";rw[A1];rw[yf _ n1];rfl
 have e1:X3 3 (i8 1) (m3 (i9 (c6 i6 (z9 "Table" "scales" (i8 0)) (i8 1)) (i9 (fC (.int 1)) m6))) [some (.dat (o7 Q T)),iD (a:Int),some (.dat (.list (rl Q.m λk=>.int (T.g0 (j8 Q) a k)))),some (.own (rl Q.n λ_=>ba)),none,none]=some (.next [some (.dat (o7 Q T)),iD (a:Int),some (.dat (.list (rl Q.m λk=>.int (T.g0 (j8 Q) a k)))),some (.own (rl Q.n λj=>fr (aU Q T a 0 j))),none,none]):=by
  have ev:m3 (i9 (c6 i6 (z9 "Table" "scales" (i8 0)) (i8 1)) (i9 (fC (.int 1)) m6)) [some (.dat (o7 Q T)),iD (a:Int),some (.dat (.list (rl Q.m λk=>.int (T.g0 (j8 Q) a k)))),some (.own (rl Q.n λ_=>ba)),none,none]=some (.dat (fr (Q.sc a,1))):=by walk_at "v";rw[C5 _ ha];walk_at "v"
  delta X3;rw[ev,i7];show(eO (rl Q.n _).length (a:Int)).bind _=_
  rw[A1,lL ha,i7,gP];have:(rl Q.n λk=>if k=a then PV.d (.dat (fr (Q.sc a,1)))else ba)=rl Q.n λj=>fr (aU Q T a 0 j):=Y1 λk _=>by rw[aU];split<;>rfl
  rw[this];rfl
 obtain⟨ds',h1,x4,x5,rfl⟩:=qo (gt:=kG 2 (V0 4 (V0 5 kH))) (G:=lH) (items:=rl Q.m λi=>.tuple [.int (T.B i:Int),.int (T.g0 (j8 Q) a i)]) (ds:=[some (.dat (o7 Q T)),iD (a:Int),some (.dat (.list (rl Q.m λk=>.int (T.g0 (j8 Q) a k)))),some (.own (rl Q.n λj=>fr (aU Q T a 0 j))),none,none])
  (λi ds=>∃x4 x5,ds=[some (.dat (o7 Q T)),iD (a:Int),some (.dat (.list (rl Q.m λk=>.int (T.g0 (j8 Q) a k)))),some (.own (rl Q.n λj=>fr (aU Q T a i j))),x4,x5])
  ⟨none,none,rfl⟩ (by
   rintro i d ds hd ⟨x4,x5,rfl⟩;obtain⟨hi,rfl⟩:=vz hd;have hB:=K.bn i hi;refine⟨[some (.dat (o7 Q T)),iD (a:Int),some (.dat (.list (rl Q.m λk=>.int (T.g0 (j8 Q) a k)))),some (.own (rl Q.n λj=>fr (aU Q T a i j))),iD (T.B i:Int),iD (T.g0 (j8 Q) a i)],[some (.dat (o7 Q T)),iD (a:Int),some (.dat (.list (rl Q.m λk=>.int (T.g0 (j8 Q) a k)))),some (.own (rl Q.n λj=>fr (aU Q T a (i+1) j))),iD (T.B i:Int),iD (T.g0 (j8 Q) a i)],rfl,.inl ?_,_,_,rfl⟩
   delta lH;have ev:e9 W0 (i9 (c6 B9 (bo W5 (i8 5)) (c6 i6 (z9 "Table" "scales" (i8 0)) (i8 4))) (i9 (z9 "Table" "size" (i8 0)) m6)) [some (.dat (o7 Q T)),iD (a:Int),some (.dat (.list (rl Q.m λk=>.int (T.g0 (j8 Q) a k)))),some (.own (rl Q.n λj=>fr (aU Q T a i j))),iD (T.B i:Int),iD (T.g0 (j8 Q) a i)]=some (.dat (fr (r9 (-T.g0 (j8 Q) a i*Q.sc (T.B i)) T.size))):=by walk_at "v";rw[C5 _ hB];walk_at "v";rw[o9 (((K.wF a i ha hi).mono #[]).neg) ((hs _ hB).mono #[])];walk_at "v";rw[jy (by have:=K.sp;lia) (K.sb.mono #[])]
   delta X3;rw[ev,i7];show(eO (rl Q.n _).length (T.B i:Int)).bind _=_
   rw[A1,lL hB,i7,gP];have:(rl Q.n λk=>if k=T.B i then PV.d (.dat (fr (r9 (-T.g0 (j8 Q) a i*Q.sc (T.B i)) T.size)))else fr (aU Q T a i k))=rl Q.n λj=>fr (aU Q T a (i+1) j):=Y1 λk _=>by rw[aU];split<;>rfl
   rw[this];rfl)
 rw[A1]at h1;delta fY D1;rw[c7 (by rfl),show(M0 [o7 Q T,.int (a:Int),.list (rl Q.m λk=>.int (T.g0 (j8 Q) a k))]++v5 (6-3) none:Ds)=[some (.dat (o7 Q T)),iD (a:Int),some (.dat (.list (rl Q.m λk=>.int (T.g0 (j8 Q) a k)))),none,none,none]from rfl,m8,e0,j9,m8,e1,j9]
 walk_at "v";rw[jI];walk_at "v";rw[h1];walk_at "v"
end
end
section
variable{D:Int}{m t j:Nat}{q:Q2}
def oP(c x:Int):Int:=(r9 c x).1*x
def Tv(l:List Int):Int:=l.foldl oP 1
theorem Mw{c x:Int}(hc:0<c)(hx:0<x)(h1:c∣D)(h2:x∣D):0<oP c x/\c∣oP c x/\x∣oP c x/\oP c x∣D:=by
 obtain⟨e1,e2,e3,e4⟩:=bG (t:=c) hx;delta oP;generalize (r9 c x).1=p at *;generalize (r9 c x).2=q at *;obtain⟨r,hr⟩:=e4;have hq:q≠0:=by lia
 have hc':c=p*r:=by
  have:q*(p*r)=q*c:=by rw[hr]at e3;grind
  exact(xI hq this).symm
 have hr0:0<r:=by
  rcases cI 0 r with h|h
  . exact h
  . have:=wJ (Q7 e1) h
    lia
 have hp0:0<p:=by
  rcases cI 0 p with h|h
  . exact h
  . have:=Ek h (Q7 hr0)
    lia
 refine⟨H0 hp0 hx,⟨q,by rw[hc',hr];grind⟩,⟨p,D4 _ _⟩,?_⟩
 obtain⟨u,hu⟩:=h1;obtain⟨v,hv⟩:=h2;have h3:p*u=q*v:=by
  have:r*(p*u)=r*(q*v):=by rw[hc']at hu;rw[hr]at hv;grind
  exact xI ∅ this
 have h4:q∣u:=by
  have:q∣p*u:=⟨v,h3⟩;have h:=Int.natAbs_dvd_natAbs.mpr this;rw[aN]at h;refine Int.natAbs_dvd_natAbs.mp (Nat.Coprime.dvd_of_dvd_mul_left (k:=q.natAbs) (m:=p.natAbs) ?_ h);show Nat.gcd q.natAbs p.natAbs=1
  rw[Nat.gcd_comm];exact e2
 obtain⟨w,hw⟩:=h4;exact⟨w,by rw[hu,hc',hw,hr];grind⟩
theorem wD{D:Int}:∀(l:List Int) (c:Int),0<c->c∣D->(∀x∈l,0<x/\x∣D)->0<l.foldl oP c/\c∣l.foldl oP c/\(∀x∈l,x∣l.foldl oP c)/\l.foldl oP c∣D
 | [],c,h1,h2,_=>⟨h1,bz _,λx hx=>absurd hx (by simp),h2⟩
 |x::l,c,h1,h2,h3=>by
  obtain⟨g1,g2⟩:=h3 x B7;obtain⟨e1,e2,e3,e4⟩:=Mw h1 g1 h2 g2;obtain⟨i1,i2,i3,i4⟩:=wD l (oP c x) e1 e4 λy hy=>h3 y (A0 _ hy)
  rw[xi];refine⟨i1,iy e2 i2,λy hy=>?_,i4⟩
  rcases List.mem_cons.mp hy with rfl|hy
  . exact iy e3 i2
  . exact i3 y hy
theorem rK{c:Int}(hD:0<D)(hc:0<c)(h:c∣D)(b:Bt m D):Bt m c:=b.of_le (by
 have:=fP hD h
 lia)
theorem kN{l:List Int}(hD:0<D)(hb:Bt 7000 D)(h:∀x∈l,0<x/\x∣D):F5 [.list (l.map .int)]=some (.dat (.int (Tv l))):=by
 have key:∀(k:List Int) (c:Int) (L:c5) (x:Option PV),0<c->c∣D->(∀x∈k,0<x/\x∣D)->∃x',M5 (A8 2) U3 (k.map .int) [some (.dat L),iD c,x]=some (.next [some (.dat L),iD (k.foldl oP c),x']):=by
  intro k;induction k with
  |nil=>exact λc L x _ _ _=>⟨x,rfl⟩
  |cons y k ih =>
   intro c L x h1 h2 h3;obtain⟨g1,g2⟩:=h3 y B7;obtain⟨e1,e2,e3,e4⟩:=Mw h1 g1 h2 g2;have by':=rK hD g1 g2 hb;have bc:=rK hD h1 h2 hb;have e:U3 [some (.dat L),iD c,iD y]=some (.next [some (.dat L),iD (oP c y),iD y]):=by delta U3;symm;rw[jy ∅ (by'.mono #[])];symm;rw[o9 ((cj g1 bc by').bt.mono #[]) (by'.mono #[])];rfl
   rw[o5,P9 (ds1:=[some (.dat L),iD c,iD y]) rfl e,xi];exact ih _ L _ e1 e4 λz hz=>h3 z (A0 _ hz)
 obtain⟨x',e⟩:=key l 1 (.list (l.map .int)) none #[] ⟨D,by lia⟩ h
 delta F5;symm;rw[e];rfl
def wh(q:Q2)(b:Int):Int:=q.1*b.fdiv q.2
theorem pM{b:Int}(h1:Bt 7000 q.1)(h2:Bt 7000 q.2)(h0:q.2≠0)(h3:Bt 7000 b):gA [fr q,.int b]=some (.dat (.int (wh q b))):=by delta gA;symm;rw[L8 h0 (h2.mono #[])];symm;rw[o9 (h1.mono #[]) (h3.fdiv.mono #[])];rfl
theorem vh{b:Int}(h:0<q.2)(hd:q.2∣b):wh q b*q.2=q.1*b:=by obtain⟨c,hc⟩:=hd;delta wh;rw[hc,Of _ ∅];grind
structure l8 where
 m:Nat
 n:Nat
 cost:Nat->Tr
 row:Nat->Nat->Q2
 rg:Nat->Q2
 tp:Nat->Option Q2
 fs:Nat->Nat
def W4(x:Tr):Nat->Q2
 | 0=>x.a
 | 1=>x.b
 | 2=>x.c
 |_=>q0
theorem Yl(x:Tr)(h:t<3):i6 (B8 x) (.int (t:Int))=some (.dat (fr (W4 x t))):=by rcases(by lia:t=0\/t=1\/t=2)with rfl|rfl|rfl<;>rfl
def l8.sc(I:l8)(j:Nat):Int:=Tv ((v8 I.m).map λp=>(I.row p j).2)
def l8.R7(I:l8)(j:Nat):Nat->List (Nat×Int)
 | 0=>[]
 |i+1=>I.R7 j i++(if I.row i j≠q0 then[(i,wh (I.row i j) (I.sc j))]else[])
def l8.wq(I:l8)(t j:Nat):Q2:=D0 (W4 (I.cost j) t) (I.sc j,1)
def l8.mu(I:l8)(t:Nat):Int:=Tv ((v8 I.n).map λj=>(I.wq t j).2)
def l8.wt(I:l8)(t j:Nat):Int:=wh (I.wq t j) (I.mu t)
def l8.hq(I:l8)(j:Nat):Option Q2:=(I.tp j).map λq=>D0 q (1,I.sc j)
def l8.mB(I:l8):List Int:=((v8 I.m).map λp=>(I.rg p).2)++(v8 I.n).filterMap λj=>(I.hq j).map (·.2)
def l8.un(I:l8):Int:=Tv I.mB
def l8.lim(I:l8)(j:Nat):Option Int:=(I.hq j).map λq=>wh q I.un
def l8.b(I:l8)(p:Nat):Int:=wh (I.rg p) I.un
def l8.A4(I:l8):K3:=⟨I.m,I.n,I.sc,λj=>I.R7 j I.m,I.mu,I.wt,I.un,I.lim⟩
def l8.tab(I:l8):Sx.Tb:=⟨I.fs,λ_=>false,1,λk q=>if k=q then 1 else 0,λt k=>I.wt t (I.fs k),I.b⟩
structure u7(I:l8)(D E F:Int):Prop where
 m1:I.m<=1000
 n1:I.n<=1000
 d0:0<D
 e0:0<E
 f0:0<F
 db:Bt 900 D
 eb:Bt 900 E
 fb:Bt 900 F
 row:∀p j,p<I.m->j<I.n->l7 800 (I.row p j)/\(I.row p j).2∣D
 cost:∀t j,t<3->j<I.n->l7 800 (W4 (I.cost j) t)/\(W4 (I.cost j) t).2∣E
 rg:∀p,p<I.m->l7 800 (I.rg p)/\(I.rg p).2∣F
 tp:∀j q,j<I.n->I.tp j=some q->l7 800 q/\∀s,s∣D->q.2*s∣F
 fs:∀k,k<I.m->I.fs k<I.n
section
variable{I:l8}{D E F:Int}
theorem u7.sc(H:u7 I D E F){j:Nat}(hj:j<I.n):0<I.sc j/\I.sc j∣D/\Bt 900 (I.sc j)/\∀p,p<I.m->(I.row p j).2∣I.sc j:=by
 have:=wD (D:=D) ((v8 I.m).map λp=>(I.row p j).2) 1 #[] ⟨D,by lia⟩ λx hx=>by obtain⟨p,hp,rfl⟩:=mem_map.mp hx;have:=H.row p j (mem_range.mp hp) hj;exact⟨this.1.pos,this.2⟩
 obtain⟨h1,h2,h3,h4⟩:=this;exact⟨h1,h4,rK H.d0 h1 h4 H.db,λp hp=>h3 _ (mem_map.mpr ⟨p,mem_range.mpr hp,rfl⟩)⟩
theorem Pd(H:u7 I D E F)(hj:j<I.n):iF [.list (rl I.m λp=>.list (rl I.n λj=>fr (I.row p j))),.int (j:Int)]=some (.dat (.int (I.sc j))):=by
 delta iF;symm;rw[c7 (T6 H.m1),B6 (g:=λp=>.int (I.row p j).2) λp hp=>⟨_,.dat (.int (I.row p j).2),rfl,by delta nk;symm;rw[C5 _ hj];walk_at "r",rfl⟩]
 symm;have e:(rl I.m λp=>Z0 (I.row p j).2)=((v8 I.m).map λp=>(I.row p j).2).map Z0:=by rw[dE];rfl
 rw[e,kN H.d0 (H.db.mono #[]) λx hx=>by obtain⟨p,hp,rfl⟩:=mem_map.mp hx;have:=H.row p j (mem_range.mp hp) hj;exact⟨this.1.pos,this.2⟩]
 rfl
theorem XT(p q:Q2):P6 (fr p) (fr q)=some (.dat (.bool (decide (p≠q)))):=sW p q
theorem Mv(H:u7 I D E F)(hj:j<I.n):fM [.list (rl I.m λp=>.list (rl I.n λj=>fr (I.row p j))),.int (j:Int),.int (I.sc j)]=some (.own ((I.R7 j I.m).map λe=>.tuple [.int (e.1:Int),.int e.2])):=by
 obtain⟨_,_,sb,_⟩:=H.sc hj;have key:∀k,k<=I.m->D6 (P1 2) T3 T5 [some (.dat (.list (rl I.m λp=>.list (rl I.n λj=>fr (I.row p j))))),iD (j:Int),iD (I.sc j)] ((rl I.m λi=>.tuple [.int (0+(i:Int)),.list (rl I.n λj=>fr (I.row i j))]).take k)=some ((I.R7 j k).map λe=>.tuple [.int (e.1:Int),.int e.2]):=by
  have app:∀(l1 l2 r1 r2:List c5) (ds:Ds),D6 (P1 2) T3 T5 ds l1=some r1->D6 (P1 2) T3 T5 ds l2=some r2->D6 (P1 2) T3 T5 ds (l1++l2)=some (r1++r2):=by
   intro l1;induction l1 with
   |nil=>intro l2 r1 r2 ds h1 h2;cases h1;exact h2
   |cons x l1 ih =>
    intro l2 r1 r2 ds h1 h2;rw[Z4];unfold D6 at h1 ⊢;obtain⟨bs,g1,h1⟩:=j6 h1;obtain⟨b,g2,h1⟩:=j6 h1;rw[g1,i7,g2,i7];cases b with
    |false =>
     simp only[aB,N9]at h1 ⊢;exact ih l2 r1 r2 ds h1 h2
    |true =>
     simp only[w9]at h1 ⊢;obtain⟨y,g3,h1⟩:=j6 h1;obtain⟨l,g4,h1⟩:=j6 h1;cases h1;rw[g3,i7,ih l2 l r2 ds g4 h2];rfl
  intro k;induction k with
  |zero=>intro _;rfl
  |succ k ih =>
   intro hk;have hk':k<I.m:=by lia
   obtain⟨f1,f2⟩:=H.row k j hk' hj;have e1:(rl I.m λi=>dD [.int (0+(i:Int)),.list (rl I.n λj=>fr (I.row i j))]).take (k+1)=(rl I.m λi=>dD [.int (0+(i:Int)),.list (rl I.n λj=>fr (I.row i j))]).take k++[.tuple [.int (0+(k:Int)),.list (rl I.n λj=>fr (I.row k j))]]:=by rw[List.take_succ,P5,ky hk'];rfl
   rw[e1,l8.R7,hV];refine app _ _ _ _ _ (ih ∅) ?_;unfold D6;simp only[P1,O1,mR,Nat.reduceAdd,w9,i7];have eq:T3 (M0 [.int (0+(k:Int)),.list (rl I.n λj=>fr (I.row k j))]++[some (.dat (.list (rl I.m λp=>.list (rl I.n λj=>fr (I.row p j))))),iD (j:Int),iD (I.sc j)])=some (decide (I.row k j≠q0)):=by unfold T3;symm;rw[C5 _ hj];symm;rw[XT (I.row k j) q0];symm
   rw[eq,i7];by_cases c:I.row k j=q0
   . rw[c9 (by simp[c]),c9 (λz=>z c)]
     rfl
   . rw[c7 (by simpa using c),c7 c]
     have ee:T5 (M0 [.int (0+(k:Int)),.list (rl I.n λj=>fr (I.row k j))]++[some (.dat (.list (rl I.m λp=>.list (rl I.n λj=>fr (I.row p j))))),iD (j:Int),iD (I.sc j)])=some (.dat (.tuple [.int (0+(k:Int)),.int (wh (I.row k j) (I.sc j))])):=by
      unfold T5;symm;rw[C5 _ hj];symm;rw[pM (f1.bt.mono #[]) (f1.bb.mono #[]) (by have:=f1.pos;lia) (sb.mono #[])]
      symm
     rw[ee,i7];simp only[D6,i7,o5,P2,K8,PV.gX]
 have:=key I.m (l5 _);rw[NS (by rw[A1];lia)]at this
 unfold fM;symm;rw[tJ,c7 (T6 H.m1),this];rfl
theorem Ck(I:l8)(j:Nat):∀k e,e∈I.R7 j k->e.1<k/\e.2=wh (I.row e.1 j) (I.sc j)
 | 0,e,h=>absurd h (by simp[l8.R7])
 |k+1,e,h=>by
  rw[l8.R7]at h;rcases List.mem_append.mp h with h|h
  . have:=Ck I j k e h;exact⟨by lia,this.2⟩
  . split at h
    . have:e=(k,wh (I.row k j) (I.sc j)):=by simpa using h
      rw[this];exact⟨by lia,rfl⟩
    . simp at h
theorem Cm(I:l8)(j:Nat):∀k,(I.R7 j k).length<=k
 | 0=>by simp[l8.R7]
 |k+1=>by have:=Cm I j k;rw[l8.R7,hW];split<;>simp<;>lia
theorem RL(c d:List (Nat×Int))(r:Nat):D8 (c++d) r=D8 c r+D8 d r:=by
 induction c with
 |nil=>simp[D8]
 |cons e c ih=>rw[Z4,D8,D8,ih];lia
theorem zH(I:l8)(j p:Nat):∀k,D8 (I.R7 j k) p=if p<k then wh (I.row p j) (I.sc j)else 0
 | 0=>by simp[l8.R7,D8]
 |k+1=>by
  rw[l8.R7,RL,zH I j p k];by_cases c:p=k
  . subst c;have e1:(if p<p then wh (I.row p j) (I.sc j)else 0)=0:=c9 ∅
    have e2:(if p<p+1 then wh (I.row p j) (I.sc j)else 0)=wh (I.row p j) (I.sc j):=c7 ∅
    rw[e1,e2];by_cases z:I.row p j=q0
    . have e3:(if I.row p j≠q0 then[(p,wh (I.row p j) (I.sc j))]else[])=[]:=c9 (λy=>y z)
      rw[e3,z];show(0:Int)+0=0*_
      lia
    . have e3:(if I.row p j≠q0 then[(p,wh (I.row p j) (I.sc j))]else[])=[(p,wh (I.row p j) (I.sc j))]:=c7 z
      rw[e3];simp[D8]
  . have e:D8 (if I.row k j≠q0 then[(k,wh (I.row k j) (I.sc j))]else[]) p=0:=by
      split
      . have c':¬k=p:=λz=>c z.symm
        simp[D8,c']
      . rfl
    rw[e];by_cases c2:p<k
    . rw[c7 c2,c7 ∅];lia
    . rw[c9 c2,c9 ∅];lia
end
end
section
variable{f m g:Str}{ds:Ds}{w:Option Addr}{p q:PF}{r:List (Str×PF)}
theorem qf{f:Str}:∀fs:List (Str×PF),(fs.map (·.1)).contains f=false->p5 f fs=none
 | [],_=>rfl
 |(g,x)::r,h=>by
  rw[o5,List.contains_cons,NI]at h;rw[p5,c9 (λz=>by rw[z]at h;simp at h)]
  exact qf r h.2
theorem AY{f:Str}{p:PF}:∀fs:List (Str×PF),p5 f fs=none->G7 f p fs=fs++[(f,p)]
 | [],_=>rfl
 |(g,x)::r,h=>by
  rw[p5]at h;split at h
  . cases h
  . rename_i c;rw[G7,c9 c,AY r h];rfl
theorem Y2{kp:PV->Option PF}{F:DV}{i:Nat}{fs:List (Str×PF)}{pv:PV}(h:ds[i]? = some (some (.ob w (.ins "Table" fs))))(hl:fs.length<900)(hn:(fs.map (·.1)).contains f=false)(hF:F ds=some pv)(hk:kp pv=some p):T7 "Table" i f kp F ds=some (.next (ds.set i (some (.ob w (.ins "Table" (fs++[(f,p)])))))):=by delta T7 eV;rw[hF,i7,hk,i7,h];simp only[w9,i7];rw[c7 hl,AY fs (qf fs hn)]
theorem lV{i:Nat}{fs:List (Str×PF)}{d:c5}(h:ds[i]? = some (some (.ob w (.ins "Table" fs))))(hl:p5 f fs=some (.dat d)):F8 "Table" i f ds=some (.dat d):=by delta F8 eV;rw[h];simp only[w9,i7,hl,Ce]
theorem Ge{F:DV}{i:Nat}{fs:List (Str×PF)}{pv:PV}{l:List c5}(h:ds[i]? = some (some (.ob w (.ins "Table" fs))))(hl:p5 f fs=some (.own l))(hn:l.length<1000000)(hF:F ds=some pv):nM "Table" i f F ds=some (.next (ds.set i (some (.ob w (.ins "Table" (G7 f (.own (l++[pv.d])) fs)))))):=by delta nM eV;rw[hF,i7,h];simp only[w9,i7,hl,qZ];rw[c7 hn]
theorem zg{i:Nat}{fs:List (Str×PF)}{c':OD}{r:Ds}{f:List PV->Option (PV×Ds)}{Fl:Ds->Option (List AV)}{xs:List c5}{pv:PV}(h:ds[i]? = some (some (.ob w (.ins "Table" fs))))(hm:(fs.map (·.1)).contains m=false)(hl:Fl ds=some (xs.map AV.d))(hf:f (.ob none (.ins "Table" fs)::xs.map .dat)=some (pv,some (.ob none c')::r)):
  J1 "Table" m i f Fl ds=some (pv,ds.set i (some (.ob w c'))):=by delta J1 eV;rw[h];simp only[w9,i7,qf fs hm];refine uX (xs:=xs) h ?_ hf;delta fO;rw[h];simp only[hl,i7]
theorem qg:p5 f ((f,p)::r)=some p:=by rw[p5,c7 rfl]
theorem dO(h:(g==f)=false):p5 f ((g,p)::r)=p5 f r:=by rw[p5,c9 (by simpa using h)]
theorem Xn:G7 f q ((f,p)::r)=(f,q)::r:=by rw[G7,c7 rfl]
theorem put2(h:(g==f)=false):G7 f q ((g,p)::r)=(g,p)::G7 f q r:=by rw[G7,c9 (by simpa using h)]
section
variable{I:l8}{D E F:Int}
abbrev l8.n8(I:l8):c5:=.list (rl I.n λj=>B8 (I.cost j))
abbrev l8.u6(I:l8):c5:=.list (rl I.m λp=>.list (rl I.n λj=>fr (I.row p j)))
abbrev l8.o3(I:l8):c5:=.list (rl I.m λp=>fr (I.rg p))
abbrev l8.u9(I:l8):c5:=.list (rl I.n λj=>A5 (I.tp j))
abbrev l8.G4(I:l8):c5:=.list (rl I.m λk=>.int (I.fs k:Int))
theorem u7.wq(H:u7 I D E F){t j:Nat}(ht:t<3)(hj:j<I.n):l7 1700 (I.wq t j)/\(I.wq t j).2∣E:=by
 obtain⟨s1,s2,s3,s4⟩:=H.sc hj;obtain⟨c1,c2⟩:=H.cost t j ht hj;refine⟨O9 c1 (jb s3 #[]),?_⟩;have:=(bG (t:=(W4 (I.cost j) t).1*I.sc j) (b:=(W4 (I.cost j) t).2*1) (by have:=c1.pos;lia)).2.2.2
 rw[cH]at this;delta l8.wq D0;rw[cH];exact iy this c2
theorem u7.mu(H:u7 I D E F){t:Nat}(ht:t<3):0<I.mu t/\I.mu t∣E/\Bt 900 (I.mu t)/\∀j,j<I.n->(I.wq t j).2∣I.mu t:=by
 obtain⟨h1,h2,h3,h4⟩:=wD (D:=E) ((v8 I.n).map λj=>(I.wq t j).2) 1 #[] ⟨E,by lia⟩ λx hx=>by obtain⟨p,hp,rfl⟩:=mem_map.mp hx;have:=H.wq ht (mem_range.mp hp);exact⟨this.1.pos,this.2⟩
 exact⟨h1,h4,rK H.e0 h1 h4 H.eb,λp hp=>h3 _ (mem_map.mpr ⟨p,mem_range.mpr hp,rfl⟩)⟩
theorem u7.wt(H:u7 I D E F){t j:Nat}(ht:t<3)(hj:j<I.n):Bt 2600 (I.wt t j):=(H.wq ht hj).1.bt.mul (H.mu ht).2.2.1.fdiv
theorem u7.hq(H:u7 I D E F){j:Nat}{q:Q2}(hj:j<I.n)(h:I.hq j=some q):l7 1700 q/\q.2∣F:=by
 obtain⟨s1,s2,s3,s4⟩:=H.sc hj;unfold l8.hq at h;obtain⟨r,hr,rfl⟩:=Option.map_eq_some_iff.mp h;obtain⟨c1,c2⟩:=H.tp j r hj hr;have k:l7 900 (1,I.sc j):=⟨s1,by show l9 1 _=1;simp,⟨by show(1:Int).natAbs<2 ^ 900;exact Nq #[]⟩,s3⟩
 refine⟨O9 c1 k,?_⟩;have:=(bG (t:=r.1*1) (b:=r.2*I.sc j) (H0 c1.pos s1)).2.2.2;exact iy this (c2 _ s2)
theorem u7.ME(H:u7 I D E F):∀x∈I.mB,0<x/\x∣F:=by
 intro x hx;unfold l8.mB at hx;rcases List.mem_append.mp hx with hx|hx
 . obtain⟨p,hp,rfl⟩:=mem_map.mp hx;have:=H.rg p (mem_range.mp hp);exact⟨this.1.pos,this.2⟩
 . obtain⟨j,hj,h⟩:=List.mem_filterMap.mp hx;obtain⟨q,hq,rfl⟩:=Option.map_eq_some_iff.mp h;have:=H.hq (mem_range.mp hj) hq;exact⟨this.1.pos,this.2⟩
theorem u7.un(H:u7 I D E F):0<I.un/\I.un∣F/\Bt 900 I.un/\(∀p,p<I.m->(I.rg p).2∣I.un)/\∀j q,j<I.n->I.hq j=some q->q.2∣I.un:=by
 obtain⟨h1,h2,h3,h4⟩:=wD (D:=F) I.mB 1 #[] ⟨F,by lia⟩ H.ME
 refine⟨h1,h4,rK H.f0 h1 h4 H.fb,λp hp=>h3 _ (List.mem_append.mpr (.inl (mem_map.mpr ⟨p,mem_range.mpr hp,rfl⟩))),λj q hj hq=>h3 _ (List.mem_append.mpr (.inr (List.mem_filterMap.mpr ⟨j,mem_range.mpr hj,by rw[hq];rfl⟩)))⟩
theorem u7.lim(H:u7 I D E F){j:Nat}{v:Int}(hj:j<I.n)(h:I.lim j=some v):Bt 2600 v:=by unfold l8.lim at h;obtain⟨q,hq,rfl⟩:=Option.map_eq_some_iff.mp h;exact(H.hq hj hq).1.bt.mul H.un.2.2.1.fdiv
theorem u7.b(H:u7 I D E F){p:Nat}(hp:p<I.m):Bt 1700 (I.b p):=(H.rg p hp).1.bt.mul H.un.2.2.1.fdiv
abbrev GL(I:l8):List (Str×PF):=[("scales",.dat (il I.n I.sc)),("columns",.dat (.list (rl I.n λj=>aE (I.R7 j I.m))))]
abbrev eQ(I:l8)(u v:List c5):List (Str×PF):=[("scales",.dat (il I.n I.sc)),("columns",.dat (.list (rl I.n λj=>aE (I.R7 j I.m)))),("multiples",.own u),("weights",.own v)]
theorem nY(H:u7 I D E F){t:Nat}(ht:t<3)(w:Option Addr)(u v:List c5)(hu:u.length<1000)(hv:v.length<1000)(x3 x4:Option PV):∃y3 y4,Y0 [some (.ob w (.ins "Table" (eQ I u v))),some (.dat I.n8),iD (t:Int),x3,x4]=some (.next [some (.ob w (.ins "Table" (eQ I (u++[.int (I.mu t)]) (v++[il I.n (I.wt t)])))),some (.dat I.n8),iD (t:Int),y3,y4]):=by
 refine⟨some (.dat (.list (rl I.n λj=>fr (I.wq t j)))),iD (I.mu t),?_⟩
 delta Y0;have s1:j0 3 (k6 (D5 cZ (i9 (i8 1) (i9 (F8 "Table" 0 "scales") m6))) (P1 2) k7 Q4) [some (.ob w (.ins "Table" (eQ I u v))),some (.dat I.n8),iD (t:Int),x3,x4]=some (.next [some (.ob w (.ins "Table" (eQ I u v))),some (.dat I.n8),iD (t:Int),some (.dat (.list (rl I.n λj=>fr (I.wq t j)))),x4]):=by
  have e0:F8 "Table" 0 "scales" [some (.ob w (.ins "Table" (eQ I u v))),some (.dat I.n8),iD (t:Int),x3,x4]=some (.dat (il I.n I.sc)):=lV rfl qg;have e1:k6 (D5 cZ (i9 (i8 1) (i9 (F8 "Table" 0 "scales") m6))) (P1 2) k7 Q4 [some (.ob w (.ins "Table" (eQ I u v))),some (.dat I.n8),iD (t:Int),x3,x4]=some (.own (rl I.n λj=>fr (I.wq t j))):=by
   symm;rw[e0];symm;rw[jI];symm;rw[c7 (T6 H.n1),B6 (g:=λj=>fr (I.wq t j)) λj hj=>⟨_,.dat (fr (I.wq t j)),rfl,by delta Q4;symm;rw[Yl _ ht];symm;rw[JJ (p:=W4 (I.cost j) t) (q:=(I.sc j,1)) (H.cost t j ht hj).1 (jb (H.sc hj).2.2.1 #[]) #[]];rfl,rfl⟩]
   symm
  rw[aY,e1];rfl
 rw[m8,s1,j9];have s2:j0 4 (e9 F5 (i9 (k6 (F7 (i8 3)) k8 k7 X9) m6)) [some (.ob w (.ins "Table" (eQ I u v))),some (.dat I.n8),iD (t:Int),some (.dat (.list (rl I.n λj=>fr (I.wq t j)))),x4]=some (.next [some (.ob w (.ins "Table" (eQ I u v))),some (.dat I.n8),iD (t:Int),some (.dat (.list (rl I.n λj=>fr (I.wq t j)))),iD (I.mu t)]):=by
  symm;rw[c7 (T6 H.n1),B6 (g:=λj=>.int (I.wq t j).2) λj hj=>⟨_,.dat (.int (I.wq t j).2),rfl,by delta X9;walk_at "r",rfl⟩]
  symm;have e:(rl I.n λj=>Z0 (I.wq t j).2)=((v8 I.n).map λj=>(I.wq t j).2).map Z0:=by rw[dE];rfl
  rw[e,kN H.e0 (H.eb.mono #[]) λx hx=>by obtain⟨p,hp,rfl⟩:=mem_map.mp hx;have:=H.wq ht (mem_range.mp hp);exact⟨this.1.pos,this.2⟩]
  rfl
 rw[m8,s2,j9];rw[m8,Ge (fs:=eQ I u v) (pv:=.dat (.int (I.mu t))) (l:=u) rfl (by rw[dO (by decide +kernel),dO (by decide +kernel),qg]) ∅ rfl,j9]
 rw[show G7 "multiples" (.own (u++[(PV.dat (.int (I.mu t))).d])) (eQ I u v)=eQ I (u++[.int (I.mu t)]) v from by rw[put2 (by decide +kernel),put2 (by decide +kernel),Xn];rfl]
 have e3:k6 (F7 (i8 3)) k8 k7 X8 [some (.ob w (.ins "Table" (eQ I (u++[.int (I.mu t)]) v))),some (.dat I.n8),iD (t:Int),some (.dat (.list (rl I.n λj=>fr (I.wq t j)))),iD (I.mu t)]=some (.own (rl I.n λj=>.int (I.wt t j))):=by
  symm;rw[c7 (T6 H.n1),B6 (g:=λj=>.int (I.wt t j)) λj hj=>⟨_,.dat (.int (I.wt t j)),rfl,by delta X8;symm;exact pM ((H.wq ht hj).1.bt.mono #[]) ((H.wq ht hj).1.bb.mono #[]) (by have:=(H.wq ht hj).1.pos;lia) ((H.mu ht).2.2.1.mono #[]),rfl⟩]
  symm
 simp only[V9];rw[Ge (fs:=eQ I (u++[.int (I.mu t)]) v) (pv:=.own (rl I.n λj=>.int (I.wt t j))) (l:=v) rfl (by rw[dO (by decide +kernel),dO (by decide +kernel),dO (by decide +kernel),qg]) ∅ e3]
 rw[show G7 "weights" (.own (v++[(PV.own (rl I.n λj=>.int (I.wt t j))).d])) (eQ I (u++[.int (I.mu t)]) v)=eQ I (u++[.int (I.mu t)]) (v++[il I.n (I.wt t)])from by rw[put2 (by decide +kernel),put2 (by decide +kernel),put2 (by decide +kernel),Xn];rfl]
 rfl
theorem Hq(H:u7 I D E F):U2 [.ob none (.ins "Table" (GL I)),.dat I.n8]=some (.dat .none,[some (.ob none (.ins "Table" (eQ I (rl 3 λt=>.int (I.mu t)) (rl 3 λt=>il I.n (I.wt t))))),none]):=by
 refine md rfl λt=>?_
 generalize hw:(some (t 0):Option Addr)=w;generalize hC:I.n8=C;rw[show((aV t 0 [PV.ob none (.ins "Table" (GL I)),.dat C]).map some++v5 (5-2) none:Ds)=[some (.ob (some (t 0)) (.ins "Table" (GL I))),some (.dat C),none,none,none]from rfl,hw]
 rw[m8,Y2 (w:=w) (fs:=GL I) (pv:=.own []) (p:=.own []) rfl (by show(2:Nat)<900;decide) (by show(["scales","columns"]:List Str).contains _=false;decide +kernel) rfl rfl,j9]
 simp only[V9,Z4,aO];rw[m8,Y2 (w:=w) (fs:=[("scales",.dat (il I.n I.sc)),("columns",.dat (.list (rl I.n λj=>aE (I.R7 j I.m)))),("multiples",.own [])]) (pv:=.own []) (p:=.own []) rfl (by show(3:Nat)<900;decide) (by show(["scales","columns","multiples"]:List Str).contains _=false;decide +kernel) rfl rfl,j9]
 simp only[V9,Z4,aO];subst hC;obtain⟨a1,a2,h0⟩:=nY H (t:=0) #[] w [] [] #[] #[] none none;obtain⟨b1,b2,h1⟩:=nY H (t:=1) #[] w [.int (I.mu 0)] [il I.n (I.wt 0)] (by show(1:Nat)<1000;decide) (by show(1:Nat)<1000;decide) a1 a2
 obtain⟨c1,c2,h2⟩:=nY H (t:=2) #[] w [.int (I.mu 0),.int (I.mu 1)] [il I.n (I.wt 0),il I.n (I.wt 1)] (by show(2:Nat)<1000;decide) (by show(2:Nat)<1000;decide) b1 b2
 delta L7;rw[show F7 (fC dW) [some (.ob w (.ins "Table" (eQ I [] []))),some (.dat I.n8),none,none,none]=some [.int ((0:Nat):Int),.int ((1:Nat):Int),.int ((2:Nat):Int)]from rfl]
 rw[i7];rw[P9 (ds1:=[some (.ob w (.ins "Table" (eQ I [] []))),some (.dat I.n8),iD ((0:Nat):Int),none,none]) rfl h0];rw[P9 (ds1:=[some (.ob w (.ins "Table" (eQ I [.int (I.mu 0)] [il I.n (I.wt 0)]))),some (.dat I.n8),iD ((1:Nat):Int),a1,a2]) rfl h1];rw[P9 (ds1:=[some (.ob w (.ins "Table" (eQ I [.int (I.mu 0),.int (I.mu 1)] [il I.n (I.wt 0),il I.n (I.wt 1)]))),some (.dat I.n8),iD ((2:Nat):Int),b1,b2]) rfl h2];rw[M5,i7];show kI [PV.ob none (.ins "Table" (GL I)),.dat I.n8] t (.next [some (.ob w (.ins "Table" (eQ I (rl 3 λt=>.int (I.mu t)) (rl 3 λt=>il I.n (I.wt t))))),some (.dat I.n8),_,c1,c2])=_
 rw[<-hw];simp only[kI,K5,w9]
end
end
section
variable{j a m k:Nat}
section
variable{I:l8}{D E F:Int}
abbrev tX(I:l8):List (Str×PF):=eQ I (rl 3 λt=>.int (I.mu t)) (rl 3 λt=>il I.n (I.wt t))
abbrev Ti(I:l8):List (Str×PF):=[("scales",.dat (il I.n I.sc)),("columns",.dat (.list (rl I.n λj=>aE (I.R7 j I.m)))),("multiples",.own (rl 3 λt=>.int (I.mu t))),("weights",.own (rl 3 λt=>il I.n (I.wt t))),("unit",.dat (.int I.un))]
abbrev Tj(I:l8):List (Str×PF):=[("scales",.dat (il I.n I.sc)),("columns",.dat (.list (rl I.n λj=>aE (I.R7 j I.m)))),("multiples",.own (rl 3 λt=>.int (I.mu t))),("weights",.own (rl 3 λt=>il I.n (I.wt t))),("unit",.dat (.int I.un)),("rights",.own (rl I.m λp=>.int (I.b p)))]
abbrev Yw(I:l8):List (Str×PF):=[("scales",.dat (il I.n I.sc)),("columns",.dat (.list (rl I.n λj=>aE (I.R7 j I.m)))),("multiples",.own (rl 3 λt=>.int (I.mu t))),("weights",.own (rl 3 λt=>il I.n (I.wt t))),("unit",.dat (.int I.un)),("rights",.own (rl I.m λp=>.int (I.b p))),("limits",.dat (.list (rl I.n λj=>au (I.lim j))))]
theorem XN(H:u7 I D E F)(hj:j<I.n):l7 900 (1,I.sc j):=by obtain⟨s1,s2,s3,s4⟩:=H.sc hj;exact⟨s1,by show l9 1 _=1;simp,⟨by show(1:Int).natAbs<2 ^ 900;exact Nq #[]⟩,s3⟩
theorem Mu(k:Nat)(h:Nat->Option Q2)(ds:Ds):D6 k8 G9 I0 ds (rl k λj=>A5 (h j))=some (((v8 k).filterMap λj=>(h j).map (·.2)).map .int):=by
 have key:∀l:List Nat,D6 k8 G9 I0 ds (l.map λj=>A5 (h j))=some ((l.filterMap λj=>(h j).map (·.2)).map .int):=by
  intro l;induction l with
  |nil=>rfl
  |cons j l ih =>
   rw[o5];unfold D6;simp only[k8,i7];have e1:G9 (M0 [A5 (h j)]++ds)=some (h j).isSome:=by unfold G9;symm;cases h j<;>rfl
   rw[e1,i7,xB];cases hj:h j with
   |none =>
    rw[c9 (by simp)]
    exact ih
   |some q =>
    rw[c7 (by simp)]
    have e2:I0 (M0 [A5 (some q)]++ds)=some (.dat (.int q.2)):=by unfold I0;simp only[A5];symm
    rw[e2,i7,ih];rfl
 exact key _
theorem Ls(H:u7 I D E F):W9 [.ob none (.ins "Table" (tX I)),.dat I.o3,.dat I.u9]=some (.dat .none,[some (.ob none (.ins "Table" (Yw I))),none,none]):=by
 refine md rfl λt=>?_
 obtain⟨u1,u2,u3,u4,u5⟩:=H.un;generalize hw:(some (t 0):Option Addr)=w;rw[show((aV t 0 [PV.ob none (.ins "Table" (tX I)),.dat I.o3,.dat I.u9]).map some++v5 (5-3) none:Ds)=[some (.ob (some (t 0)) (.ins "Table" (tX I))),some (.dat I.o3),some (.dat I.u9),none,none]from rfl,hw]
 have s1:k6 (D5 cZ (i9 (i8 2) (i9 (F8 "Table" 0 "scales") m6))) (P1 2) k7 Z9 [some (.ob w (.ins "Table" (tX I))),some (.dat I.o3),some (.dat I.u9),none,none]=some (.own (rl I.n λj=>A5 (I.hq j))):=by
  have e0:F8 "Table" 0 "scales" [some (.ob w (.ins "Table" (tX I))),some (.dat I.o3),some (.dat I.u9),none,none]=some (.dat (il I.n I.sc)):=lV rfl qg;symm;rw[e0];symm;rw[jI];symm;rw[c7 (T6 H.n1),B6 (g:=λj=>A5 (I.hq j)) λj hj=>⟨_,.dat (A5 (I.hq j)),rfl,by
   delta Z9;symm;delta l8.hq;cases hq:I.tp j with
   |none=>rfl
   |some q =>
    simp only[aB,N9,A5,mO];rw[JJ (p:=q) (q:=(1,I.sc j)) (H.tp j q hj hq).1 (XN H hj) #[]],rfl⟩]
  symm
 rw[m8,aY,s1];simp only[nJ,j9,PV.wx,sv,V9];have s2:c6 F3 (k6 (F7 (i8 1)) k8 k7 Z8) (k6 (F7 (i8 3)) k8 G9 I0) [some (.ob w (.ins "Table" (tX I))),some (.dat I.o3),some (.dat I.u9),some (.dat (.list (rl I.n λj=>A5 (I.hq j)))),none]=some (.own (I.mB.map .int)):=by
  symm;rw[c7 (T6 H.m1),B6 (g:=λp=>.int (I.rg p).2) λp hp=>⟨_,.dat (.int (I.rg p).2),rfl,by delta Z8;walk_at "r",rfl⟩]
  symm;rw[c7 (T6 H.n1),Mu];symm;rw[MH (by
   rw[A1,F9];have:=List.length_filterMap_le (λj=>(I.hq j).map (·.2)) (v8 I.n)
   rw[ku]at this;have:=H.m1;have:=H.n1
   lia)]
  delta l8.mB;rw[hV,dE];rfl
 rw[m8,aY,s2];simp only[nJ,j9,PV.wx,sv,V9];have s3:e9 F5 (i9 (i8 4) m6) [some (.ob w (.ins "Table" (tX I))),some (.dat I.o3),some (.dat I.u9),some (.dat (.list (rl I.n λj=>A5 (I.hq j)))),some (.dat (.list (I.mB.map .int)))]=some (.dat (.int I.un)):=by symm;rw[kN H.f0 (H.fb.mono #[]) H.ME];rfl
 rw[m8,Y2 (w:=w) (fs:=tX I) (p:=.dat (.int I.un)) rfl (by show(4:Nat)<900;decide) (by show(["scales","columns","multiples","weights"]:List Str).contains _=false;decide +kernel) s3 rfl,j9]
 simp only[V9,Z4,aO];have s4:k6 (F7 (i8 1)) k8 k7 Z7 [some (.ob w (.ins "Table" (Ti I))),some (.dat I.o3),some (.dat I.u9),some (.dat (.list (rl I.n λj=>A5 (I.hq j)))),some (.dat (.list (I.mB.map .int)))]=some (.own (rl I.m λp=>.int (I.b p))):=by
  symm;rw[c7 (T6 H.m1),B6 (g:=λp=>.int (I.b p)) λp hp=>⟨_,.dat (.int (I.b p)),rfl,by
   delta Z7;have e0:F8 "Table" 1 "unit" (M0 [fr (I.rg p)]++[some (.ob w (.ins "Table" (Ti I))),some (.dat I.o3),some (.dat I.u9),some (.dat (.list (rl I.n λj=>A5 (I.hq j)))),some (.dat (.list (I.mB.map .int)))])=some (.dat (.int I.un)):=lV (w:=w) (fs:=Ti I) rfl (by rw[dO (by decide +kernel),dO (by decide +kernel),dO (by decide +kernel),dO (by decide +kernel),qg])
   simp only[e9,i9,m6];rw[e0];symm;rw[pM ((H.rg p hp).1.bt.mono #[]) ((H.rg p hp).1.bb.mono #[]) (by have:=(H.rg p hp).1.pos;lia) (u3.mono #[])]
   rfl,rfl⟩]
  symm
 rw[m8,Y2 (w:=w) (fs:=Ti I) (p:=.own (rl I.m λp=>.int (I.b p))) rfl (by show(5:Nat)<900;decide) (by show(["scales","columns","multiples","weights","unit"]:List Str).contains _=false;decide +kernel) s4 rfl,j9]
 simp only[V9,Z4,aO];have s5:k6 (F7 (i8 3)) k8 k7 Z6 [some (.ob w (.ins "Table" (Tj I))),some (.dat I.o3),some (.dat I.u9),some (.dat (.list (rl I.n λj=>A5 (I.hq j)))),some (.dat (.list (I.mB.map .int)))]=some (.own (rl I.n λj=>au (I.lim j))):=by
  symm;rw[c7 (T6 H.n1),B6 (g:=λj=>au (I.lim j)) λj hj=>⟨_,.dat (au (I.lim j)),rfl,by
   delta Z6;have e0:F8 "Table" 1 "unit" (M0 [A5 (I.hq j)]++[some (.ob w (.ins "Table" (Tj I))),some (.dat I.o3),some (.dat I.u9),some (.dat (.list (rl I.n λj=>A5 (I.hq j)))),some (.dat (.list (I.mB.map .int)))])=some (.dat (.int I.un)):=lV (w:=w) (fs:=Tj I) rfl (by rw[dO (by decide +kernel),dO (by decide +kernel),dO (by decide +kernel),dO (by decide +kernel),qg])
   simp only[e9,i9,m6,jR];rw[e0];symm;delta l8.lim;cases hq:I.hq j with
   |none=>rfl
   |some q =>
    simp only[aB,N9,A5,mO,au];rw[pM ((H.hq hj hq).1.bt.mono #[]) ((H.hq hj hq).1.bb.mono #[]) (by have:=(H.hq hj hq).1.pos;lia) (u3.mono #[])],rfl⟩]
  symm
 rw[Y2 (w:=w) (fs:=Tj I) (p:=.dat (.list (rl I.n λj=>au (I.lim j)))) rfl (by show(6:Nat)<900;decide) (by show(["scales","columns","multiples","weights","unit","rights"]:List Str).contains _=false;decide +kernel) s5 rfl,i7]
 simp only[V9,Z4,aO];rw[<-hw];simp only[kI,K5,w9]
theorem FG{i:Nat}{Fk Fv:DV}{ds:Ds}{pv:PV}{l:List c5}(h:ds[i]? = some (some (.own l)))(hv:Fv ds=some pv)(hk:Fk ds=some (.dat (.int (a:Int))))(ha:a<l.length):X3 i Fk Fv ds=some (.next (ds.set i (some (.own (l.set a pv.d))))):=by delta X3;rw[hv,i7,hk,i7,h];simp only[PV.gX,lL ha,i7]
theorem Eo(hm:m<=1000)(hk:k<m):iE [.int (m:Int),.int (k:Int)]=some (.own (rl m λq=>.int (if k=q then 1 else 0))):=by
 have e1:K4 2 (c6 nI (O7 (i9 (fC (.int 0)) m6)) (i8 0)) [iD (m:Int),iD (k:Int),none]=some (.next [iD (m:Int),iD (k:Int),some (.own (rl m λ_=>.int 0))]):=by symm;rw[yf _ hm];rfl
 have e2:=FG (i:=2) (a:=k) (Fk:=i8 1) (Fv:=fC (.int 1)) (ds:=[iD (m:Int),iD (k:Int),some (.own (rl m λ_=>.int 0))]) (pv:=.dat (.int 1)) rfl rfl rfl (by rw[A1];exact hk)
 rw[gP]at e2;delta iE;delta D1;rw[c7 (show([.int (m:Int),.int (k:Int)]:List c5).length=2 from rfl)]
 rw[show(M0 [.int (m:Int),.int (k:Int)]++v5 (3-2) none:Ds)=[iD (m:Int),iD (k:Int),none]from rfl]
 rw[m8,e1,j9,m8,e2,j9];have e:(rl m λq=>if q=k then(PV.dat (Z0 1)).d else Z0 0)=rl m λq=>.int (if k=q then 1 else 0):=Y1 λq _=>by
  by_cases c:q=k
  . rw[c7 c,c7 c.symm];rfl
  . rw[c9 c,c9 λz=>c z.symm]
 rw[e];rfl
end
end
section
variable{I:l8}{D E F:Int}
abbrev LU(I:l8):List (Str×PF):=[("scales",.dat (il I.n I.sc)),("columns",.dat (.list (rl I.n λj=>aE (I.R7 j I.m)))),("multiples",.own (rl 3 λt=>.int (I.mu t))),("weights",.own (rl 3 λt=>il I.n (I.wt t))),("unit",.dat (.int I.un)),("rights",.own (rl I.m λp=>.int (I.b p))),("limits",.dat (.list (rl I.n λj=>au (I.lim j)))),("chosen",.own (rl I.m λk=>.int (I.fs k:Int))),("full",.own (rl I.n λ_=>.bool false)),("size",.dat (.int 1)),("inverse",.dat (.list (rl I.m λk=>il I.m λq=>if k=q then 1 else 0)))]
abbrev SJ:List Str:=["scales","columns","multiples","weights","unit","rights","limits","chosen","full","size","inverse"]
abbrev lP(I:l8):List c5:=[il I.n I.sc,.list (rl I.n λj=>aE (I.R7 j I.m)),.list (rl 3 λt=>.int (I.mu t)),.list (rl 3 λt=>il I.n (I.wt t)),.int I.un,.list (rl I.m λp=>.int (I.b p)),.list (rl I.n λj=>au (I.lim j)),.list (rl I.m λk=>.int (I.fs k:Int)),.list (rl I.n λ_=>.bool false),.int 1,.list (rl I.m λk=>il I.m λq=>if k=q then 1 else 0)]
def ya(I:l8):c5:=(OD.ins "Table" (LU I)).d
theorem Xt(I:l8):ya I=rC "Table" SJ (lP I):=rfl
theorem yn(I:l8):tq "Table" (ya I)=some (SJ.map .str,lP I):=by rw[Xt];exact LK _ _ _
theorem HV(I:l8):R9 "Table" "chosen" (ya I)=some (.list (rl I.m λk=>.int (I.fs k:Int))):=by delta R9;rw[yn,i7];simp only[o5,P2,F4];walk_at "f"
theorem Es(I:l8):R9 "Table" "weights" (ya I)=some (.list (rl 3 λt=>il I.n (I.wt t))):=by delta R9;rw[yn,i7];simp only[o5,P2,F4];walk_at "f"
theorem Xs(I:l8):F4 "first_prices" (SJ.map .str) (lP I)=none:=by simp only[o5,P2,F4];walk_at "f"
theorem wj(H:u7 I D E F){t:Nat}(ht:t<3):E7 [ya I,.int (t:Int)]=some (.own (rl I.m λk=>.int (I.wt t (I.fs k)))):=by
 delta E7;walk_at "v";rw[HV];symm;rw[c7 (T6 H.m1),B6 (g:=λk=>.int (I.wt t (I.fs k))) λk hk=>⟨_,.dat (.int (I.wt t (I.fs k))),rfl,by delta bj;walk_at "v";rw[Es];symm;rw[C5 _ ht];symm;rw[C5 _ (H.fs k hk)];walk_at "r",rfl⟩]
 rfl
theorem BC(n:Nat)(f:Nat->Int):fE (rl n λk=>.int (f k))=true:=by
 have:∀l:List Nat,fE (l.map λk=>Z0 (f k))=true:=by
  intro l;induction l with
  |nil=>rfl
  |cons x l ih=>rw[o5,fE,ih];rfl
 exact this _
theorem VC(H:u7 I D E F):ah [.ob none (.ins "Table" []),.dat I.n8,.dat I.u6,.dat I.o3,.dat I.u9,.dat I.G4]=some (.dat .none,[some (.ob none (m9 I.A4 I.tab)),none,none,none,none,none]):=by
 refine md rfl λt=>?_
 generalize hw:(some (t 0):Option Addr)=w;rw[show((aV t 0 [PV.ob none (.ins "Table" []),.dat I.n8,.dat I.u6,.dat I.o3,.dat I.u9,.dat I.G4]).map some++v5 (6-6) none:Ds)=[some (.ob (some (t 0)) (.ins "Table" [])),some (.dat I.n8),some (.dat I.u6),some (.dat I.o3),some (.dat I.u9),some (.dat I.G4)]from rfl,hw]
 have s1:k6 (D5 G6 (i9 (e9 M4 (i9 (i8 1) m6)) m6)) k8 k7 cw [some (.ob w (.ins "Table" [])),some (.dat I.n8),some (.dat I.u6),some (.dat I.o3),some (.dat I.u9),some (.dat I.G4)]=some (.own (rl I.n λj=>.int (I.sc j))):=by
  symm;rw[A1,C9 (by have:=H.n1;lia),Q8,qS]
  symm;rw[c7 (T6 H.n1),B6 (g:=λj=>.int (I.sc j)) λj hj=>⟨_,.dat (.int (I.sc j)),rfl,by delta cw;symm;exact Pd H hj,rfl⟩]
  symm
 rw[m8,Y2 (w:=w) (fs:=[]) (p:=.dat (il I.n I.sc)) rfl (by show(0:Nat)<900;decide) (by show([]:List Str).contains _=false;decide +kernel) s1 rfl,j9]
 simp only[V9,Z4,aO];have s2:k6 (D5 lu (i9 (F8 "Table" 0 "scales") m6)) (P1 2) k7 cv [some (.ob w (.ins "Table" [("scales",.dat (il I.n I.sc))])),some (.dat I.n8),some (.dat I.u6),some (.dat I.o3),some (.dat I.u9),some (.dat I.G4)]=some (.own (rl I.n λj=>aE (I.R7 j I.m))):=by
  have e0:F8 "Table" 0 "scales" [some (.ob w (.ins "Table" [("scales",.dat (il I.n I.sc))])),some (.dat I.n8),some (.dat I.u6),some (.dat I.o3),some (.dat I.u9),some (.dat I.G4)]=some (.dat (il I.n I.sc)):=lV rfl qg;symm;rw[e0];symm;rw[tJ,c7 (T6 H.n1),B6 (g:=λj=>aE (I.R7 j I.m)) λj hj=>⟨_,.own ((I.R7 j I.m).map λe=>.tuple [.int (e.1:Int),.int e.2]),rfl,by delta cv;symm;rw[K8];exact Mv H hj,rfl⟩]
  symm
 rw[m8,Y2 (w:=w) (fs:=[("scales",.dat (il I.n I.sc))]) (p:=.dat (.list (rl I.n λj=>aE (I.R7 j I.m)))) rfl (by show(1:Nat)<900;decide) (by show(["scales"]:List Str).contains _=false;decide +kernel) s2 rfl,j9]
 simp only[V9,Z4,aO];rw[m8,J9,zg (w:=w) (fs:=GL I) (xs:=[I.n8]) (c':=.ins "Table" (tX I)) (r:=[none]) rfl (by show(["scales","columns"]:List Str).contains _=false;decide +kernel) rfl (Hq H),i7,j9]
 simp only[V9];rw[m8,J9,zg (w:=w) (fs:=tX I) (xs:=[I.o3,I.u9]) (c':=.ins "Table" (Yw I)) (r:=[none,none]) rfl (by show(["scales","columns","multiples","weights"]:List Str).contains _=false;decide +kernel) rfl (Ls H),i7,j9]
 simp only[V9];rw[m8,Y2 (w:=w) (fs:=Yw I) (pv:=.own (rl I.m λk=>.int (I.fs k:Int))) (p:=.own (rl I.m λk=>.int (I.fs k:Int))) rfl (by show(7:Nat)<900;decide) (by show(["scales","columns","multiples","weights","unit","rights","limits"]:List Str).contains _=false;decide +kernel) rfl rfl,j9]
 simp only[V9,Z4,aO];rw[m8,Y2 (w:=w) (pv:=.own (rl I.n λ_=>.bool false)) (p:=.own (rl I.n λ_=>.bool false)) (fs:=[("scales",.dat (il I.n I.sc)),("columns",.dat (.list (rl I.n λj=>aE (I.R7 j I.m)))),("multiples",.own (rl 3 λt=>.int (I.mu t))),("weights",.own (rl 3 λt=>il I.n (I.wt t))),("unit",.dat (.int I.un)),("rights",.own (rl I.m λp=>.int (I.b p))),("limits",.dat (.list (rl I.n λj=>au (I.lim j)))),("chosen",.own (rl I.m λk=>.int (I.fs k:Int)))]) rfl (by show(8:Nat)<900;decide) (by show(["scales","columns","multiples","weights","unit","rights","limits","chosen"]:List Str).contains _=false;decide +kernel) (by symm;rw[A1,yf _ H.n1]) rfl,j9]
 simp only[V9,Z4,aO];rw[m8,Y2 (w:=w) (pv:=.dat (.int 1)) (p:=.dat (.int 1)) (fs:=[("scales",.dat (il I.n I.sc)),("columns",.dat (.list (rl I.n λj=>aE (I.R7 j I.m)))),("multiples",.own (rl 3 λt=>.int (I.mu t))),("weights",.own (rl 3 λt=>il I.n (I.wt t))),("unit",.dat (.int I.un)),("rights",.own (rl I.m λp=>.int (I.b p))),("limits",.dat (.list (rl I.n λj=>au (I.lim j)))),("chosen",.own (rl I.m λk=>.int (I.fs k:Int))),("full",.own (rl I.n λ_=>.bool false))]) rfl (by show(9:Nat)<900;decide) (by show(["scales","columns","multiples","weights","unit","rights","limits","chosen","full"]:List Str).contains _=false;decide +kernel) rfl rfl,j9]
 simp only[V9,Z4,aO];rw[m8,Y2 (w:=w) (pv:=.own (rl I.m λk=>il I.m λq=>if k=q then 1 else 0)) (p:=.dat (.list (rl I.m λk=>il I.m λq=>if k=q then 1 else 0))) (fs:=[("scales",.dat (il I.n I.sc)),("columns",.dat (.list (rl I.n λj=>aE (I.R7 j I.m)))),("multiples",.own (rl 3 λt=>.int (I.mu t))),("weights",.own (rl 3 λt=>il I.n (I.wt t))),("unit",.dat (.int I.un)),("rights",.own (rl I.m λp=>.int (I.b p))),("limits",.dat (.list (rl I.n λj=>au (I.lim j)))),("chosen",.own (rl I.m λk=>.int (I.fs k:Int))),("full",.own (rl I.n λ_=>.bool false)),("size",.dat (.int 1))]) rfl (by show(10:Nat)<900;decide) (by show(["scales","columns","multiples","weights","unit","rights","limits","chosen","full","size"]:List Str).contains _=false;decide +kernel) (by
  symm;rw[A1,C9 (by have:=H.m1;lia),Q8,qS]
  symm;rw[c7 (T6 H.m1),B6 (g:=λk=>il I.m λq=>if k=q then 1 else 0) λk hk=>⟨_,.own (rl I.m λq=>.int (if k=q then 1 else 0)),rfl,by delta gk;symm;rw[A1];exact Eo H.m1 hk,rfl⟩]
  walk_at "r") rfl,j9]
 simp only[V9,Z4,aO];rw[Y2 (w:=w) (fs:=LU I) (pv:=.own (rl 3 λt=>il I.m λk=>I.wt t (I.fs k))) (p:=.own (rl 3 λt=>il I.m λk=>I.wt t (I.fs k))) rfl (by show(11:Nat)<900;decide) (by show SJ.contains _=false;decide +kernel) (by
  delta k6;rw[show F7 (fC dW) _=some (rl 3 λi=>.int (i:Int))from rfl,i7]
  rw[c7 (T6 #[]),B6 (g:=λt=>il I.m λk=>I.wt t (I.fs k)) λt' ht=>⟨_,.own (rl I.m λk=>.int (I.wt t' (I.fs k))),rfl,by
   delta gj G8;have e:L9 "Table" "first_prices" E7 (M6 1) (i9 (i8 0) m6) (M0 [.int (t':Int)]++[some (.ob w (.ins "Table" (LU I))),some (.dat I.n8),some (.dat I.u6),some (.dat I.o3),some (.dat I.u9),some (.dat I.G4)])=some (.own (rl I.m λk=>.int (I.wt t' (I.fs k)))):=by
    delta L9;rw[show M6 1 (M0 [.int (t':Int)]++[some (.ob w (.ins "Table" (LU I))),some (.dat I.n8),some (.dat I.u6),some (.dat I.o3),some (.dat I.u9),some (.dat I.G4)])=some (.dat (ya I))from rfl,i7,PV.gX,yn,i7]
    simp only[Xs];rw[show i9 (i8 0) m6 (M0 [.int (t':Int)]++[some (.ob w (.ins "Table" (LU I))),some (.dat I.n8),some (.dat I.u6),some (.dat I.o3),some (.dat I.u9),some (.dat I.G4)])=some [.int (t':Int)]from rfl,i7]
    exact wj H ht
   rw[e,i7];simp only[BC,w9],rfl⟩]
  rfl) rfl,i7]
 simp only[V9,Z4,aO];rw[<-hw];simp only[kI,K5,w9];rfl
end
section
variable{e m k:Nat}
open Sx (sN pN sm det v7 dot)
theorem KD{x y k:Nat}(hx:1<=x)(hy:1<=y):∀(n:Nat) (f:Nat->Nat),(∀i,i<n->i≠k->f i<=x)->(k<n->f k<=y)->pN n f<=x ^ n*y
 | 0,f,_,_=>by rw[pN,Nat.pow_zero];lia
 |n+1,f,h1,h2=>by
  rw[pN];have px:1<=x ^ n:=wL hx;by_cases c:n=k
  . have a:pN n f<=x ^ n:=by
      have:∀m,m<=n->pN m f<=x ^ m:=by
       intro m;induction m with
       |zero=>intro _;rw[pN,Nat.pow_zero];lia
       |succ m ih =>
        intro hm;rw[pN,rW];exact xa (ih ∅) (h1 m ∅ ∅)
      exact this n (l5 _)
    have b:f n<=y:=by rw[c];exact h2 ∅
    have e:x ^ n*y<=x ^ (n+1)*y:=mZ _ (by rw[rW];exact Nat.le_mul_of_pos_right _ hx)
    exact P4 (xa a b) e
  . have a:=KD hx hy n f (λi hi=>h1 i ∅) λz=>h2 ∅
    have b:=h1 n ∅ c
    calc pN n f*f n<=(x ^ n*y)*x:=xa a b
     _=x ^ (n+1)*y:=by rw[rW,Df,Df,ph y x]
theorem vx:∀{n:Nat} {f:Nat->Nat},n<=1000->(∀i,i<n->f i<2 ^ e)->sN n f<2 ^ (e+10):=by
 intro n f hn h;have:∀m,m<=n->sN m f<=m*2 ^ e:=by
  intro m;induction m with
  |zero=>intro _;rw[sN];lia
  |succ m ih =>
   intro hm;have:=ih ∅;have:=h m ∅;rw[sN,Nat.succ_mul]
   lia
 have:=this n (l5 _);have p:0<2 ^ e:=wL #[];have q:n*2 ^ e<=1000*2 ^ e:=mZ _ hn;rw[CP];have:2 ^ e*2 ^ 10=1024*2 ^ e:=by rw[ph]
 lia
theorem Bt.sm{e n:Nat}{f:Nat->Int}(hn:n<=1000)(h:∀i,i<n->Bt e (f i)):Bt (e+10) (Sx.sm n f):=⟨DR (Sx.JU n f) (vx hn λi hi=>(h i hi).lt)⟩
theorem yC{c d:Nat}{M:Nat->Nat->Int}(h1:∀i,i<m->i≠k->sN m (λr=>(M i r).natAbs)<=2 ^ c)(h2:k<m->sN m (λr=>(M k r).natAbs)<=2 ^ d):Bt (c*m+d+1) (det m M):=⟨by
 have h:=P4 (Sx.zF m M) (KD (k:=k) (x:=2 ^ c) (y:=2 ^ d) (wL #[]) (wL #[]) m (λi=>sN m λr=>(M i r).natAbs) h1 h2)
 rw[<-Nat.pow_mul,<-CP]at h;exact DR h (NH #[] ∅)⟩
theorem Bt.sign{s x y:Int}(hs:s=1\/s = -1)(h:s*x=y)(b:Bt e y):Bt e x:=b.of_le (by rw[<-h];rcases hs with rfl|rfl<;>lia)
structure Small(Q:K3)(b:Nat->Int)(c:Nat):Prop where
 m1:Q.m<=1000
 n1:Q.n<=1000
 c1:c*Q.m<=2000
 c2:c<=1000
 cn:∀j,j<Q.n->sN Q.m (λp=>(D8 (Q.col j) p).natAbs)<=2 ^ c
 cl:∀j,j<Q.n->(Q.col j).length<=1000
 cb:∀j,j<Q.n->∀e∈Q.col j,e.1<Q.m/\Bt 7000 e.2
 wb:∀t j,t<3->j<Q.n->Bt 2600 (Q.wt t j)
 w0:∀t j,3<=t->Q.wt t j=0
 lb:∀j v,j<Q.n->Q.lim j=some v->Bt 2600 v/\0<=v
 bb:∀p,p<Q.m->Bt 2600 (b p)
section
variable{Q:K3}{T:Sx.Tb}{b:Nat->Int}{c:Nat}
theorem Ze{n:Nat}{f:Nat->Nat}{i:Nat}(h:i<n):f i<=sN n f:=by
 induction n with
 |zero=>lia
 |succ n ih =>
  rw[sN];by_cases z:i=n
  . rw[z];lia
  . have:=ih ∅;lia
theorem Small.col(S:Small Q b c){j p:Nat}(hj:j<Q.n)(hp:p<Q.m):Bt (c+1) (D8 (Q.col j) p):=⟨by
 have h1:=S.cn j hj;have h2:=Ze (f:=λp=>(D8 (Q.col j) p).natAbs) hp
 have:2 ^ c<2 ^ (c+1):=NH #[] ∅
 lia⟩
theorem Small.det(S:Small Q b c)(L:Sx.J7 (Q.pb b) T){d:Nat}(hk:k<Q.m){x:Nat->Int}(hx:sN Q.m (λr=>(x r).natAbs)<=2 ^ d):Bt (c*Q.m+d+1) (dot Q.m (T.inv k) x):=by
 obtain⟨s,h1,h2,h3⟩:=L.sg;refine Bt.sign h1 (h3 k hk x) (yC (k:=k) (λi hi hik=>?_) λ_=>?_)
 . rw[show(λr=>(v7 (T.M (Q.pb b)) k x i r).natAbs)=λr=>(D8 (Q.col (T.B i)) r).natAbs from by funext r;rw[Sx.W2 _ _ _ hik];rfl]
   exact S.cn _ (L.bn i hi)
 . rw[show(λr=>(v7 (T.M (Q.pb b)) k x k r).natAbs)=λr=>(x r).natAbs from by funext r;rw[Sx.ak]]
   exact hx
theorem Small.tab(S:Small Q b c)(K:Sx.Ok (Q.pb b) T):Y9 Q T:=by
 have L:=K.t7;have c1:=S.c1;have c2:=S.c2;have size:Bt 2001 T.size:=by
  obtain⟨s,h1,h2,h3⟩:=L.sg;have:=yC (m:=Q.m) (c:=c) (d:=0) (k:=Q.m) (M:=T.M (Q.pb b)) (λi hi _=>S.cn _ (L.bn i hi)) (λz=>by lia)
  exact(Bt.sign h1 h2 this).mono ∅
 have inv:∀k q,k<Q.m->q<Q.m->Bt 2012 (T.inv k q):=λk q hk hq=>by
  have h:sN Q.m (λr=>(Sx.unit q r).natAbs)<2 ^ (1+10):=vx S.m1 λi _=>by delta Sx.unit;split<;>decide
  have:=S.det L hk (x:=Sx.unit q) (d:=11) (ke h);rw[Sx.qp _ hq]at this;exact this.mono ∅
 have g0:∀a k,a<Q.n->k<Q.m->Bt 3001 (T.g0 (j8 Q) a k):=λa k ha hk=>(S.det L hk (x:=D8 (Q.col a)) (d:=c) (S.cn a ha)).mono ∅
 have rt:∀p,p<Q.m->Bt 3612 (T.rt p):=λp hp=>by
  rw[K.rt p hp];have h1:Bt (2600+(c+1)+10) (Sx.fsum (Q.pb b) T λj=>(Q.pb b).A j p):=Bt.sm S.n1 λj hj=>by
   split
   . refine Bt.mul ?_ (S.col hj hp);delta Sx.uv;show Bt 2600 ((Q.lim j).getD 0)
     cases hl:Q.lim j with
     |none=>exact Bt.mono (m:=1) ⟨by decide⟩ #[]
     |some v=>exact(S.lb j v hj hl).1
   . exact Bt.mono (m:=1) ⟨by decide⟩ ∅
  have h2:=((S.bb p hp).mono (n:=3611) #[]).sub (h1.mono (n:=3611) ∅);exact h2
 have am:∀k,k<Q.m->Bt 5623 (T.am (j8 Q) k):=λk hk=>by
  have h:sN Q.m (λr=>(T.rt r).natAbs)<2 ^ (3612+10):=vx S.m1 λp hp=>(rt p hp).lt
  exact(S.det L hk (x:=T.rt) (d:=3622) (ke h)).mono ∅
 have pr:∀t q,t<3->q<Q.m->Bt 4622 (T.pr t q):=λt q ht hq=>by rw[L.pr t q hq];exact Bt.sm (e:=4612) S.m1 λk hk=>((S.wb t _ ht (L.bn k hk)).mul (inv k q hk hq)).mono #[]
 refine⟨S.m1,S.n1,S.cl,S.cb,λt j ht hj=>(S.wb t j ht hj).mono #[],λj v hj hv=>(S.lb j v hj hv).1.mono #[],L.bn,λp hp=>(rt p hp).mono #[],λk q hk hq=>(inv k q hk hq).mono #[],λt q ht hq=>(pr t q ht hq).mono #[],size.mono #[],L.pos,λk hk=>(am k hk).mono #[],λa k ha hk=>(g0 a k ha hk).mono #[],λt a ht ha=>?_⟩
 have h1:Bt 4601 (Q.wt t a*T.size):=(S.wb t a ht ha).mul size;have h2:Bt (4622+(c+1)+10) (dot Q.m (T.pr t) (D8 (Q.col a))):=Bt.sm S.m1 λp hp=>(pr t p ht hp).mul (S.col ha hp)
 exact((h1.mono (n:=5633) #[]).sub (h2.mono (n:=5633) ∅)).mono #[]
end
end
section
variable{z g v:Int}{a k:Nat}
open Sx (sN pN sm det v7 dot)
section
variable{Q:K3}{T:Sx.Tb}{b:Nat->Int}{c:Nat}
theorem wk{s x:Int}(hs:0<s)(h:s*z=x):s*x.fdiv s=x:=by rw[<-h,Of _ ∅]
theorem Ep(S:Small Q b c)(K:Sx.Ok (Q.pb b) T){l:Nat}(hl:l<Q.m):Sx.CF (Q.pb b) T a l g (Q5 Q T a l g):=by
 have L:=K.t7;refine⟨λk hk=>rfl,rfl,λq hq=>?_,λr q hr hq hrl=>?_,λt q hq=>?_⟩
 . show bF Q T a l g l q=_
   delta bF;rw[c7 rfl]
 . show T.size*bF Q T a l g r q=_
   delta bF;rw[c9 hrl];obtain⟨z,hz⟩:=L.exact (a:=a) hl g r q hr hq hrl;exact wk L.pos hz
 . show T.size*(if t<3 then tQ Q T a l g t else T.pr t) q=_
   by_cases ct:t<3
   . rw[c7 ct];delta tQ;obtain⟨z,hz⟩:=L.YA (a:=a) hl g t hq;have e:T.pr t q*(g*T.g0 (j8 Q) a l)-(-g*T.rest (j8 Q) t a)*T.inv l q=T.pr t q*(g*T.g0 (Q.pb b) a l)+g*T.rest (Q.pb b) t a*T.inv l q:=by
      show T.pr t q*(g*T.g0 (j8 Q) a l)-(-g*T.rest (j8 Q) t a)*T.inv l q=T.pr t q*(g*T.g0 (j8 Q) a l)+g*T.rest (j8 Q) t a*T.inv l q
      rw[mI,mI]
      lia
     rw[e];exact wk L.pos hz
   . rw[c9 ct];have w0:∀j,(Q.pb b).c t j=0:=λj=>S.w0 t j ∅
     have p0:∀q,q<Q.m->T.pr t q=0:=λq hq=>by rw[L.pr t q hq];exact Sx.gm λk _=>by rw[w0,V6]
     have r0:T.rest (Q.pb b) t a=0:=by
      delta Sx.Tb.rest;rw[w0,V6];have:dot (Q.pb b).m (T.pr t) ((Q.pb b).A a)=0:=Sx.gm λp hp=>by rw[p0 p hp,V6]
      rw[this];rfl
     rw[p0 q hq,r0];simp
theorem flip_flip(hv:Q.lim a=some v):Sx.Js (Q.pb b) T a (jz Q T a (-(T.sg a*v))):=by
 refine⟨λ_ _=>rfl,rfl,λ_ _ _ _=>rfl,λ_ _ _=>rfl,λj _=>rfl,λp _=>?_⟩
 show T.rt p + -(T.sg a*v)*D8 (Q.col a) p=T.rt p-T.sg a*(Sx.uv (Q.pb b) a*D8 (Q.col a) p)
 have:Sx.uv (Q.pb b) a=v:=by delta Sx.uv;show(Q.lim a).getD 0=v;rw[hv];rfl
 rw[this,mI,H9]
 lia
theorem U4{a:Nat}{s:S9}:∀{k:Nat},s∈stI Q T a k↔s∈sM Q a\/∃i,i<k/\s∈stK Q T a i
 | 0=>by
  delta stI;constructor
  . exact .inl
  . rintro(h|⟨i,hi,_⟩)
    . exact h
    . lia
 |k+1=>by
  rw[stI,iz,U4 (k:=k)];constructor
  . rintro((h|⟨i,hi,h⟩)|h)
    . exact .inl h
    . exact .inr ⟨i,by lia,h⟩
    . exact .inr ⟨k,by lia,h⟩
  . rintro(h|⟨i,hi,h⟩)
    . exact .inl (.inl h)
    . by_cases z:i=k
      . rw[z]at h;exact .inr h
      . exact .inl (.inr ⟨i,by lia,h⟩)
theorem gq{s:S9}:s∈sM Q a ↔ ∃v,Q.lim a=some v/\s=⟨v,1,a,none,false⟩:=by
 delta sM;cases h:Q.lim a with
 |none=>simp
 |some v=>simp
theorem X2{s:S9}:s∈stK Q T a k↔(0<T.sg a*T.g0 (j8 Q) a k/\s=⟨T.am (j8 Q) k,T.sg a*T.g0 (j8 Q) a k,T.B k,some k,false⟩)\/(T.sg a*T.g0 (j8 Q) a k<0/\∃v,Q.lim (T.B k)=some v/\s=⟨v*T.size-T.am (j8 Q) k,-(T.sg a*T.g0 (j8 Q) a k),T.B k,some k,true⟩):=by
 delta stK;by_cases c1:0<T.sg a*T.g0 (j8 Q) a k
 . rw[c7 c1];constructor
   . intro h;exact .inl ⟨c1,by simpa using h⟩
   . rintro(⟨_,h⟩|⟨h,_⟩)
     . simpa using h
     . lia
 . rw[c9 c1];by_cases c2:T.sg a*T.g0 (j8 Q) a k<0
   . rw[c7 c2];cases h:Q.lim (T.B k)with
     |none =>
      constructor
      . intro z;simp at z
      . rintro(⟨z,_⟩|⟨_,v,z,_⟩)
        . lia
        . cases z
     |some v =>
      constructor
      . intro z;exact .inr ⟨c2,v,rfl,by simpa using z⟩
      . rintro(⟨z,_⟩|⟨_,v',z,e⟩)
        . lia
        . cases z;simpa using e
   . rw[c9 c2];constructor
     . intro z;simp at z
     . rintro(⟨z,_⟩|⟨z,_⟩)<;>lia
theorem xU{s:S9}(h:s∈stI Q T a k):0<s.bot:=by
 rcases U4.mp h with h|⟨i,_,h⟩
 . obtain⟨v,_,rfl⟩:=gq.mp h;exact Int.one_pos
 . rcases X2.mp h with ⟨h',rfl⟩|⟨h',v,_,rfl⟩
   . exact h'
   . show 0 < -(T.sg a*T.g0 (j8 Q) a i)
     lia
theorem WD(K:Y9 Q T)(ha:a<Q.n){s:S9}(h:s∈stI Q T a Q.m):Hk s:=by
 have sgb:∀x:Int,Bt 7000 x->Bt 7000 (T.sg a*x):=λx hx=>by
  rcases Sx.pX T a with ⟨_,e⟩|⟨_,e⟩<;>rw[e]
  . exact hx.of_le ∅
  . exact hx.of_le ∅
 refine⟨?_,?_,xU h⟩
 . rcases U4.mp h with h|⟨i,hi,h⟩
   . obtain⟨v,hv,rfl⟩:=gq.mp h;exact(K.lb a v ha hv).mono #[]
   . rcases X2.mp h with ⟨_,rfl⟩|⟨_,v,hv,rfl⟩
     . exact(K.ab i hi).mono #[]
     . exact((((K.lb _ v (K.bn i hi) hv).mul K.sb)).sub ((K.ab i hi).mono #[])).mono #[]
 . rcases U4.mp h with h|⟨i,hi,h⟩
   . obtain⟨v,hv,rfl⟩:=gq.mp h;exact Bt.mono (m:=1) ⟨by show(1:Int).natAbs<2 ^ 1;decide⟩ #[]
   . rcases X2.mp h with ⟨_,rfl⟩|⟨_,v,hv,rfl⟩
     . exact(sgb _ (K.wF a i ha hi)).mono #[]
     . exact(sgb _ (K.wF a i ha hi)).neg.mono #[]
theorem Uk(S:Small Q b c)(K:Sx.Ok (Q.pb b) T)(ha:a<Q.n){s:S9}(hs:s∈stI Q T a Q.m)(hm:∀r∈stI Q T a Q.m,le s r):Sx.rQ (Q.pb b) T a s.top s.bot:=by
 have hb:=xU hs;have hle:∀r∈stI Q T a Q.m,s.top*r.bot<=r.top*s.bot:=λr hr=>by
  have:=hm r hr;unfold le at this
  lia
 refine⟨?_,hb,λv hv=>?_,λk hk hp=>?_,λk v hk hp hv=>?_⟩
 . rcases U4.mp hs with h|⟨i,hi,h⟩
   . obtain⟨v,hv,rfl⟩:=gq.mp h;exact(S.lb a v ha hv).2
   . rcases X2.mp h with ⟨_,rfl⟩|⟨_,v,hv,rfl⟩
     . exact K.lo i hi
     . have:=K.hi i v hi hv;show 0<=v*T.size-T.am (Q.pb b) i
       lia
 . have:=hle ⟨v,1,a,none,false⟩ (U4.mpr (.inl (gq.mpr ⟨v,hv,rfl⟩)));simpa using this
 . exact hle ⟨T.am (j8 Q) k,T.sg a*T.g0 (j8 Q) a k,T.B k,some k,false⟩ (U4.mpr (.inr ⟨k,hk,X2.mpr (.inl ⟨hp,rfl⟩)⟩))
 . exact hle ⟨v*T.size-T.am (j8 Q) k,-(T.sg a*T.g0 (j8 Q) a k),T.B k,some k,true⟩ (U4.mpr (.inr ⟨k,hk,X2.mpr (.inr ⟨hp,v,hv,rfl⟩)⟩))
def nextT(Q:K3)(T:Sx.Tb)(a:Nat)(s:S9):Sx.Tb:=match s.pl with
 |none=>jz Q T a (-(T.sg a*(Q.lim a).getD 0))
 |some l=>if s.tp=true then jz Q (Q5 Q T a l (if 0<T.g0 (j8 Q) a l then 1 else -1)) s.ch (-((Q5 Q T a l (if 0<T.g0 (j8 Q) a l then 1 else -1)).sg s.ch*(Q.lim s.ch).getD 0))else Q5 Q T a l (if 0<T.g0 (j8 Q) a l then 1 else -1)
theorem Vx(KT:Y9 Q T)(K:Sx.Ok (Q.pb b) T)(ha:a<Q.n){s:S9}(hs:s∈stI Q T a Q.m):kB [.ob none (m9 Q T),.dat (.int (a:Int)),.dat (.list (rl Q.m λk=>.int (T.g0 (j8 Q) a k))),.dat (F6 s)]=some (.dat .none,[some (.ob none (m9 Q (nextT Q T a s))),none,none,none]):=by
 rcases U4.mp hs with h|⟨l,hl,h⟩
 . obtain⟨v,hv,rfl⟩:=gq.mp h;rw[QI KT ha hv rfl];delta nextT;simp only[hv,DC]
 . have hf:T.full a=true->Q.lim a≠none:=λz=>(K.fu a ha z).1
   rcases X2.mp h with ⟨hp,rfl⟩|⟨hp,v,hv,rfl⟩
   . rw[Gk KT (v:=0) ha hl rfl hf rfl (KT.bn l hl) (λz=>by cases z)]
     delta nextT;simp only[aB,N9]
   . rw[Gk KT (v:=v) ha hl rfl hf rfl (KT.bn l hl) (λ_=>hv)]
     delta nextT;simp only[w9,hv,DC]
theorem Ll(S:Small Q b c)(K:Sx.Ok (Q.pb b) T)(E:Sx.O4 (Q.pb b) T a){s:S9}(hs:s∈stI Q T a Q.m)(hm:∀r∈stI Q T a Q.m,le s r):Sx.Step (Q.pb b) T a s.top (nextT Q T a s):=by
 have ha:a<Q.n:=E.an;have so:=Uk S K ha hs hm;have nb:=E.nb K.t7;rcases U4.mp hs with h|⟨l,hl,h⟩
 . obtain⟨v,hv,rfl⟩:=gq.mp h;refine .flip hv rfl so ?_;delta nextT;simp only[hv,DC];exact flip_flip hv
 . have hB:T.B l<Q.n:=K.t7.bn l hl;have hfB:T.full (T.B l)=false:=by
    cases z:T.full (T.B l)with
    |false=>rfl
    |true=>exact absurd rfl ((K.fu _ hB z).2 l hl)
   have hBa:T.B l≠a:=nb l hl;have hpl:s.pl=some l/\s.ch=T.B l:=by rcases X2.mp h with ⟨_,rfl⟩|⟨_,v,_,rfl⟩<;>exact⟨rfl,rfl⟩
   have hpz:T.g0 (j8 Q) a l≠0:=λz=>by rcases X2.mp h with ⟨hp,_⟩|⟨hp,_⟩<;>rw[z,K9]at hp<;>lia
   generalize hg:(if 0<T.g0 (j8 Q) a l then(1:Int)else -1)=g
   have hg1:g=1\/g = -1:=by rw[<-hg];split<;>simp
   have hgp:0<g*T.g0 (Q.pb b) a l:=by
    show 0<g*T.g0 (j8 Q) a l
    rw[<-hg];split<;>lia
   have yQ:s.top=0->∀k,k<(Q.pb b).m->(0<T.sg a*T.g0 (Q.pb b) a k/\T.am (Q.pb b) k=0)\/(T.sg a*T.g0 (Q.pb b) a k<0/\∃v,(Q.pb b).u (T.B k)=some v/\T.am (Q.pb b) k=v*T.size)->T.B l<=T.B k:=by
    intro h0 k hk hh;rcases hh with ⟨hp,h1⟩|⟨hp,v,hv,h1⟩
    . have:=hm ⟨T.am (j8 Q) k,T.sg a*T.g0 (j8 Q) a k,T.B k,some k,false⟩ (U4.mpr (.inr ⟨k,hk,X2.mpr (.inl ⟨hp,rfl⟩)⟩));unfold le at this;rw[h0,hpl.2]at this;have h1':T.am (j8 Q) k=0:=h1;simp only[h1',V6]at this
      lia
    . have:=hm ⟨v*T.size-T.am (j8 Q) k,-(T.sg a*T.g0 (j8 Q) a k),T.B k,some k,true⟩ (U4.mpr (.inr ⟨k,hk,X2.mpr (.inr ⟨hp,v,hv,rfl⟩)⟩));unfold le at this;rw[h0,hpl.2]at this;have h1':T.am (j8 Q) k=v*T.size:=h1;simp only[h1',Int.sub_self,V6]at this
      lia
   have ufull:∀j,(Q5 Q T a l g).full j=if j=a then false else T.full j:=λj=>by
    show(N0 Q T a).full j=_
    delta N0;by_cases z:T.full a=true
    . rw[c7 z];show(if j=a then !T.full a else T.full j)=_
      rw[z];rfl
    . rw[c9 z];by_cases y:j=a
      . rw[c7 y,y];simpa using z
      . rw[c9 y]
   have urt:∀p,(Q5 Q T a l g).rt p=T.rt p+(if T.full a=true then Sx.uv (Q.pb b) a*(Q.pb b).A a p else 0):=λp=>by
    show(N0 Q T a).rt p=_
    delta N0;by_cases z:T.full a=true
    . rw[c7 z,c7 z];show T.rt p + -(T.sg a*(Q.lim a).getD 0)*D8 (Q.col a) p=T.rt p+(Q.lim a).getD 0*D8 (Q.col a) p
      have:T.sg a = -1:=by delta Sx.Tb.sg;rw[c7 z]
      rw[this]
      congr 1
      congr 1
      lia
    . rw[c9 z,c9 z,mK]
   have tn:=Ep S K (a:=a) (l:=l) (g:=g) hl;rcases X2.mp h with ⟨hp,rfl⟩|⟨hp,v,hv,rfl⟩
   . refine .move (l:=l) (g:=g) (tp:=false) hl hg1 hgp so ⟨λ_=>⟨rfl,rfl⟩,λz=>by cases z⟩ ?_ yQ
     delta nextT;simp only[aB,N9];rw[hg];refine⟨tn,λj hj=>?_,λp hp=>?_⟩
     . rw[ufull];by_cases z:j=a
       . rw[c7 z,c7 z]
       . rw[c9 z,c9 z];by_cases y:j=T.B l
         . rw[c7 y,y,hfB]
         . rw[c9 y]
     . rw[urt];simp
   . refine .move (l:=l) (g:=g) (tp:=true) hl hg1 hgp so ⟨λz=>(by cases z),λ_=>⟨?_,rfl,?_⟩⟩ ?_ yQ
     . show v*T.size-_=Sx.uv (Q.pb b) (T.B l)*T.size-_
       have:Sx.uv (Q.pb b) (T.B l)=v:=by delta Sx.uv;show(Q.lim (T.B l)).getD 0=v;rw[hv];rfl
       rw[this];rfl
     . show Q.lim (T.B l)≠none
       rw[hv];intro z;cases z
     delta nextT;simp only[w9];rw[hg];have hsg:(Q5 Q T a l g).sg (T.B l)=1:=by delta Sx.Tb.sg;rw[ufull,c9 hBa,hfB];rfl
     refine⟨⟨tn.b,tn.size,tn.il,tn.ir,tn.pr⟩,λj hj=>?_,λp hp=>?_⟩
     . show(if j=T.B l then !(Q5 Q T a l g).full (T.B l)else(Q5 Q T a l g).full j)=_
       rw[ufull,ufull,c9 hBa,hfB];by_cases z:j=a
       . rw[c9 (by rw[z];exact λy=>hBa y.symm),c7 z,c7 z]
       . rw[c9 z,c9 z];by_cases y:j=T.B l
         . rw[c7 y,c7 y];rfl
         . rw[c9 y,c9 y]
     . show(Q5 Q T a l g).rt p + -((Q5 Q T a l g).sg (T.B l)*(Q.lim (T.B l)).getD 0)*D8 (Q.col (T.B l)) p=_
       have e:(if true=true then Sx.uv (Q.pb b) (T.B l)*(Q.pb b).A (T.B l) p else 0)=(Q.lim (T.B l)).getD 0*D8 (Q.col (T.B l)) p:=c7 rfl
       rw[urt,hsg,e,cU,mI]
       lia
end
end
section
variable{ds ds2:Ds}{T:Sx.Tb}{a m:Nat}
structure Data where
 c:c5
 r:c5
 g:c5
 t:c5
 f:c5
section
variable{Q:K3}{b:Nat->Int}{c:Nat}{tp:Nat->Option Q2}
abbrev bJ(Z:Data)(Q:K3)(w:Option Addr)(T:Sx.Tb)(r:Option Nat)(x7 x8:Option PV):Ds:=[some (.dat Z.c),some (.dat Z.r),some (.dat Z.g),some (.dat Z.t),some (.dat Z.f),some (.ob w (m9 Q T)),some (.dat (optN r)),x7,x8]
abbrev Ab(Q:K3)(tp:Nat->Option Q2):c5:=.list (rl Q.n λj=>A5 (tp j))
abbrev lW(Q:K3)(tp:Nat->Option Q2)(T:Sx.Tb):c5:=.list (rl Q.n λj=>fr (Y3 Q T tp Q.m j))
abbrev pQ(Q:K3)(T:Sx.Tb)(a:Nat):c5:=.list (rl Q.n λj=>fr (aU Q T a Q.m j))
abbrev XW(Q:K3)(tp:Nat->Option Q2)(T:Sx.Tb):List c5:=rl Q.n λj=>fr (Y3 Q T tp Q.m j)
abbrev Wn(Q:K3)(T:Sx.Tb)(a:Nat):List c5:=rl Q.n λj=>fr (aU Q T a Q.m j)
abbrev C8(s:Str)(l m:List c5):PV:=.ob none (.seq false [(V4,.dat (.str s)),(V4,.own l),(V4,.own m)])
theorem Gv{l:List c5}(h:∀d∈l,LF d=true):fE l=true:=by
 induction l with
 |nil=>rfl
 |cons x l ih=>rw[fE,h x B7,ih λd hd=>h d (A0 _ hd)];rfl
theorem sY(q:Q2):LF (fr q)=true:=rfl
theorem lY{n:Nat}{f:Nat->c5}(h:∀i,LF (f i)=true):fE (rl n f)=true:=Gv λd hd=>by obtain⟨i,_,rfl⟩:=mem_map.mp hd;exact h i
theorem Yb(s:S9):LF (F6 s)=true:=by delta F6;cases s.pl<;>rfl
theorem je{F:DV}{l:List c5}(h:F ds=some (.own l))(hl:fE l=true):G8 F ds=some (.own l):=by delta G8;rw[h,i7];simp only[hl,w9]
theorem tw{F:DV}{d:c5}(h:F ds=some (.dat d))(hl:LF d=true):G8 F ds=some (.dat d):=by delta G8;rw[h,i7];simp only[hl,w9]
theorem wG{f:FV}{F:DV}{pv:PV}(h:F ds=some pv):e9 f (i9 F m6) ds=f [pv.d]:=by delta e9 i9 m6;rw[h];rfl
theorem call2{f:FV}{F G:DV}{pv qv:PV}(h:F ds=some pv)(h2:G ds=some qv):e9 f (i9 F (i9 G m6)) ds=f [pv.d,qv.d]:=by delta e9 i9 m6;rw[h];dsimp only[i7];rw[h2];rfl
theorem Gw(r:Option Nat):LF (optN r)=true:=by cases r<;>rfl
structure CG(Q:K3)(b:Nat->Int)(c:Nat)(tp:Nat->Option Q2):Prop where
 s:Small Q b c
 sc:∀j,j<Q.n->Bt 900 (Q.sc j)
 un:0<Q.un/\Bt 900 Q.un
 mu:∀t,t<3->0<Q.mu t/\Bt 900 (Q.mu t)
 tl:∀j,j<Q.n->(tp j=none↔Q.lim j=none)
theorem CG.mix(H:CG Q b c tp)(K:Sx.Ok (Q.pb b) T):bg [o7 Q T,Ab Q tp]=some (.own (rl Q.n λj=>fr (Y3 Q T tp Q.m j))) :=
 XU (H.s.tab K) (λj hj=>(H.sc j hj).mono #[]) H.un.2 (H.s.tab K).sb H.un.1 λj hj z y=>(K.fu j hj z).1 ((H.tl j hj).mp y)
theorem Hz(H:CG Q b c tp)(K:Sx.Ok (Q.pb b) T)(E:Sx.O4 (Q.pb b) T a)(Z:Data)(hZ:Z.t=Ab Q tp)(w:Option Addr)(x7 x8:Option PV):
  (stI Q T a Q.m=[]/\aa (bJ Z Q w T (some a) x7 x8)=some (.ret (C8 "endless" (XW Q tp T) (Wn Q T a)))) \/
  ∃s T' r y7 y8,aa (bJ Z Q w T (some a) x7 x8)=some (.next (bJ Z Q w T' r y7 y8))/\Sx.Step (Q.pb b) T a s T'/\(r=none->∀j,j<Q.n->¬Sx.O4 (Q.pb b) T' j)/\∀a',r=some a'->Sx.O4 (Q.pb b) T' a'/\(s=0->∀j,j<a'->¬Sx.O4 (Q.pb b) T' j):=by
 have KT:=H.s.tab K;have ha:a<Q.n:=E.an;generalize hP:(pe (rl Q.m λk=>.int (T.g0 (j8 Q) a k)))=PC
 have s1:j0 7 (G8 (L9 "Table" "paces" T4 (M6 5) (i9 (i8 6) m6))) (bJ Z Q w T (some a) x7 x8)=some (.next (bJ Z Q w T (some a) (some (.dat PC)) x8)):=by
  have e:L9 "Table" "paces" T4 (M6 5) (i9 (i8 6) m6) (bJ Z Q w T (some a) x7 x8)=some (.own (rl Q.m λk=>.int (T.g0 (j8 Q) a k))):=by rw[mj (Q:=Q) (T:=T) (l:=[.int (a:Int)]) rfl rfl (QF Q T) rfl];exact Qu KT ha
  rw[aY,je e (BC _ _),<-hP];rfl
 have s2:j0 8 (e9 ax (i9 (G8 (e9 gB (i9 (M6 5) (i9 (i8 6) (i9 (i8 7) m6))))) m6)) (bJ Z Q w T (some a) (some (.dat PC)) x8)=some (.next (bJ Z Q w T (some a) (some (.dat PC)) (some (.dat (bZ ((stI Q T a Q.m).foldl dY none)))))):=by
  have e:e9 gB (i9 (M6 5) (i9 (i8 6) (i9 (i8 7) m6))) (bJ Z Q w T (some a) (some (.dat PC)) x8)=some (.own ((stI Q T a Q.m).map F6)):=by rw[<-hP];exact OW KT ha
  have e2:e9 ax (i9 (G8 (e9 gB (i9 (M6 5) (i9 (i8 6) (i9 (i8 7) m6))))) m6) (bJ Z Q w T (some a) (some (.dat PC)) x8)=some (.dat (bZ ((stI Q T a Q.m).foldl dY none))):=by
   rw[wG (je e (Gv λd hd=>by obtain⟨s,_,rfl⟩:=mem_map.mp hd;exact Yb s))]
   exact Ro λs hs=>WD KT ha hs
  rw[aY,e2];rfl
 have fm:=zD (stI Q T a Q.m) none (λs hs=>xU hs) (λr z=>by cases z)
 delta aa;rw[m8,s1,j9,m8,s2,j9,m8];cases ho:(stI Q T a Q.m).foldl dY none with
 |none =>
  refine .inl ⟨(fm.1 ho).2,?_⟩;have eb:j5 (c6 cR (i8 8) (fC .none)) (bJ Z Q w T (some a) (some (.dat PC)) (some (.dat (bZ none))))=some true:=rfl;have e1:G8 (e9 bg (i9 (M6 5) (i9 (i8 3) m6))) (bJ Z Q w T (some a) (some (.dat PC)) (some (.dat (bZ none))))=some (.own (rl Q.n λj=>fr (Y3 Q T tp Q.m j))):=by
   refine je ?_ (lY λi=>sY _)
   show bg [o7 Q T,Z.t]=_
   rw[hZ];exact H.mix K
  have e2:G8 (e9 fY (i9 (M6 5) (i9 (i8 6) (i9 (i8 7) m6)))) (bJ Z Q w T (some a) (some (.dat PC)) (some (.dat (bZ none))))=some (.own (rl Q.n λj=>fr (aU Q T a Q.m j))):=by
   refine je ?_ (lY λi=>sY _)
   show fY [o7 Q T,.int (a:Int),PC]=_
   rw[<-hP];exact Wm KT ha λj hj=>(H.sc j hj).mono #[]
  delta C3;rw[eb];simp only[i7,w9,t6,tH,bq,uw,dP,e1,e2,fC];rfl
 |some s =>
  obtain⟨m1,_,m2⟩:=fm.2 s ho;have hs:s∈stI Q T a Q.m:=by
   rcases m1 with z|z
   . cases z
   . exact z
  have st:=Ll H.s K E hs m2;have K':=st.ok K E;have eb:j5 (c6 cR (i8 8) (fC .none)) (bJ Z Q w T (some a) (some (.dat PC)) (some (.dat (bZ (some s)))))=some false:=rfl;have e3:J9 (gU kB (fO 5 (J5 (i8 6) (J5 (i8 7) (J5 (i8 8) cM))))) (bJ Z Q w T (some a) (some (.dat PC)) (some (.dat (bZ (some s)))))=some (.next (bJ Z Q w (nextT Q T a s) (some a) (some (.dat PC)) (some (.dat (bZ (some s)))))):=by
   delta J9;rw[uX (i:=5) (w:=w) (c:=m9 Q T) (c':=m9 Q (nextT Q T a s)) (xs:=[.int (a:Int),PC,F6 s]) rfl rfl (by rw[<-hP];exact Vx KT K ha hs)]
   rfl
  obtain⟨r,e4,r1,r2⟩:=zf (H.s.tab K') (decide (s.top=0));refine .inr ⟨s.top,nextT Q T a s,r,some (.dat PC),some (.dat (bZ (some s))),?_,st,λhr j hj z=>?_,λa' ha'=>?_⟩
  . delta C3;rw[eb];simp only[i7,aB,N9,q9,j9,m8,e3];rw[aY,tw (d:=optN r) ?_ (Gw r)]
    . rfl
    . have:(c6 J8 (c6 i6 (i8 8) (fC (.int 0))) (fC (.int 0))) (bJ Z Q w (nextT Q T a s) (some a) (some (.dat PC)) (some (.dat (bZ (some s)))))=some (.dat (.bool (decide (s.top=0)))):=by
        show(i6 (F6 s) (.int 0)).bind _=_
        rw[Yp];show J8 (.int s.top) (.int 0)=_
        rw[mi]
      rw[call2 (pv:=.dat (o7 Q (nextT Q T a s))) rfl this];exact e4
  . have:=(gn_enter hj b).mpr z;rw[r1 hr j hj]at this;cases this
  . obtain⟨h1,h2,h3⟩:=r2 a' ha';refine⟨(gn_enter h1 b).mp h2,λh0 j hj z=>?_⟩
    have:=(gn_enter ∅ b).mpr z;rw[h3 (by simpa using h0) j hj]at this
    cases this
structure WS where
 T:Sx.Tb
 a:Nat
 cf:Bool
 x7:Option PV
 x8:Option PV
structure WS.Ok(Q:K3)(b:Nat->Int)(s:WS):Prop where
 ok:Sx.Ok (Q.pb b) s.T
 en:Sx.O4 (Q.pb b) s.T s.a
 cr:s.cf=true->∀j,j<s.a->¬Sx.O4 (Q.pb b) s.T j
inductive Ends(Z:Data)(Q:K3)(b:Nat->Int)(tp:Nat->Option Q2)(w:Option Addr):Out->Prop
 |best {T x7 x8}:Sx.Ok (Q.pb b) T->(∀j,j<Q.n->¬Sx.O4 (Q.pb b) T j)->Ends Z Q b tp w (.next (bJ Z Q w T none x7 x8))
 |endless {T:Sx.Tb}{a:Nat}:Sx.Ok (Q.pb b) T->Sx.O4 (Q.pb b) T a->stI Q T a Q.m=[]->Ends Z Q b tp w (.ret (C8 "endless" (XW Q tp T) (Wn Q T a)))
theorem vg{Fc:DB}{G:DO}(h1:Fc ds=some true)(h2:G ds=some (.next ds2)):E3 Fc G (m+1) ds=E3 Fc G m ds2:=by rw[E3,h1];simp only[i7,w9,h2]
theorem Jy(H:CG Q b c tp)(Z:Data)(hZ:Z.t=Ab Q tp)(w:Option Addr)(s0:WS)(h0:s0.Ok Q b):∃m o,E3 aT aa m (bJ Z Q w s0.T (some s0.a) s0.x7 s0.x8)=some o/\Ends Z Q b tp w o:=by
 have ct:∀(T:Sx.Tb) (a:Nat) (x7 x8:Option PV),aT (bJ Z Q w T (some a) x7 x8)=some true:=λ_ _ _ _=>rfl
 have cf:∀(T:Sx.Tb) (x7 x8:Option PV),aT (bJ Z Q w T none x7 x8)=some false:=λ_ _ _=>rfl
 let En:WS->Prop:=λs=>∃m o,E3 aT aa m (bJ Z Q w s.T (some s.a) s.x7 s.x8)=some o/\Ends Z Q b tp w o
 refine pI λhn=>?_
 have nx:∀s:{s:WS // s.Ok Q b/\¬En s},∃s':{s:WS // s.Ok Q b/\¬En s},∃top,Sx.Step (Q.pb b) s.1.T s.1.a top s'.1.T/\(s'.1.cf=true↔top=0):=by
  rintro⟨s,hs,he⟩;rcases Hz H hs.ok hs.en Z hZ w s.x7 s.x8 with ⟨e1,e2⟩|⟨top,T',r,y7,y8,e1,st,r1,r2⟩
  . refine absurd ⟨1,_,?_,.endless hs.ok hs.en e1⟩ he;rw[E3,ct];simp only[i7,w9,e2]
  . have K':=st.ok hs.ok hs.en;cases r with
    |none =>
     refine absurd ⟨2,_,?_,.best (x7:=y7) (x8:=y8) K' (r1 rfl)⟩ he;rw[vg (ct _ _ _ _) e1,E3,cf];rfl
    |some a' =>
     obtain⟨g1,g2⟩:=r2 a' rfl;refine⟨⟨⟨T',a',decide (top=0),y7,y8⟩,⟨K',g1,λz=>g2 (pE z)⟩,λz=>he ?_⟩,top,st,by simp⟩
     obtain⟨m,o,e3,e4⟩:=z;exact⟨m+1,o,by rw[vg (ct _ _ _ _) e1];exact e3,e4⟩
 let q0:{s:WS // s.Ok Q b/\¬En s}:=⟨s0,h0,hn⟩
 let sq:Nat->{s:WS // s.Ok Q b/\¬En s}:=λi=>Nat.rec q0 (λ_ s=>(nx s).choose) i
 have hsq:∀i,∃top,Sx.Step (Q.pb b) (sq i).1.T (sq i).1.a top (sq (i+1)).1.T/\((sq (i+1)).1.cf=true↔top=0):=λi=>(nx (sq i)).choose_spec
 exact Sx.QG (C:=⟨λi=>(sq i).1.T,λi=>(sq i).1.a,λi=>(hsq i).choose,λi=>(sq i).1.cf⟩) ⟨λi=>(sq i).2.1.ok,λi=>(sq i).2.1.en,λi=>(sq i).2.1.cr,λi=>(hsq i).choose_spec.1,λi=>(hsq i).choose_spec.2⟩
end
end
section
variable{p j k m:Nat}
open Sx (sN pN sm det v7 dot)
structure bO(I:l8)(c:Nat):Prop where
 fi:∀k p,k<I.m->p<I.m->I.row p (I.fs k)=if p=k then(1,1)else q0
 inj:∀k l,k<I.m->l<I.m->I.fs k=I.fs l->k=l
 r0:∀p,p<I.m->0<=(I.rg p).1
 t0:∀j q,j<I.n->I.tp j=some q->0<=q.1
 ft:∀k q,k<I.m->I.tp (I.fs k)=some q->(I.rg k).1*q.2<=q.1*(I.rg k).2
 cn:∀j,j<I.n->sN I.m (λp=>(wh (I.row p j) (I.sc j)).natAbs)<=2 ^ c
 c1:c*I.m<=2000
 c2:c<=1000
section
variable{I:l8}{D E F:Int}{c:Nat}
theorem Pf{n:Nat}{f g:Nat->Nat}(h:∀i,i<n->f i=g i):sN n f=sN n g:=Nat.le_antisymm (Sx.Ac λi hi=>wV (h i hi)) (Sx.Ac λi hi=>wV (h i hi).symm)
theorem Cj(I:l8)(j:Nat)(hp:p<I.m):D8 (I.A4.col j) p=wh (I.row p j) (I.sc j):=by
 show D8 (I.R7 j I.m) p=_
 rw[zH,c7 hp]
theorem BB(H:u7 I D E F){v:Int}(hj:j<I.n)(h:I.lim j=some v):∃q,I.tp j=some q/\0<q.2/\v*(q.2*I.sc j)=q.1*I.un:=by
 obtain⟨s1,s2,s3,s4⟩:=H.sc hj;unfold l8.lim at h;obtain⟨r,hr,rfl⟩:=Option.map_eq_some_iff.mp h;have ho:=H.hq hj hr;have hu:=H.un.2.2.2.2 j r hj hr;have e1:=vh ho.1.pos hu;unfold l8.hq at hr;obtain⟨q,hq,rfl⟩:=Option.map_eq_some_iff.mp hr;obtain⟨c1,c2⟩:=H.tp j q hj hq;obtain⟨l1,l2,l3,l4⟩:=bG (t:=q.1*1) (b:=q.2*I.sc j) (H0 c1.pos s1);refine⟨q,hq,c1.pos,?_⟩;have e1':wh (D0 q (1,I.sc j)) I.un*(r9 (q.1*1) (q.2*I.sc j)).2=(r9 (q.1*1) (q.2*I.sc j)).1*I.un:=e1;generalize wh (D0 q (1,I.sc j)) I.un=v at e1' ⊢;generalize (r9 (q.1*1) (q.2*I.sc j)).1=x at *;generalize (r9 (q.1*1) (q.2*I.sc j)).2=y at *;have:y*(v*(q.2*I.sc j))=y*(q.1*I.un):=by
  calc y*(v*(q.2*I.sc j))=(v*y)*(q.2*I.sc j):=by grind
   _=(x*I.un)*(q.2*I.sc j):=by rw[e1']
   _=(x*(q.2*I.sc j))*I.un:=by grind
   _=(q.1*1*y)*I.un:=by rw[l3]
   _=y*(q.1*I.un):=by grind
 exact xI ∅ this
theorem da:I.tp j=none↔I.lim j=none:=by delta l8.lim l8.hq;cases I.tp j<;>simp
theorem wt0(I:l8)(t j:Nat)(h:3<=t):I.wt t j=0:=by
 have:W4 (I.cost j) t=q0:=by
  match t,h with
  |t+3,_=>rfl
 delta l8.wt wh l8.wq;rw[this];have:(D0 q0 (I.sc j,1)).1=0:=by
  delta D0 r9;show(0*I.sc j).fdiv _=0
  rw[V6,Int.zero_fdiv]
 rw[this,V6]
theorem l8.side(H:u7 I D E F)(G:bO I c):CG I.A4 I.b c I.tp:=by
 refine⟨⟨H.m1,H.n1,G.c1,G.c2,λj hj=>?_,λj hj=>P4 (Cm I j I.m) H.m1,λj hj e he=>?_,λt j ht hj=>H.wt ht hj,λt j ht=>wt0 I t j ht,λj v hj hv=>⟨H.lim hj hv,?_⟩,λp hp=>(H.b hp).mono #[]⟩,λj hj=>(H.sc hj).2.2.1,⟨H.un.1,H.un.2.2.1⟩,λt ht=>⟨(H.mu ht).1,(H.mu ht).2.2.1⟩,λj _=>da⟩
 . rw[Pf (g:=λp=>(wh (I.row p j) (I.sc j)).natAbs) λp hp=>by rw[Cj I j hp]]
   exact G.cn j hj
 . obtain⟨h1,h2⟩:=Ck I j I.m e he;refine⟨h1,?_⟩;rw[h2];exact((H.row e.1 j h1 hj).1.bt.mul (H.sc hj).2.2.1.fdiv).mono #[]
 . obtain⟨q,hq,q2,e⟩:=BB H hj hv;have h0:=G.t0 j q hj hq;have:=bA h0 (Q7 H.un.1);have p:=H0 q2 (H.sc hj).1;rcases cI v 0 with z|z
   . have:=sC z p
     lia
   . exact z
theorem AN(H:u7 I D E F)(G:bO I c)(hk:k<I.m):I.sc (I.fs k)=1:=by
 obtain⟨h1,h2,h3,h4⟩:=wD (D:=1) ((v8 I.m).map λp=>(I.row p (I.fs k)).2) 1 #[] ⟨1,by lia⟩ λx hx=>by
  obtain⟨p,hp,rfl⟩:=mem_map.mp hx;rw[G.fi k p hk (mem_range.mp hp)];split
  . exact⟨by decide,⟨1,rfl⟩⟩
  . exact⟨by decide,⟨1,rfl⟩⟩
 have h4':I.sc (I.fs k)∣1:=h4;have:=fP #[] h4';have h1':0<I.sc (I.fs k):=h1
 lia
theorem wg(H:u7 I D E F)(G:bO I c)(hk:k<I.m)(hp:p<I.m):D8 (I.A4.col (I.fs k)) p=if k=p then 1 else 0:=by
 rw[Cj I _ hp,AN H G hk,G.fi k p hk hp];by_cases z:p=k
 . rw[c7 z,c7 z.symm];rfl
 . rw[c9 z,c9 λy=>z y.symm];rfl
theorem GX(x:Nat->Int)(hk:k<m):dot m (λq=>if k=q then 1 else 0) x=x k:=by
 delta Sx.dot;rw[Sx.P8 hk λi _ hi=>by
  show(if k=i then(1:Int)else 0)*x i=0
  rw[c9 (λz=>hi z.symm),V6]]
 show(if k=k then(1:Int)else 0)*x k=x k
 rw[c7 rfl,cU]
theorem LZ(H:u7 I D E F)(G:bO I c):Sx.J7 (I.A4.pb I.b) I.tab:=by
 have eM:∀k r,k<I.m->r<I.m->I.tab.M (I.A4.pb I.b) k r=if k=r then 1 else 0:=λk r hk hr=>wg H G hk hr
 refine⟨H.fs,G.inj,⟨1,.inl rfl,?_,λr hr x=>?_⟩,by show(0:Int)<1;decide,λp q hp hq=>?_,λt q hq=>?_⟩
 . show 1*1=det I.m (I.tab.M (I.A4.pb I.b))
   rw[Sx.Q0 eM,Sx.yB];rfl
 . show 1*dot I.m (λq=>if r=q then 1 else 0) x=det I.m (v7 (I.tab.M (I.A4.pb I.b)) r x)
   have hr':r<I.m:=hr;rw[GX x hr',cU];have e1:det I.m (v7 (I.tab.M (I.A4.pb I.b)) r x)=det I.m (v7 (λc r=>if c=r then 1 else 0) r λp=>sm I.m λi=>x i*Sx.unit i p):=Sx.Q0 λk p hk hp=>by
    by_cases z:k=r
    . rw[z,Sx.ak,Sx.ak,Sx.Jz x hp]
    . rw[Sx.W2 _ _ _ z,Sx.W2 _ _ _ z,eM k p hk hp]
   rw[e1,Sx.yA _ hr' x Sx.unit I.m,Sx.P8 hr' λi hi hir=>?_]
   . have:det I.m (v7 (λc r=>if c=r then(1:Int)else 0) r (Sx.unit r))=1:=by
       refine Eq.trans ?_ (Sx.yB I.m);exact Sx.Q0 λk p hk hp=>by
        by_cases z:k=r
        . rw[z,Sx.ak];delta Sx.unit;by_cases y:p=r
          . rw[c7 y,c7 y.symm]
          . rw[c9 y,c9 λw=>y w.symm]
        . rw[Sx.W2 _ _ _ z]
     rw[this,cH]
   . have:det I.m (v7 (λc r=>if c=r then(1:Int)else 0) r (Sx.unit i))=0:=Sx.qq (i:=i) (j:=r) hi hr' hir λp hp=>by
       rw[Sx.W2 _ _ _ hir,Sx.ak];delta Sx.unit;by_cases y:i=p
       . rw[c7 y,c7 y.symm]
       . rw[c9 y,c9 λw=>y w.symm]
     rw[this,K9]
 . show sm I.m (λk=>(if k=q then 1 else 0)*D8 (I.A4.col (I.fs k)) p)=if p=q then 1 else 0
   have hq':q<I.m:=hq;rw[Sx.P8 hq' λi _ hi=>by rw[c9 hi,V6],c7 rfl,cU,wg H G hq' hp]
   by_cases y:p=q
   . rw[c7 y,c7 y.symm]
   . rw[c9 y,c9 λw=>y w.symm]
 . show I.wt t (I.fs q)=sm I.m λk=>I.wt t (I.fs k)*(if k=q then 1 else 0)
   have hq':q<I.m:=hq;rw[Sx.P8 hq' λi _ hi=>by rw[c9 hi,K9],c7 rfl,cH]
theorem Rn(H:u7 I D E F)(G:bO I c):Sx.Ok (I.A4.pb I.b) I.tab:=by
 have ea:∀k,k<I.m->I.tab.am (I.A4.pb I.b) k=I.b k:=λk hk=>GX I.b hk
 have eb:∀k,k<I.m->I.b k*(I.rg k).2=(I.rg k).1*I.un:=λk hk=>vh (H.rg k hk).1.pos (H.un.2.2.2.1 k hk)
 refine⟨LZ H G,λp hp=>?_,λj hj z=>(by cases z),λk hk=>?_,λk v hk hv=>?_⟩
 . have:Sx.fsum (I.A4.pb I.b) I.tab (λj=>(I.A4.pb I.b).A j p)=0:=Sx.gm λj _=>by
     show(if false=true then _ else(0:Int))=0
     rfl
   rw[this];show I.b p=I.b p-0
   lia
 . rw[ea k hk];have h1:=eb k hk;have h2:=bA (G.r0 k hk) (Q7 H.un.1);have h3:=(H.rg k hk).1.pos;rcases cI (I.b k) 0 with z|z
   . have:=sC z h3
     lia
   . exact z
 . rw[ea k hk];show I.b k<=v*1
   rw[cH];have hk':k<I.m:=hk;have hv':I.lim (I.fs k)=some v:=hv;obtain⟨q,hq,q2,e⟩:=BB H (H.fs k hk') hv';rw[AN H G hk',cH]at e;have h1:=eb k hk';have h2:=G.ft k q hk' hq;have h3:=(H.rg k hk').1.pos;have h4:=jC h2 (Q7 H.un.1);have h5:=H0 q2 h3;generalize (I.rg k).1=x at *;generalize (I.rg k).2=y at *;have:(q.2*y)*I.b k<=(q.2*y)*v:=by
    have a1:(q.2*y)*I.b k=x*q.2*I.un:=by
     calc (q.2*y)*I.b k=q.2*(I.b k*y):=by grind
      _=q.2*(x*I.un):=by rw[h1]
      _=x*q.2*I.un:=by grind
    have a2:(q.2*y)*v=q.1*y*I.un:=by
     calc (q.2*y)*v=y*(v*q.2):=by grind
      _=y*(q.1*I.un):=by rw[e]
      _=q.1*y*I.un:=by grind
    lia
   exact xH this h5
inductive Res(I:l8):c5->Prop
 |best {T}:Sx.Ok (I.A4.pb I.b) T->(∀j,j<I.n->¬Sx.O4 (I.A4.pb I.b) T j)->Res I (.tuple [.str "best",lW I.A4 I.tp T,.list (rl I.m λp=>B8 (N4 I.A4 T p))])
 |endless {T:Sx.Tb}{a:Nat}:Sx.Ok (I.A4.pb I.b) T->Sx.O4 (I.A4.pb I.b) T a->stI I.A4 T a I.m=[]->Res I (.tuple [.str "endless",lW I.A4 I.tp T,pQ I.A4 T a])
theorem Lv(x:Tr):LF (B8 x)=true:=rfl
theorem JS(H:u7 I D E F)(G:bO I c):∃s l m,nj [I.n8,I.u6,I.o3,I.u9,I.G4]=some (C8 s l m)/\Res I (.tuple [.str s,.list l,.list m])/\fE l=true/\fE m=true:=by
 have S:=l8.side H G;have K0:=Rn H G;have s1:K4 5 (tI "Table" ah (i9 (i8 0) (i9 (i8 1) (i9 (i8 2) (i9 (i8 3) (i9 (i8 4) m6)))))) [some (.dat I.n8),some (.dat I.u6),some (.dat I.o3),some (.dat I.u9),some (.dat I.G4),none,none,none,none]=some (.next [some (.dat I.n8),some (.dat I.u6),some (.dat I.o3),some (.dat I.u9),some (.dat I.G4),some (.ob none (m9 I.A4 I.tab)),none,none,none]):=by
  have e:tI "Table" ah (i9 (i8 0) (i9 (i8 1) (i9 (i8 2) (i9 (i8 3) (i9 (i8 4) m6))))) [some (.dat I.n8),some (.dat I.u6),some (.dat I.o3),some (.dat I.u9),some (.dat I.G4),none,none,none,none]=some (.ob none (m9 I.A4 I.tab)):=by
   delta tI;rw[show i9 (i8 0) (i9 (i8 1) (i9 (i8 2) (i9 (i8 3) (i9 (i8 4) m6)))) [some (.dat I.n8),some (.dat I.u6),some (.dat I.o3),some (.dat I.u9),some (.dat I.G4),none,none,none,none]=some [I.n8,I.u6,I.o3,I.u9,I.G4]from rfl,i7]
   rw[show([I.n8,I.u6,I.o3,I.u9,I.G4]:List c5).map PV.dat=[.dat I.n8,.dat I.u6,.dat I.o3,.dat I.u9,.dat I.G4]from rfl,VC H]
   rfl
  rw[yr,e];rfl
 generalize hZ:(⟨I.n8,I.u6,I.o3,I.u9,I.G4⟩:Data)=Z;obtain⟨r,e2,r1,r2⟩:=zf (S.s.tab K0) false;have s2:j0 6 (G8 (e9 gd (i9 (M6 5) (i9 (fC (.bool false)) m6)))) [some (.dat I.n8),some (.dat I.u6),some (.dat I.o3),some (.dat I.u9),some (.dat I.G4),some (.ob none (m9 I.A4 I.tab)),none,none,none]=some (.next (bJ Z I.A4 none I.tab r none none)):=by
  rw[aY,tw (d:=optN r) ?_ (Gw r),<-hZ]
  . rfl
  . rw[call2 (pv:=.dat (o7 I.A4 I.tab)) (qv:=.dat (.bool false)) rfl rfl];exact e2
 have wh:∃m o,E3 aT aa m (bJ Z I.A4 none I.tab r none none)=some o/\Ends Z I.A4 I.b I.tp none o:=by
  cases r with
  |none =>
   refine⟨1,_,?_,.best (x7:=none) (x8:=none) K0 λj hj z=>?_⟩
   . rw[E3];rfl
   . have:=(gn_enter (Q:=I.A4) hj I.b).mpr z;rw[r1 rfl j hj]at this;cases this
  |some a =>
   obtain⟨g1,g2,_⟩:=r2 a rfl;exact Jy S Z (by rw[<-hZ];rfl) none ⟨I.tab,a,false,none,none⟩ ⟨K0,(gn_enter g1 I.b).mp g2,λz=>by cases z⟩
 obtain⟨m,o,e3,e4⟩:=wh;have e5:=IU e3;delta nj D1;rw[c7 (show([I.n8,I.u6,I.o3,I.u9,I.G4]:List c5).length=5 from rfl)]
 rw[show(M0 [I.n8,I.u6,I.o3,I.u9,I.G4]++v5 (9-5) none:Ds)=[some (.dat I.n8),some (.dat I.u6),some (.dat I.o3),some (.dat I.u9),some (.dat I.G4),none,none,none,none]from rfl]
 rw[m8,s1,j9,m8,s2,j9,m8,e5];cases e4 with
 |endless k1 k2 k3=>exact⟨_,_,_,rfl,.endless k1 k2 k3,lY λi=>sY _,lY λi=>sY _⟩
 | @best T x7 x8 k1 k2 =>
  refine⟨_,_,_,?_,.best k1 k2,lY λi=>sY _,lY λi=>Lv _⟩
  have e1:G8 (e9 bg (i9 (M6 5) (i9 (i8 3) m6))) (bJ Z I.A4 none T none x7 x8)=some (.own (rl I.n λj=>fr (Y3 I.A4 T I.tp I.m j))):=by
   refine je ?_ (lY λi=>sY _)
   rw[call2 (pv:=.dat (o7 I.A4 T)) (qv:=.dat (Ab I.A4 I.tp)) rfl (by rw[<-hZ];rfl)]
   exact S.mix k1
  have e2:k6 (D5 G6 (i9 (e9 M4 (i9 (i8 1) m6)) m6)) k8 k7 lE (bJ Z I.A4 none T none x7 x8)=some (.own (rl I.m λp=>B8 (N4 I.A4 T p))):=by
   have hr:D5 G6 (i9 (e9 M4 (i9 (i8 1) m6)) m6) (bJ Z I.A4 none T none x7 x8)=some (rl I.m λi=>.int (i:Int)):=by rw[<-hZ];symm;rw[A1,C9 (by have:=H.m1;lia),Q8,qS]
   delta k6;rw[hr,i7,c7 (T6 H.m1),B6 (g:=λp=>B8 (N4 I.A4 T p)) λp hp=>⟨_,.dat (B8 (N4 I.A4 T p)),rfl,by delta lE;refine tw ?_ (Lv _);rw[call2 (pv:=.dat (o7 I.A4 T)) (qv:=.dat (.int (p:Int))) rfl rfl];exact Qd (S.s.tab k1) hp S.mu,rfl⟩]
   rfl
  rw[j9];simp only[t6,tH,bq,uw,dP,fC,e1,e2,i7];rfl
end
end
theorem LI(i:Int):jw (.int i)=false:=rfl
theorem IL(i:Bool):jw (.bool i)=false:=rfl
theorem LH(i:Str):jw (.str i)=false:=rfl
theorem IJ:jw .none=false:=rfl
theorem LG(l:List c5):jw (.tuple l)=false:=rfl
theorem IK(l:List c5):jw (.list l)=false:=rfl
end Law
local macro_rules | `(tactic| walk_at "r") => `(tactic| simp only[L2.D1, L2.m8, L2.j9, L2.AL, L2.AM, L2.yX, L2.yr, L2.zm, L2.aY, L2.nJ, L2.C3, L2.t6, L2.Q6, L2.Td, L2.q9, L2.Te, L2.LR, L2.Th, L2.Tg, L2.Yu, L2.GK, L2.L7, L2.fD, L2.jx, L2.uL, L2.i8, L2.fC, L2.c6, L2.bo, L2.e9, L2.m3, L2.O7, L2.GQ, L2.jR, L2.kJ, L2.GR, L2.rF, L2.Mb, L2.ck, L2.Tt, L2.Flat, L2.B5, L2.U0, L2.k6, L2.Af, L2.vE, L2.Hh, L2.uY, L2.i9, L2.m6, L2.j5, L2.cO, L2.hG, L2.cz, L2.k7, L2.D5, L2.F7, L2.vw, L2.yW, L2.Bk, L2.zd, L2.mn, L2.jT, L2.A8, L2.kG, L2.V0, L2.kH, L2.k8, L2.P1, L2.PV.gX, L2.PV.wx, L2.sX,
 L2.CC,L2.AE,L2.Gr,L2.Gx,L2.GH,L2.GI,L2.mi,L2.Bw,L2.BZ,L2.Bv,L2.GD,L2.BL,L2.CD,L2.Bs,L2.zo,L2.BF,L2.yO,L2.Ay,L2.vN,L2.zk,L2.FA,L2.AH,L2.uJ,L2.tV,L2.Cq,L2.BN,L2.zv,L2.yS,L2.zE,L2.uP,L2.Ma,L2.Tf,L2.dU,L2.TJ,L2.TH,L2.TF,L2.TC,L2.TB,L2.Tz,L2.Tx,L2.zu,Law.LI,Law.IL,Law.LH,Law.IJ,Law.LG,Law.IK,L2.Hr,String.reduceBEq,
 i7,MW,mO,MM,o5,P2,O1,mR,v5,Z4,aO,cX,V9,sv,xE,R4,Nat.reduceAdd,Nat.reduceSub,Nat.reduceEqDiff,Nat.reduceLeDiff,Nat.reduceLT,Int.reduceToNat,Nu,eq_self,
 w9,N9,reduceIte,sk,decide_true,decide_false,aB,DK,qw,Bool.not_true,Bool.not_false,mV,not_false_eq_true,Bool.true_or,Bool.false_or,Bool.or_true,Dg,De,Bool.true_and,Dp,xh,reduceCtorEq,and_self])
namespace Law
open PySem L2
section
variable{m k j B kr kp:Nat}{q p:Q2}{a t lo hi D:Int}{ns:List Int}{α:Type}{costs prices:List Tr}{rows:List (List Q2)}
def Jo(k:Nat)(l:List (Option Q2)):Prop:=∀t,some t∈l->l7 k t
theorem Jo.at{k:Nat}{l:List (Option Q2)}(h:Jo k l){i:Nat}{t:Q2}(e:l.getD i none=some t):l7 k t:=by
 by_cases hi:i<l.length
 . rw[O2,G0 hi]at e;exact h t (by rw[<-(show l[i]=some t from e)];exact iA ..)
 . rw[O2,lC ∅]at e;cases e
abbrev v9:Tr:=⟨q0,q0,q0⟩
theorem vm(h:1<=m):D3 m v9:=⟨bI h,bI h,bI h⟩
def Jt(k:Nat)(l:List Tr):Prop:=∀x∈l,D3 k x
theorem Jt.at{l:List Tr}(h:Jt k l){i:Nat}(hi:i<l.length):D3 k (l.getD i v9):=by rw[O2,G0 hi];exact h _ (iA ..)
def gM(costs:List Tr)(mix:List Q2):Nat->Tr
 | 0=>v9
 |i+1=>cQ (gM costs mix i) (costs.getD i v9) (mix.getD i q0)
theorem vq{costs:List Tr}{mix:List Q2}{k l:Nat}:∀i,(∀j,j<i->D3 k (costs.getD j v9)/\l7 l (mix.getD j q0))->D3 (1+(k+l+1)*i) (gM costs mix i)
 | 0,_=>vm ∅
 |i+1,h=>by
  have h1:=vq i λj hj=>h j ∅
  have h2:=h i ∅;refine(Gm h1 h2.1 h2.2).mono ?_;rw[CN,Nat.mul_one]
  lia
theorem HB(x:Tr):Sh 2 (B8 x):=AI λy hy=>by simp at hy;rcases hy with rfl|rfl|rfl<;>exact ju _
theorem WI(t:Option Q2):Sh 1 (A5 t):=by
 cases t
 . exact Ur.mono #[]
 . exact ju _
theorem lq(h:l7 k q)(hk:k<=8000):X7 [fr q]=some (.dat (.bool true)):=by
 have w:∀i:Int,gC [.int i]=some (.dat (.bool true)):=λi=>by delta gC;symm
 delta X7;symm;rw[w,w];symm;simp only[h.pos];symm;rw[norm_eq h.pos (h.bb.mono hk),Bz h];symm;rw[mh (ju q)];rfl
theorem BM{x:Tr}(h:D3 k x)(hk:k<=8000):cJ [B8 x]=some (.dat (.bool true)):=by delta cJ B8;symm;simp only[D6,iK];symm;rw[lq h.a hk,lq h.b hk,lq h.c hk];rfl
theorem Mg{b c d:Int}(hb:0<b)(hd:0<d):((a:Rat)/(b:Rat)<(c:Rat)/(d:Rat))↔a*d<c*b:=by
 have hb':(0:Rat)<(b:Rat):=by exact_mod_cast hb
 have hd':(0:Rat)<(d:Rat):=by exact_mod_cast hd
 have e1:(a:Rat)/(b:Rat)*((b:Rat)*(d:Rat))=(a:Rat)*(d:Rat):=by grind
 have e2:(c:Rat)/(d:Rat)*((b:Rat)*(d:Rat))=(c:Rat)*(b:Rat):=by grind
 constructor
 . intro h;have:=Ou h (cT hb' hd');rw[e1,e2]at this
   exact_mod_cast this
 . intro h;have h':(a:Rat)*(d:Rat)<(c:Rat)*(b:Rat):=by exact_mod_cast h
   refine Rat.lt_of_mul_lt_mul_right (c:=(b:Rat)*(d:Rat)) ?_ (Rat.le_of_lt (cT hb' hd'));rw[e1,e2];exact h'
theorem jK(hp:0<p.2)(hq:0<q.2):jL p q=decide (val p<val q):=by delta jL val;rw[decide_eq_decide];exact(Mg hp hq).symm
theorem fj:val (0,1)=0:=by rw[val_one];rfl
theorem Vy(hp:0<p.2):p.1<0↔val p<0:=by
 have:=Mg (a:=p.1) (b:=p.2) (c:=0) (d:=1) hp #[];have e:((0:Int):Rat)/((1:Int):Rat)=0:=by rw[show(((0:Int):Rat))=0 from rfl];grind
 rw[e]at this;delta val;rw[this];simp
theorem oB(hp:0<p.2):0<=p.1↔0<=val p:=by
 have:=Vy hp;constructor
 . intro h;exact Rat.not_lt.mp λz=>by have:=this.mpr z;lia
 . intro h;exact Int.not_lt.mp λz=>Rat.not_lt.mpr h (this.mp z)
theorem lp{b:Int}(hb:0<b)(ht:0<=t):0<=(r9 t b).1:=by
 have hg:0<l9 t b:=qy t ∅;have hgi:(0:Int)<gc t b:=by show(0:Int)<((l9 t b:Nat):Int);lia
 delta r9;rw[c9 ∅];show 0<=t.fdiv (gc t b)
 exact Int.fdiv_nonneg ht ∅
theorem nC{k:Int}(hl:ns.length<=63)(hk0:0<=k)(hk1:k<=100000)(l0 : -10<=lo)(lh:lo<=hi)(h1:hi<=10):
  ∃q:Q2,Q1 [L5 ns,.int k,.int lo,.int hi]=some (.dat (fr q))/\l7 14 q/\(0<=lo->0<=q.1)/\FD 30 10000 q:=by
 obtain⟨b',eb,b0',b1'⟩:=K6 (ns:=ns) (k:=k+1900) (m:=6) hl ∅ ∅ #[];obtain⟨b,hb,b0,b1,b30⟩:∃b:Int,K7 [Z0 1,.int 1,.int 1,.int 2,.int 3,.int 10] b'=some (.int b)/\0<b/\b<=10/\b∣30:=by
  have:b'=0\/b'=1\/b'=2\/b'=3\/b'=4\/b'=5:=by lia
  rcases this with rfl|rfl|rfl|rfl|rfl|rfl<;>exact⟨_,rfl,by decide,by decide,by decide⟩
 obtain⟨f',ef,f0',f1'⟩:=K6 (ns:=ns) (k:=1) (m:=6) hl #[] #[] #[];obtain⟨f,hf,f0,f1⟩:∃b:Int,K7 [Z0 1,.int 1,.int 1,.int 1,.int 1,.int 1000] f'=some (.int b)/\0<b/\b<=1000:=by
  have:f'=0\/f'=1\/f'=2\/f'=3\/f'=4\/f'=5:=by lia
  rcases this with rfl|rfl|rfl|rfl|rfl|rfl<;>exact⟨_,rfl,by decide,by decide⟩
 obtain⟨d,ed,d0,d1⟩:=K6 (ns:=ns) (k:=k) (m:=hi-lo+1) hl ∅ ∅ ∅;have c1 : -10<=lo+d:=by lia
 have c2:lo+d<=10:=by lia
 have m1:f*(lo+d)<=10000:=by
  have:f*(lo+d)<=f*10:=fR c2 ∅
  lia
 have m2 : -10000<=f*(lo+d):=by
  have:f*(-10)<=f*(lo+d):=fR c1 ∅
  lia
 delta Q1;symm;rw[eb];symm;rw[hb];symm;rw[ef];symm;rw[hf];symm;rw[ed];symm;rw[o9 (Bt.iS ∅ ∅) (Bt.iS ∅ ∅)];symm;rw[norm_eq b0 (Bt.iS ∅ ∅)];refine⟨_,rfl,cj b0 ⟨by lia⟩ ⟨by lia⟩,λh=>lp b0 (bA ∅ ∅),wm b0 b30 ∅⟩
theorem RR:Bt 200 (10 ^ 60):=⟨by decide +kernel⟩
theorem SH:uu (.int 10) (.int 60)=some (.dat (.int (10 ^ 60))):=Bc ⟨by decide,by decide,by decide⟩
theorem RK{k:Int}(hl:ns.length<=63)(hk0:0<=k)(hk1:k<=50000):∃x:Tr,jn [L5 ns,.int k]=some (.dat (B8 x))/\D3 214 x/\TD (30*10 ^ 60) (10 ^ 64) x:=by
 obtain⟨d1,e1,p1,r1⟩:=K6 (ns:=ns) (k:=k+1) (m:=3) hl ∅ ∅ #[];obtain⟨d3,e3,p3,r3⟩:=K6 (ns:=ns) (k:=k+3) (m:=2) hl ∅ ∅ #[];obtain⟨d6,e6,p6,r6⟩:=K6 (ns:=ns) (k:=k+6) (m:=12) hl ∅ ∅ #[];obtain⟨d7,e7,p7,r7⟩:=K6 (ns:=ns) (k:=k+7) (m:=2) hl ∅ ∅ #[];obtain⟨s2,f2,g2,_,w2⟩:=nC (ns:=ns) (k:=k+2) (lo:=-2) (hi:=3) hl ∅ ∅ #[] #[] #[];obtain⟨s4,f4,g4,_,w4⟩:=nC (ns:=ns) (k:=k+4) (lo:=-2) (hi:=3) hl ∅ ∅ #[] #[] #[];obtain⟨s5,f5,g5,_,w5⟩:=nC (ns:=ns) (k:=k+5) (lo:=-6) (hi:=9) hl ∅ ∅ #[] #[] #[];have Z:l7 14 q0:=bI #[];have first:∃a:Q2,l7 14 a/\FD 30 10000 a/\(if d1=0 then some (Out.next [some (.dat (L5 ns)),iD k,some (.dat (fr s2)),some (.dat (fr q0)),none])else some (Out.next [some (.dat (L5 ns)),iD k,some (.dat (fr q0)),some (.dat (fr q0)),none]))=some (Out.next [some (.dat (L5 ns)),iD k,some (.dat (fr a)),some (.dat (fr q0)),none]):=by
  by_cases c:d1=0
  . exact⟨s2,g2,w2,c7 c⟩
  . exact⟨q0,Z,jA #[],c9 c⟩
 obtain⟨a,ha,wa,ea⟩:=first
 have second:∃b:Q2,l7 14 b/\FD 30 10000 b/\(if d3=0 then some (Out.next [some (.dat (L5 ns)),iD k,some (.dat (fr a)),some (.dat (fr s4)),none])else some (Out.next [some (.dat (L5 ns)),iD k,some (.dat (fr a)),some (.dat (fr q0)),none]))=some (Out.next [some (.dat (L5 ns)),iD k,some (.dat (fr a)),some (.dat (fr b)),none]):=by
  by_cases c:d3=0
  . exact⟨s4,g4,w4,c7 c⟩
  . exact⟨q0,Z,jA #[],c9 c⟩
 obtain⟨b,hb,wb,eb⟩:=second;have up:∀{q:Q2},FD 30 10000 q->FD (30*10 ^ 60) (10 ^ 64) q:=λh=>h.mono ⟨10 ^ 60,rfl⟩ #[]
 have fz:fr q0=dD [.int 0,.int 1]:=rfl;rw[fz]at ea eb;delta jn;symm;rw[e1];symm;rw[f2];symm;rw[ea];symm;rw[e3];symm;rw[f4];symm;rw[eb];symm;rw[f5];symm;rw[e6];symm;by_cases c:d6=0
 . rw[c7 c,e7];symm;rw[o9 Bt.lit (Bt.iS ∅ ∅),SH];symm;rw[SH];symm;rw[o9 (g5.bt.mono #[]) (RR.mono #[])];symm;rw[norm_eq g5.pos (g5.bb.mono #[])];symm;have b7:Bt 214 (2*d7-1):=Bt.iS ∅ ∅;have g7:l9 (2*d7-1) (10 ^ 60)=1:=by
    have:d7=0\/d7=1:=by lia
    rcases this with rfl|rfl
    . show l9 (-1) (10 ^ 60)=1
      rw[CM,Int.one_gcd]
    . show l9 1 (10 ^ 60)=1
      rw[Int.one_gcd]
   refine⟨⟨(2*d7-1,10 ^ 60),b,_⟩,rfl,⟨⟨by show(0:Int)<10 ^ 60;decide,g7,b7,RR.mono #[]⟩,hb.mono #[],cj g5.pos ((g5.bt.mul RR).mono #[]) (g5.bb.mono #[])⟩,⟨⟨by show(0:Int)<10 ^ 60;decide,g7,⟨30,by show(30*10 ^ 60:Int)=10 ^ 60*30;decide⟩,?_⟩,up wb,wm g5.pos (iy w5.dvd ⟨10 ^ 60,rfl⟩) ?_⟩⟩
   . show((2*d7-1).natAbs:Int)<=10 ^ 64*10 ^ 60
     have:((2*d7-1).natAbs:Int)<=1:=by lia
     exact rT this #[]
   . have m5:=w5.tR;rw[aN,Du];have e:((10 ^ 60:Int).natAbs:Int)=10 ^ 60:=by decide
     have:=jC m5 (show(0:Int)<=10 ^ 60 by decide)
     calc (s5.1.natAbs:Int)*((10 ^ 60:Int).natAbs:Int)=(s5.1.natAbs:Int)*10 ^ 60:=by rw[e]
      _<=10000*s5.2*10 ^ 60:=this
      _=10 ^ 64*s5.2:=by rw[Int.mul_right_comm];congr 1
 . rw[c9 c];symm;exact⟨⟨a,b,s5⟩,rfl,⟨ha.mono #[],hb.mono #[],g5.mono #[]⟩,⟨up wa,up wb,up w5⟩⟩
abbrev R5(j:Nat):c5:=.int (j:Int)
abbrev nats(l:List Nat):c5:=.list (l.map R5)
theorem RJ{l:List α}:cutD l none (some (m:Int))=l.take m:=by
 delta cutD;have e:HT.E4 l.length l.length (some (m:Int))=min m l.length:=by
  show(if (m:Int)<0 then((m:Int)+(l.length:Int)).toNat else min (m:Int).toNat l.length)=_
  rw[c9 ∅,Q8]
 rw[e];show(l.drop 0).take (min m l.length-0)=_
 rw[List.drop_zero,Nat.sub_zero,<-List.take_eq_take_min]
theorem vO(d:Nat->Int):∀l:List Nat,keysOf (l.map λi=>.tuple [.int (d i),.int (i:Int)])=some (l.map λi=>[d i,(i:Int)])
 | []=>rfl
 |i::r=>by rw[o5,keysOf,vO d r];rfl
theorem vo(d:Nat->Int){n:Nat}(h0:1<=n)(h1:n<64):∃o:List Nat,jq [.list ((v8 n).map λi=>.tuple [.int (d i),.int (i:Int)])]=some (.own (o.map λi=>.tuple [.int (d i),.int (i:Int)]))/\o.Perm (v8 n):=by
 by_cases c:n<2
 . have:n=1:=by lia
   subst this;exact⟨[0],rfl,List.Perm.refl _⟩
 . have sd:∀l:List c5,jq [.list l]=if l.length<2 then some (.own l)else(keysOf l).bind λks=>if l.length<64/\(∀k∈ks,k≠[])then some (.own ((rh ks).map λi=>l.getD i .none))else none:=λl=>rfl
   rw[sd,c9 (by rw[F9,ku];exact c),vO]
   simp only[i7];rw[c7 ⟨by simpa using h1,λk hk=>by obtain⟨i,_,rfl⟩:=mem_map.mp hk;simp⟩]
   have P:=rf (ks:=(v8 n).map λi=>[d i,(i:Int)]) (by simp;lia)
   rw[F9,ku]at P;refine⟨rh ((v8 n).map λi=>[d i,(i:Int)]),?_,P⟩
   congr 2
   apply xv;intro i hi;have hi':i<n:=mem_range.mp (P.mem_iff.mp hi);rw[O2,P5,ky hi'];rfl
structure YQ(n m:Nat)(fs:List Nat):Prop where
 len:fs.length=m
 nodup:fs.Nodup
 lt:∀j∈fs,j<n
theorem LX{n:Nat}(hl:ns.length<=63)(n0:1<=n)(n1:n<=20)(hm:m<=n):∃fs:List Nat,eJ [L5 ns,.int n,.int m]=some (.own (fs.map R5))/\YQ n m fs:=by
 have D:=λi:Nat=>λh:i<=1000=>K6 (ns:=ns) (k:=40+(i:Int)) (m:=1000) hl ∅ ∅ #[]
 let d:Nat->Int:=λi=>if h:i<=1000 then(D i h).choose else 0
 have hd:∀i,i<n->A6 [L5 ns,.int (40+(i:Int)),.int 1000]=some (.dat (.int (d i))):=λi hi=>by
  have h:i<=1000:=by lia
  show _=some (PV.dat (.int (if h:i<=1000 then(D i h).choose else 0)))
  rw[dif_pos h];exact(D i h).choose_spec.1
 obtain⟨o,eo,po⟩:=vo d n0 ∅;delta eJ;symm;rw[C9 ∅];symm;rw[Q8,qr (f:=λi:Nat=>dD [.int (d i),.int (i:Int)]) (λi hi=>⟨PV.dat (.tuple [.int (d i),.int (i:Int)]),by delta nu;symm;rw[K8,hd i hi];walk_at "r",rfl⟩)]
 symm;rw[c7 (by rw[iV];lia)]
 symm;rw[eo];symm;rw[RJ,<-List.map_take,comp_map (f:=R5) (λi hi=>⟨.dat (R5 i),by delta nt;walk_at "r",rfl⟩)]
 symm;have lo:o.length=n:=by rw[po.length_eq,ku]
 rw[c7 (by rw[F9,pB];lia)]
 symm;refine⟨o.take m,rfl,by rw[pB];lia,?_,?_⟩
 . exact(po.nodup_iff.mpr MU).sublist (Np ..)
 . intro j hj;exact mem_range.mp (po.mem_iff.mp (List.mem_of_mem_take hj))
theorem Hi(fs:List Nat)(j:Nat):(fs.map R5).any (λy=>rH y (R5 j))=decide (j∈fs):=by
 induction fs with
 |nil=>rfl
 |cons i r ih =>
  rw[o5,rZ,ih];have:rH (R5 i) (R5 j)=decide (i=j):=by
   show((i:Int)==(j:Int))=_
   rw[km];simp
   lia
  rw[this];by_cases c1:i=j
  . subst c1;simp
  . by_cases c2:j∈r<;>simp[c1,c2,mM,ie c1]
theorem zC(fs:List Nat):(fs.map R5).all Flat=true:=by simp[Flat]
theorem VD(fs:List Nat)(j:Nat):inD (R5 j) (nats fs)=some (.dat (.bool (decide (j∈fs)))):=by
 show(if Flat (R5 j)=true/\(fs.map R5).all Flat=true then some (PV.dat (.bool ((fs.map R5).any λy=>rH y (R5 j))))else none)=_
 rw[c7 ⟨rfl,zC fs⟩,Hi]
theorem Ip(fs:List Nat)(j:Nat):rk (R5 j) (nats fs)=some (.dat (.bool (!decide (j∈fs)))):=by
 show(if Flat (R5 j)=true/\(fs.map R5).all Flat=true then some (PV.dat (.bool (!(fs.map R5).any λy=>rH y (R5 j))))else none)=_
 rw[c7 ⟨rfl,zC fs⟩,Hi]
theorem Ut{i:Nat}{Fk Fv:DV}{ds:Ds}{l:List c5}{pv:PV}(h1:Fv ds=some pv)(h2:Fk ds=some (.dat (R5 k)))(h3:ds[i]? = some (some (.own l)))(hk:k<l.length):
  X3 i Fk Fv ds=some (.next (ds.set i (some (.own (l.set k pv.d))))):=by
 have e:eO l.length (k:Int)=some k:=by delta eO;rw[c7 ∅,c7 ∅,Q8]
 delta X3;rw[h1,i7,h2,i7,h3];show(eO l.length (k:Int)).bind _=_
 rw[e];rfl
abbrev q1:Q2:=(1,1)
theorem ZC:FD 30 10000 q1:=⟨by decide,by decide,⟨30,by decide⟩,by decide⟩
theorem VH(hm:1<=m):l7 m q1:=jb (Bt.mono (m:=1) ⟨by decide⟩ hm) hm
def oj(D M:Int)(l:List Q2):Prop:=∀q∈l,FD D M q
theorem oj.at{M:Int}{l:List Q2}(h:oj D M l){i:Nat}(hi:i<l.length):FD D M (l.getD i q0):=by rw[O2,G0 hi];exact h _ (iA ..)
theorem oj.snoc{M:Int}{l:List Q2}(h:oj D M l)(hq:FD D M q):oj D M (l++[q]):=λx hx=>by
 rcases List.mem_append.mp hx with hx|hx
 . exact h x hx
 . simp at hx;subst hx;exact hq
theorem oj.set{D M:Int}{l:List Q2}{q:Q2}{i:Nat}(h:oj D M l)(hq:FD D M q):oj D M (l.set i q):=λx hx=>by
 rcases Oi hx with hx|rfl
 . exact h x hx
 . exact hq
structure TQ(n:Nat)(fs:List Nat)(f:Nat)(r:List Q2):Prop where
 len:r.length=n
 all:dJ 14 r
 fd:oj 30 10000 r
 one:r.getD f q0=q1
 vG:∀j∈fs,j≠f->r.getD j q0=q0
structure YL(n:Nat)(fs:List Nat)(rows:List (List Q2)):Prop where
 len:rows.length=fs.length
 row:∀k,k<fs.length->TQ n fs (fs.getD k 0) (rows.getD k [])
theorem getD_snoc{l:List α}{x a:α}{i:Nat}:(l++[x]).getD i a=if i<l.length then l.getD i a else if i=l.length then x else a:=by
 rw[O2,O2,DW];by_cases c:i<l.length
 . rw[c7 c,c7 c]
 . rw[c9 c,c9 c];by_cases c2:i=l.length
   . rw[c7 c2];subst c2;simp
   . rw[c9 c2,lC (by simp;lia)]
     rfl
theorem BO{l:List α}{x a:α}{i:Nat}(h:i<l.length):(l.set i x).getD j a=if i=j then x else l.getD j a:=by
 rw[O2,O2,mW];by_cases c:i=j
 . rw[c7 c,c7 c,c7 h];rfl
 . rw[c9 c,c9 c]
theorem dJ.snoc{l:List Q2}(h:dJ k l)(hq:l7 k q):dJ k (l++[q]):=λx hx=>by
 rcases List.mem_append.mp hx with hx|hx
 . exact h x hx
 . simp at hx;subst hx;exact hq
theorem dJ.set{k:Nat}{l:List Q2}{q:Q2}{i:Nat}(h:dJ k l)(hq:l7 k q):dJ k (l.set i q):=λx hx=>by
 rcases Oi hx with hx|rfl
 . exact h x hx
 . exact hq
theorem QM{f:α->c5}{l:List α}{i:Nat}{x:α}:(l.map f).set i (f x)=(l.set i x).map f:=by rw[List.map_set]
theorem Pk{i n:Nat}{fs:List Nat}{rs:List c5}(hl:ns.length<=63)(hi:i<=100)(hj:j<n)(hn:n<=20)(x7:Option PV)(r:List Q2)(hr:r.length=j):
  ∃q y7,iN [some (.dat (L5 ns)),iD n,some (.dat (nats fs)),some (.own rs),iD (0+(i:Int)),some (.own (r.map fr)),iD (0+(j:Int)),x7]=some (.next [some (.dat (L5 ns)),iD n,some (.dat (nats fs)),some (.own rs),iD (0+(i:Int)),some (.own ((r++[q]).map fr)),iD (0+(j:Int)),y7])/\l7 14 q/\FD 30 10000 q/\(j∈fs->q=q0):=by
 obtain⟨d,ed,d0,d1⟩:=K6 (ns:=ns) (k:=100+20*(i:Int)+(j:Int)) (m:=3) hl ∅ ∅ #[];obtain⟨s,es,fs',_,ws⟩:=nC (ns:=ns) (k:=300+20*(i:Int)+(j:Int)) (lo:=-4) (hi:=6) hl ∅ ∅ #[] #[] #[];have Z:l7 14 q0:=bI #[];have ap:∀(q:Q2) (x6:Option PV),CB (some (.dat (fr q))) 5 [some (.dat (L5 ns)),iD n,some (.dat (nats fs)),some (.own rs),iD (i:Int),some (.own (r.map fr)),x6,some (.dat (fr q))]=some (.next [some (.dat (L5 ns)),iD n,some (.dat (nats fs)),some (.own rs),iD (i:Int),some (.own ((r++[q]).map fr)),x6,some (.dat (fr q))]):=λq x6=>by
  rw[dw (l:=r.map fr) _ rfl (by rw[F9];lia),hV]
  rfl
 delta iN;rw[K8,K8];symm;rw[Ip];symm;rw[o9 Bt.lit (Bt.iS ∅ ∅)];symm;rw[ed];symm;by_cases c:j∈fs
 . simp only[c];symm;rw[show dD [.int 0,.int 1]=fr q0 from rfl,ap]
   exact⟨q0,_,rfl,Z,jA #[],λ_=>rfl⟩
 . by_cases c2:0<d
   . simp only[c,c2];symm;rw[es];symm;rw[ap];exact⟨s,_,rfl,fs',ws,λh=>by first|exact absurd h c|exact h.elim⟩
   . simp only[c,c2];symm;rw[show dD [.int 0,.int 1]=fr q0 from rfl,ap]
     exact⟨q0,_,rfl,Z,jA #[],λ_=>rfl⟩
theorem Ux{n:Nat}{fs:List Nat}(hl:ns.length<=63)(hn:n<=20)(F:YQ n m fs):∃rows:List (List Q2),gi [L5 ns,.int n,nats fs]=some (.own (rows.map N5))/\YL n fs rows:=by
 have hfl:fs.length<=n:=by
  have:=(MU (n:=n)).length_le_of_subset (l₂:=v8 n);have h2:fs.length<=(v8 n).length:=F.nodup.length_le_of_subset λj hj=>mem_range.mpr (F.lt j hj)
  simpa using h2
 delta gi;symm;rw[F9,C9 ∅];symm;obtain⟨ds',h1,rows,R1,R2,y4,y5,y6,y7,rfl⟩:=aZ (gt:=A8 4) (G:=lJ) (lo:=0) (n:=fs.length) (ds:=[some (.dat (L5 ns)),iD n,some (.dat (nats fs)),some (.own []),none,none,none,none])
  (λi ds=>∃rows:List (List Q2),rows.length=i/\(∀k,k<i->TQ n fs (fs.getD k 0) (rows.getD k []))/\∃y4 y5 y6 y7,ds=[some (.dat (L5 ns)),iD n,some (.dat (nats fs)),some (.own (rows.map N5)),y4,y5,y6,y7])
  ⟨[],rfl,λk hk=>by lia,none,none,none,none,rfl⟩ (by
   rintro i ds hi ⟨rows,R1,R2,y4,y5,y6,y7,rfl⟩;have hfi:fs.getD i 0<n:=by rw[O2,G0 hi];exact F.lt _ (iA ..)
   obtain⟨ds',h1,r,r1,r2,rd,r3,z6,z7,rfl⟩:=aZ (gt:=A8 6) (G:=iN) (lo:=0) (n:=n) (ds:=[some (.dat (L5 ns)),iD n,some (.dat (nats fs)),some (.own (rows.map N5)),iD (0+(i:Int)),some (.own []),y6,y7])
    (λj ds=>∃r:List Q2,r.length=j/\dJ 14 r/\oj 30 10000 r/\(∀k∈fs,r.getD k q0=q0)/\∃z6 z7,ds=[some (.dat (L5 ns)),iD n,some (.dat (nats fs)),some (.own (rows.map N5)),iD (0+(i:Int)),some (.own (r.map fr)),z6,z7])
    ⟨[],rfl,λq hq=>by simp at hq,λq hq=>by simp at hq,λk _=>rfl,y6,y7,rfl⟩ (by
     rintro j ds hj ⟨r,r1,r2,rd,r3,z6,z7,rfl⟩;obtain⟨q,y7,e,fq,dq,zq⟩:=Pk (i:=i) (fs:=fs) (rs:=rows.map N5) hl ∅ hj hn z7 r r1;refine⟨_,_,rfl,.inl e,r++[q],by simp[r1],r2.snoc fq,rd.snoc dq,?_,_,_,rfl⟩
     intro k hk;rw[getD_snoc];by_cases c:k<r.length
     . rw[c7 c];exact r3 k hk
     . rw[c9 c];by_cases c2:k=r.length
       . rw[c7 c2];exact zq (by rw[<-r1,<-c2];exact hk)
       . rw[c9 c2])
   have hr:fs.getD i 0<(r.map fr).length:=by rw[F9,r1];exact hfi
   have S:=Ut (i:=5) (k:=fs.getD i 0) (Fk:=c6 i6 (i8 2) (i8 4)) (Fv:=m3 (i9 (fC (.int 1)) (i9 (fC (.int 1)) m6))) (ds:=[some (.dat (L5 ns)),iD n,some (.dat (nats fs)),some (.own (rows.map N5)),iD (0+(i:Int)),some (.own (r.map fr)),z6,z7]) (l:=r.map fr) (pv:=.dat (fr q1)) (by walk_at "r") (by symm;rw[U7 (f:=R5) 0 hi];rfl) rfl hr
   refine⟨_,[some (.dat (L5 ns)),iD n,some (.dat (nats fs)),some (.own ((rows++[r.set (fs.getD i 0) q1]).map N5)),iD (0+(i:Int)),some (.dat (N5 (r.set (fs.getD i 0) q1))),z6,z7],rfl,.inl ?_,rows++[r.set (fs.getD i 0) q1],by simp[R1],?_,_,_,_,_,rfl⟩
   . delta lJ;symm;rw[C9 ∅];symm;rw[Q8,h1];simp only[j9];rw[m8,S];simp only[j9];symm;rw[QM,dw (l:=rows.map N5) _ rfl (by rw[F9];lia),hV]
     rfl
   . intro k hk;rw[getD_snoc];by_cases c:k<rows.length
     . rw[c7 c];exact R2 k ∅
     . have e:k=i:=by lia
       subst e;rw[c9 c,c7 R1.symm];have hf:fs.getD k 0<r.length:=by rw[r1];exact hfi
       refine⟨by rw[mQ,r1],r2.set (VH #[]),rd.set ZC,by rw[BO hf,c7 rfl],λj hj hne=>?_⟩
       rw[BO hf,c9 (λz=>hne z.symm)]
       exact r3 j hj)
 rw[Q8,h1];symm;exact⟨rows,rfl,R1,R2⟩
theorem EH{row mix:List Q2}{l:Nat}(hl:row.length=mix.length)(hn:row.length<=1000)(hr:dJ k row)(hm:dJ l mix)(hB:∀i,i<=row.length->l7 B (qR row mix i))(hk:B+(k+l)<=7998):
  bh [N5 row,N5 mix]=some (.dat (fr (SD row mix))):=by
 delta bh;symm;rw[F9,C9 ∅];symm;obtain⟨ds',h1,y3,rfl⟩:=aZ (gt:=A8 3) (G:=fS) (lo:=0) (n:=row.length) (ds:=[some (.dat (N5 row)),some (.dat (N5 mix)),some (.dat (fr q0)),none])
  (λi ds=>∃y3,ds=[some (.dat (N5 row)),some (.dat (N5 mix)),some (.dat (fr (qR row mix i))),y3]) ⟨none,rfl⟩ (by
   rintro i ds hi ⟨y3,rfl⟩;have fa:=hr.at hi;have fb:=hm.at (i:=i) ∅;have fc:=hB i ∅;refine⟨_,_,rfl,.inl ?_,iD (0+(i:Int)),rfl⟩;delta fS;symm;rw[U7 q0 hi,U7 q0 (show i<mix.length by lia)]
   symm;by_cases z:(row.getD i q0).1=0
   . simp only[z];symm;rw[show qR row mix (i+1)=qR row mix i by
      show P0 _ _=_
      rw[gH fa.pos fb.pos (.inl z),jO fc]]
   . by_cases z':(mix.getD i q0).1=0
     . simp only[z,z'];symm;rw[show qR row mix (i+1)=qR row mix i by
        show P0 _ _=_
        rw[gH fa.pos fb.pos (.inr z'),jO fc]]
     . simp only[z,z'];symm;rw[oF fa fb ∅];symm;rw[xS fc (O9 fa fb) ∅];rfl)
 rw[Q8,h1];symm
def IZ(row mix:List Q2):Nat->Rat
 | 0=>0
 |i+1=>IZ row mix i+val (row.getD i q0)*val (mix.getD i q0)
theorem Fj{row mix:List Q2}{k l:Nat}:∀i,(∀j,j<i->l7 k (row.getD j q0)/\l7 l (mix.getD j q0))->val (qR row mix i)=IZ row mix i
 | 0,_=>fj
 |i+1,h=>by
  have h1:=um i λj hj=>h j ∅
  have h2:=h i ∅;show val (P0 _ _)=_+_
  rw[uh h1.pos (O9 h2.1 h2.2).pos,ny h2.1.pos h2.2.pos,Fj i λj hj=>h j ∅]
theorem neg_eq(q:Q2):dH [fr q]=some (.dat (fr (uG q))):=by delta dH;symm;rfl
def gO(costs:List Tr)(rows:List (List Q2))(prices:List Tr)(j:Nat):Nat->Tr
 | 0=>costs.getD j v9
 |i+1=>cQ (gO costs rows prices j i) (prices.getD i v9) (uG ((rows.getD i []).getD j q0))
abbrev fw(costs:List Tr)(rows:List (List Q2))(prices:List Tr):List Tr:=(v8 costs.length).map λj=>gO costs rows prices j rows.length
theorem Lo{n:Nat}{x y:Tr}(hx:D3 m x)(hy:D3 n y)(hq:l7 k q)(h:q.1=0):cQ x y (uG q)=x:=by
 have z:(uG q).1=0:=by show 0-q.1=0;lia
 have p:=(qc hq).pos;delta cQ;rw[gH hy.a.pos p (.inr z),gH hy.b.pos p (.inr z),gH hy.c.pos p (.inr z),jO hx.a,jO hx.b,jO hx.c]
abbrev m1:Q2:=(-1,1)
structure vc(n m kr kp B:Nat)(costs:List Tr)(rows:List (List Q2))(prices:List Tr):Prop where
 nl:n<=1000
 ml:m<=1000
 cl:costs.length=n
 pl:prices.length=m
 rl:rows.length=m
 rw:∀r∈rows,r.length=n/\dJ kr r
 pf:Jt kp prices
 bf:∀j,j<n->∀i,i<=m->D3 B (gO costs rows prices j i)
 bd:B+(kp+1+kr)<=7998
theorem vc.row{n:Nat}(R:vc n m kr kp B costs rows prices){i:Nat}(hi:i<rows.length):(rows.getD i []).length=n/\dJ kr (rows.getD i []):=by rw[O2,G0 hi];exact R.rw _ (iA ..)
theorem j7{f:Nat->α}{n i:Nat}(a:α)(h:i<n):((v8 n).map f).getD i a=f i:=by rw[O2,P5,ky h];rfl
theorem Lq{n:Nat}(R:vc n m kr kp B costs rows prices):kC [W3 costs,u6 rows,W3 prices]=some (.own ((fw costs rows prices).map B8)):=by
 have nl:=R.nl;have ml:=R.ml;have cl:=R.cl;have rl:=R.rl;have pl:=R.pl;have bd:=R.bd;delta kC;symm;rw[F9,C9 ∅];symm;obtain⟨ds',h1,y4,y5,y6,rfl⟩:=aZ (gt:=A8 4) (G:=jE) (lo:=0) (n:=costs.length) (ds:=[some (.dat (W3 costs)),some (.dat (u6 rows)),some (.dat (W3 prices)),some (.own []),none,none,none])
  (λj ds=>∃y4 y5 y6,ds=[some (.dat (W3 costs)),some (.dat (u6 rows)),some (.dat (W3 prices)),some (.own (((v8 j).map λj=>gO costs rows prices j rows.length).map B8)),y4,y5,y6])
  ⟨none,none,none,rfl⟩ (by
   rintro j ds hj ⟨y4,y5,y6,rfl⟩;obtain⟨ds',h1,y6,rfl⟩:=aZ (gt:=A8 6) (G:=jF) (lo:=0) (n:=rows.length) (ds:=[some (.dat (W3 costs)),some (.dat (u6 rows)),some (.dat (W3 prices)),some (.own (((v8 j).map λj=>gO costs rows prices j rows.length).map B8)),iD (0+(j:Int)),some (.dat (B8 (costs.getD j v9))),y6])
    (λi ds=>∃y6,ds=[some (.dat (W3 costs)),some (.dat (u6 rows)),some (.dat (W3 prices)),some (.own (((v8 j).map λj=>gO costs rows prices j rows.length).map B8)),iD (0+(j:Int)),some (.dat (B8 (gO costs rows prices j i))),y6])
    ⟨y6,rfl⟩ (by
     rintro i ds hi ⟨y6,rfl⟩;obtain⟨r1,r2⟩:=R.row hi;have fq:=r2.at (i:=j) ∅;have fp:=R.pf.at (i:=i) ∅;have fb:=R.bf j ∅ i ∅;refine⟨_,_,rfl,.inl ?_,iD (0+(i:Int)),rfl⟩;delta jF;symm;rw[U7 (f:=N5) [] hi];symm;rw[U7 q0 (show j<(rows.getD i []).length by lia)]
     symm;by_cases z:((rows.getD i []).getD j q0).1=0
     . rw[c9 (λh=>h z)]
       rw[show gO costs rows prices j (i+1)=gO costs rows prices j i from Lo fb fp fq z]
     . rw[c7 z,U7 (f:=B8) v9 (show i<prices.length by lia)]
       symm;rw[neg_eq];symm;rw[Ag fb fp (qc fq) ∅];rfl)
   refine⟨_,[some (.dat (W3 costs)),some (.dat (u6 rows)),some (.dat (W3 prices)),some (.own (((v8 (j+1)).map λj=>gO costs rows prices j rows.length).map B8)),iD (0+(j:Int)),some (.dat (B8 (gO costs rows prices j rows.length))),y6],rfl,.inl ?_,_,_,_,rfl⟩
   delta jE;symm;rw[U7 (f:=B8) v9 hj];symm;rw[F9,C9 ∅];symm;rw[Q8,h1];symm;rw[dw (l:=((v8 j).map λj=>gO costs rows prices j rows.length).map B8) _ rfl (by simp;lia),Dv,hV,hV]
   rfl)
 rw[Q8,h1];symm
end
section
variable{m kr kp B j C kt kg k:Nat}{costs prices rests rts:List Tr}{rows:List (List Q2)}{tp:List (Option Q2)}{init acc y:Tr}
def kX(rests:List Tr)(tp:List (Option Q2))(init:Tr):Nat->Tr
 | 0=>init
 |j+1=>if W6 (rests.getD j v9) v9=true then cQ (kX rests tp init j) (rests.getD j v9) ((tp.getD j none).getD q0)else kX rests tp init j
def Yx(rests:List Tr)(tp:List (Option Q2))(j:Nat):Prop:=¬(W6 (rests.getD j v9) v9=true/\tp.getD j none=none)
def a0f:Option Tr->c5
 |none=>.none
 |some t=>B8 t
open Classical in
def Tq(costs:List Tr)(rows:List (List Q2))(rights:List Q2)(tp:List (Option Q2))(prices:List Tr):Option Tr :=
 if ∀j,j<costs.length->Yx (fw costs rows prices) tp j then some (kX (fw costs rows prices) tp (gM prices rights rights.length) costs.length)else none
structure YR(n m kr kp kg kt B C:Nat)(costs:List Tr)(rows:List (List Q2))(rights:List Q2)(tp:List (Option Q2))(prices:List Tr):Prop where
 r:vc n m kr kp B costs rows prices
 gl:rights.length=m
 tl:tp.length=n
 gf:dJ kg rights
 tf:Jo kt tp
 cf:∀j,j<=n->D3 C (kX (fw costs rows prices) tp (gM prices rights rights.length) j)
 b1:1+(kp+kg+1)*m+(kp+kg)<=7998
 b2:C+(B+kt)<=7998
theorem FK(costs:List Tr)(rows:List (List Q2))(prices:List Tr):(fw costs rows prices).length=costs.length:=by simp[fw]
theorem vc.rt{n:Nat}(R:vc n m kr kp B costs rows prices)(hj:j<n):D3 B ((fw costs rows prices).getD j v9):=by
 rw[j7 v9 (by rw[R.cl];exact hj)]
 exact R.bf j hj _ (by rw[R.rl];exact l5 _)
theorem yw:kX rests tp init (j+1)=if W6 (rests.getD j v9) v9=true then cQ (kX rests tp init j) (rests.getD j v9) ((tp.getD j none).getD q0)else kX rests tp init j:=rfl
theorem EI{rest:Tr}{t:Option Q2}(x0 x1 x2 x4 x7:Option PV)(fb:D3 B rest)(fc:D3 C acc)(ft:∀q,t=some q->l7 kt q)(h:C+(B+kt)<=7998)(hr:rts.getD j v9=rest)(ht:tp.getD j none=t)(jr:j<rts.length)(jt:j<tp.length):
  fN [x0,x1,x2,some (.dat (kF tp)),x4,some (.dat (B8 v9)),some (.dat (B8 acc)),x7,some (.dat (W3 rts)),iD (0+(j:Int))]=if W6 rest v9=true then(match t with|none=>some (.ret (.dat .none))|some q=>some (.next [x0,x1,x2,some (.dat (kF tp)),x4,some (.dat (B8 v9)),some (.dat (B8 (cQ acc rest q))),x7,some (.dat (W3 rts)),iD (0+(j:Int))]))else some (.next [x0,x1,x2,some (.dat (kF tp)),x4,some (.dat (B8 v9)),some (.dat (B8 acc)),x7,some (.dat (W3 rts)),iD (0+(j:Int))]):=by
 delta fN;symm;rw[U7 (f:=B8) v9 jr,hr,U7 (f:=A5) none jt,ht];symm;rw[Co fb (vm (m:=1) #[]) ∅];symm;cases W6 rest v9 with
 |false=>rfl
 |true =>
  symm;cases t with
  |none=>rfl
  |some q =>
   simp only[A5];symm;rw[U7 (f:=B8) v9 jr,hr,U7 (f:=A5) none jt,ht];simp only[A5];symm;rw[Ag fc fb (ft q rfl) ∅];rfl
theorem Lu{n:Nat}{rights:List Q2}(K:YR n m kr kp kg kt B C costs rows rights tp prices):
  gE [W3 costs,u6 rows,N5 rights,kF tp,W3 prices]=some (.dat (a0f (Tq costs rows rights tp prices))):=by
 have nl:=K.r.nl;have ml:=K.r.ml;have cl:=K.r.cl;have pl:=K.r.pl;have rl:=K.r.rl;have gl:=K.gl;have tl:=K.tl;have b1:=K.b1;have b2:=K.b2;have ez:dD [.tuple [.int 0,.int 1],.tuple [.int 0,.int 1],.tuple [.int 0,.int 1]]=B8 v9:=rfl;delta gE;symm;rw[F9,C9 ∅];symm;rw[ez];obtain⟨ds',h1,y7,rfl⟩:=aZ (gt:=A8 7) (G:=jG) (lo:=0) (n:=rows.length) (ds:=[some (.dat (W3 costs)),some (.dat (u6 rows)),some (.dat (N5 rights)),some (.dat (kF tp)),some (.dat (W3 prices)),some (.dat (B8 v9)),some (.dat (B8 v9)),none,none,none])
  (λi ds=>∃y7,ds=[some (.dat (W3 costs)),some (.dat (u6 rows)),some (.dat (N5 rights)),some (.dat (kF tp)),some (.dat (W3 prices)),some (.dat (B8 v9)),some (.dat (B8 (gM prices rights i))),y7,none,none]) ⟨none,rfl⟩ (by
   rintro i ds hi ⟨y7,rfl⟩;have fa:=K.r.pf.at (i:=i) ∅;have fb:=K.gf.at (i:=i) ∅;have fc:=vq (costs:=prices) (mix:=rights) (k:=kp) (l:=kg) i λj hj=>⟨K.r.pf.at ∅,K.gf.at ∅⟩
   have:=xx (kp+kg+1) (show i<=m by lia)
   refine⟨_,_,rfl,.inl ?_,iD (0+(i:Int)),rfl⟩;delta jG;symm;rw[U7 (f:=B8) v9 (show i<prices.length by lia),U7 q0 (show i<rights.length by lia)]
   symm;rw[Ag fc fa fb ∅];rfl)
 rw[Q8,h1];symm;rw[Lq K.r];symm;rw[F9,FK,C9 ∅];symm;rw[Q8];have L:=IX (gt:=A8 9) (G:=fN) (items:=U5 0 costs.length) (ds:=[some (.dat (W3 costs)),some (.dat (u6 rows)),some (.dat (N5 rights)),some (.dat (kF tp)),some (.dat (W3 prices)),some (.dat (B8 v9)),some (.dat (B8 (gM prices rights rights.length))),y7,some (.dat (W3 (fw costs rows prices))),none])
  (Yx (fw costs rows prices) tp) (.dat .none) (λj ds=>∃y9,ds=[some (.dat (W3 costs)),some (.dat (u6 rows)),some (.dat (N5 rights)),some (.dat (kF tp)),some (.dat (W3 prices)),some (.dat (B8 v9)),some (.dat (B8 (kX (fw costs rows prices) tp (gM prices rights rights.length) j))),y7,some (.dat (W3 (fw costs rows prices))),y9]) ⟨none,rfl⟩ (by
   rintro j d ds hj ⟨y9,rfl⟩;obtain⟨j1,rfl⟩:=Uz hj;have j3:j<n:=by lia
   have BD:=EI (some (.dat (W3 costs))) (some (.dat (u6 rows))) (some (.dat (N5 rights))) (some (.dat (W3 prices))) y7 (K.r.rt j3) (K.cf j ∅) (t:=tp.getD j none) (λq hq=>K.tf.at hq) b2 rfl rfl (by rw[FK];lia) (show j<tp.length by lia)
   refine⟨_,rfl,?_⟩;rw[yw];by_cases hc:W6 ((fw costs rows prices).getD j v9) v9=true
   . rw[c7 hc]at BD;rw[c7 hc];cases ht:tp.getD j none with
     |none =>
      rw[ht]at BD;exact .inr ⟨λz=>z ⟨hc,ht⟩,BD⟩
     |some t =>
      rw[ht]at BD;exact .inl ⟨(λz=>by rw[ht]at z;exact absurd z.2 (by simp)),_,BD,_,rfl⟩
   . rw[c9 hc]at BD;rw[c9 hc];exact .inl ⟨λz=>hc z.1,_,BD,_,rfl⟩)
 rw[iV]at L;rw[show rows.length=rights.length by lia]
 delta Tq;rcases L with ⟨a,ds',e,y9,rfl⟩|⟨a,e⟩
 . rw[e,c7 a];symm;rfl
 . rw[e,c9 a];symm;rfl
def p9(f:Nat->Rat):Nat->Rat
 | 0=>0
 |n+1=>p9 f n+f n
theorem C7{f g:Nat->Rat}:∀n,(∀i,i<n->f i=g i)->p9 f n=p9 g n
 | 0,_=>rfl
 |n+1,h=>by
  show p9 f n+f n=p9 g n+g n
  rw[C7 n λi hi=>h i ∅,h n ∅]
theorem ao(f:Nat->Rat)(c:Rat):∀n,p9 f n*c=p9 (λi=>f i*c) n
 | 0=>by show(0:Rat)*c=0;grind
 |n+1=>by
  show(p9 f n+f n)*c=p9 (λi=>f i*c) n+f n*c
  rw[<-ao f c n];grind
theorem AD(f g:Nat->Rat):∀n,p9 (λi=>f i+g i) n=p9 f n+p9 g n
 | 0=>by show(0:Rat)=0+0;grind
 |n+1=>by
  show p9 (λi=>f i+g i) n+(f n+g n)=(p9 f n+f n)+(p9 g n+g n)
  rw[AD f g n];grind
theorem nB:∀n,p9 (λ_=>0) n=0
 | 0=>rfl
 |n+1=>by show p9 (λ_=>0) n+0=0;rw[nB n];grind
theorem yR(f:Nat->Nat->Rat)(m:Nat):∀n,p9 (λj=>p9 (λi=>f i j) m) n=p9 (λi=>p9 (λj=>f i j) n) m
 | 0=>by
  show(0:Rat)=p9 (λi=>0) m
  rw[nB]
 |n+1=>by
  show p9 (λj=>p9 (λi=>f i j) m) n+p9 (λi=>f i n) m=p9 (λi=>p9 (λj=>f i j) n+f i n) m
  rw[yR f m n,AD]
structure Part(π:Tr->Q2):Prop where
 more:∀x y q,π (cQ x y q)=P0 (π x) (D0 (π y) q)
 ok:∀k x,D3 k x->l7 k (π x)
 vG:π v9=q0
theorem Bj:Part Tr.a:=⟨λ_ _ _=>rfl,λ_ _ h=>h.a,rfl⟩
theorem Bi:Part Tr.b:=⟨λ_ _ _=>rfl,λ_ _ h=>h.b,rfl⟩
theorem Bh:Part Tr.c:=⟨λ_ _ _=>rfl,λ_ _ h=>h.c,rfl⟩
theorem Part.ui{π:Tr->Q2}(P:Part π){x:Tr}{q:Q2}{l:Nat}(hx:D3 k x)(hy:D3 l y)(hq:l7 m q):val (π (cQ x y q))=val (π x)+val (π y)*val q:=by rw[P.more,uh (P.ok _ _ hx).pos (O9 (P.ok _ _ hy) hq).pos,ny (P.ok _ _ hy).pos hq.pos]
def NN(a b c:Rat):Prop:=0<a\/(a=0/\(0<b\/(b=0/\0<=c)))
theorem Mx{l:Nat}{x:Tr}(hx:D3 k x)(hy:D3 l y):W6 x y=false↔NN (val x.a-val y.a) (val x.b-val y.b) (val x.c-val y.c):=by
 have key:∀{p q:Q2},l7 k p->l7 l q->(p=q↔val p=val q):=λhp hq=>⟨λe=>by rw[e],λe=>val_inj hp hq e⟩
 delta W6 NN;have ka:=key hx.a hy.a;have kb:=key hx.b hy.b;have kc:=key hx.c hy.c;rw[jK hx.a.pos hy.a.pos,jK hx.b.pos hy.b.pos,jK hx.c.pos hy.c.pos];by_cases c1:x.a=y.a
 . have v1:=ka.mp c1;rw[c9 (λz=>z c1)]
   by_cases c2:x.b=y.b
   . have v2:=kb.mp c2;rw[c9 (λz=>z c2)]
     by_cases c3:x.c=y.c
     . have v3:=kc.mp c3;rw[c9 (λz=>z c3)]
       simp only[true_iff];grind
     . have v3:val x.c≠val y.c:=λz=>c3 (kc.mpr z)
       rw[c7 c3,qw];grind
   . have v2:val x.b≠val y.b:=λz=>c2 (kb.mpr z)
     rw[c7 c2,qw];grind
 . have v1:val x.a≠val y.a:=λz=>c1 (ka.mpr z)
   rw[c7 c1,qw];grind
theorem oN(row mix:List Q2):∀n,IZ row mix n=p9 (λj=>val (row.getD j q0)*val (mix.getD j q0)) n
 | 0=>rfl
 |n+1=>by
  show IZ row mix n+_=p9 _ n+_
  rw[oN row mix n]
theorem Part.JA{π:Tr->Q2}(P:Part π){n m kr kp B:Nat}{costs prices:List Tr}{rows:List (List Q2)}(R:vc n m kr kp B costs rows prices){j:Nat}(hj:j<n):∀i,i<=m->val (π (gO costs rows prices j i))=val (π (costs.getD j v9))-p9 (λi=>val (π (prices.getD i v9))*val ((rows.getD i []).getD j q0)) i
 | 0,_=>by
  show val (π (costs.getD j v9))=_-(0:Rat)
  grind
 |i+1,hi=>by
  obtain⟨r1,r2⟩:=R.row (i:=i) (by rw[R.rl];lia)
  have fq:=r2.at (i:=j) ∅;have fp:=R.pf.at (i:=i) (by rw[R.pl];lia)
  show val (π (cQ _ _ _))=_-(p9 _ i+_)
  rw[P.ui (R.bf j hj i ∅) fp (qc fq),neg_val,P.JA R hj i ∅];grind
theorem Part.Av{π:Tr->Q2}(P:Part π){costs:List Tr}{mix:List Q2}{k l:Nat}:∀i,(∀j,j<i->D3 k (costs.getD j v9)/\l7 l (mix.getD j q0))->val (π (gM costs mix i))=p9 (λj=>val (π (costs.getD j v9))*val (mix.getD j q0)) i
 | 0,_=>by
  show val (π v9)=0
  rw[P.vG,fj]
 |i+1,h=>by
  have h2:=h i ∅;have h1:=vq (costs:=costs) (mix:=mix) (k:=k) (l:=l) i λj hj=>h j ∅
  show val (π (cQ _ _ _))=p9 _ i+_
  rw[P.ui h1 h2.1 h2.2,P.Av i λj hj=>h j ∅]
theorem Part.JB{π:Tr->Q2}(P:Part π){rests:List Tr}{tp:List (Option Q2)}{init:Tr}{B C kt:Nat}:∀i,(∀j,j<=i->D3 C (kX rests tp init j))->(∀j,j<i->D3 B (rests.getD j v9)/\l7 kt ((tp.getD j none).getD q0)) ->
  val (π (kX rests tp init i))=val (π init)+p9 (λj=>if W6 (rests.getD j v9) v9=true then val (π (rests.getD j v9))*val ((tp.getD j none).getD q0)else 0) i
 | 0,_,_=>by
  show val (π init)=val (π init)+0
  grind
 |i+1,hc,h=>by
  have h2:=h i ∅;have ih:=P.JB i (λj hj=>hc j ∅) λj hj=>h j ∅
  show val (π (kX rests tp init (i+1)))=val (π init)+(p9 _ i+if W6 (rests.getD i v9) v9=true then _ else 0)
  rw[yw];by_cases c:W6 (rests.getD i v9) v9=true
  . rw[c7 c,c7 c,P.ui (hc i ∅) h2.1 h2.2,ih];grind
  . rw[c9 c,c9 c,ih];grind
theorem Sy{costs:List Tr}{mix:List Q2}{D E F M N:Int}(hd:E*F∣D)(hM:0<=M)(hN:0<=N):∀i,(∀j,j<i->TD E M (costs.getD j v9)/\FD F N (mix.getD j q0))->TD D (M*N*i) (gM costs mix i)
 | 0,_=>Ww (by simp)
 |i+1,h=>by
  have h1:=Sy (D:=D) hd hM hN i λj hj=>h j ∅
  have h2:=h i ∅;refine(h1.more h2.1 h2.2 hd).mono (bz _) ?_;rw[Dr,iq]
  lia
theorem To{rests:List Tr}{tp:List (Option Q2)}{init:Tr}{D E F M N L:Int}(hd:E*F∣D)(hM:0<=M)(hN:0<=N)(h0:TD D L init):∀i,(∀j,j<i->TD E M (rests.getD j v9)/\∀t,tp.getD j none=some t->FD F N t)->TD D (L+M*N*i) (kX rests tp init i)
 | 0,_=>h0.mono (bz _) (by simp)
 |i+1,h=>by
  have h1:=To (rests:=rests) (tp:=tp) hd hM hN h0 i λj hj=>h j ∅
  have h2:=h i ∅;have hp:=bA hM hN;rw[yw];have e:L+M*N*((i+1:Nat):Int)=L+M*N*i+M*N:=by rw[Dr,iq];lia
  rw[e];split
  . have hf:FD F N ((tp.getD i none).getD q0):=by
      cases ht:tp.getD i none with
      |none=>exact jA hN
      |some t=>exact h2.2 t ht
    exact h1.more h2.1 hf hd
  . exact h1.mono (bz _) ∅
theorem JH{mix:List Q2}{l:Nat}(hl:costs.length=mix.length)(hn:mix.length<=1000)(hc:Jt k costs)(hm:dJ l mix)(hB:∀i,i<=mix.length->D3 B (gM costs mix i))(h:B+(k+l)<=7998):
  bW [W3 costs,N5 mix]=some (.dat (B8 (gM costs mix mix.length))):=by
 delta bW;symm;rw[F9,C9 ∅];symm;obtain⟨ds',h1,y3,rfl⟩:=aZ (gt:=A8 3) (G:=jD) (lo:=0) (n:=mix.length) (ds:=[some (.dat (W3 costs)),some (.dat (N5 mix)),some (.dat (B8 v9)),none])
  (λi ds=>∃y3,ds=[some (.dat (W3 costs)),some (.dat (N5 mix)),some (.dat (B8 (gM costs mix i))),y3]) ⟨none,rfl⟩ (by
   rintro i ds hi ⟨y3,rfl⟩;have fa:=hc.at (i:=i) ∅;have fb:=hm.at hi;have fc:=hB i ∅;refine⟨_,_,rfl,.inl ?_,iD (0+(i:Int)),rfl⟩;delta jD;symm;rw[U7 (f:=B8) v9 (show i<costs.length by lia),U7 q0 hi]
   symm;rw[Ag fc fa fb ∅];rfl)
 rw[Q8,show B8 v9=dD [.tuple [.int 0,.int 1],.tuple [.int 0,.int 1],.tuple [.int 0,.int 1]]from rfl]at *
 rw[h1];symm
end
section
variable{q:Q2}{k j p a t:Nat}
open Sx (sm)
theorem Au{b:Int}(h:0<q.2)(hd:q.2∣b):((wh q b:Int):Rat)=val q*(b:Rat):=by
 have e:=vh h hd;have e':((wh q b:Int):Rat)*(q.2:Rat)=(q.1:Rat)*(b:Rat):=by exact_mod_cast e
 have r:=bK (show q.2≠0 by lia)
 delta val;grind
theorem gz(f:Nat->Int):∀n,((sm n f:Int):Rat)=p9 (λi=>((f i:Int):Rat)) n
 | 0=>rfl
 |n+1=>by
  show((sm n f+f n:Int):Rat)=p9 _ n+_
  rw[Rat.intCast_add,gz f n]
section
variable{P:Sx.Pb}{T:Sx.Tb}
def pick(P:Sx.Pb)(T:Sx.Tb)(g:Nat->Int)(j:Nat):Int:=sm P.m λk=>if T.B k=j then g k else 0
theorem Bf(L:Sx.J7 P T)(g f:Nat->Int):sm P.n (λj=>f j*pick P T g j)=sm P.m λk=>g k*f (T.B k):=by
 have e:sm P.n (λj=>f j*pick P T g j)=sm P.n λj=>sm P.m λk=>if T.B k=j then g k*f j else 0:=Sx.k9 λj _=>by delta pick;rw[<-Sx.C6];exact Sx.k9 λk _=>by split<;>grind
 rw[e,Sx.ou];exact Sx.k9 λk hk=>by rw[Sx.P8 (L.bn k hk) λi _ hi=>c9 λz=>hi z.symm,c7 rfl]
theorem yb(L:Sx.J7 P T)(g:Nat->Int)(hk:k<P.m):pick P T g (T.B k)=g k:=by delta pick;rw[Sx.P8 hk λi hi hik=>c9 λz=>hik (L.inj i k hi hk z),c7 rfl]
theorem sQ(g:Nat->Int)(h:∀k,k<P.m->T.B k≠j):pick P T g j=0:=Sx.gm λk hk=>c9 (h k hk)
def yv(P:Sx.Pb)(T:Sx.Tb)(j:Nat):Int:=(if T.full j=true then T.size*Sx.uv P j else 0)+pick P T (T.am P) j
theorem Sg(L:Sx.J7 P T)(f:Nat->Int):sm P.n (λj=>f j*yv P T j)=T.size*Sx.fsum P T f+sm P.m λk=>T.am P k*f (T.B k):=by
 have e:sm P.n (λj=>f j*yv P T j)=sm P.n λj=>(T.size*(if T.full j=true then Sx.uv P j*f j else 0))+f j*pick P T (T.am P) j:=Sx.k9 λj _=>by delta yv;split<;>grind
 rw[e,Sx.gK,Sx.C6,Bf L];rfl
theorem VZ(K:Sx.Ok P T)(hp:p<P.m):sm P.n (λj=>P.A j p*yv P T j)=T.size*P.b p:=by rw[Sg K.t7,K.t7.Ph hp,K.rt p hp];grind
theorem Wa(K:Sx.Ok P T)(t:Nat):sm P.n (λj=>P.c t j*yv P T j)=T.obj P t:=Sg K.t7 _
theorem Rh(P:Sx.Pb)(T:Sx.Tb)(x y:Int)(f g:Nat->Int):Sx.fsum P T (λj=>x*f j-y*g j)=x*Sx.fsum P T f-y*Sx.fsum P T g:=by delta Sx.fsum;rw[<-Sx.C6,<-Sx.C6,<-Sx.gJ];exact Sx.k9 λj _=>by split<;>grind
theorem Im(K:Sx.Ok P T)(t:Nat):T.obj P t=Sx.dot P.m (T.pr t) P.b+Sx.fsum P T (T.rest P t):=by
 have e1:(sm P.m λk=>T.am P k*P.c t (T.B k))=Sx.dot P.m (T.pr t) T.rt:=by rw[Sx.vC K.t7];exact Sx.k9 λk _=>D4 _ _
 have e2:Sx.dot P.m (T.pr t) T.rt=Sx.dot P.m (T.pr t) P.b-Sx.fsum P T λj=>Sx.dot P.m (T.pr t) (P.A j):=by
  have a:Sx.dot P.m (T.pr t) T.rt=Sx.dot P.m (T.pr t) λp=>P.b p-Sx.fsum P T λj=>P.A j p:=Sx.k9 λp hp=>by rw[K.rt p hp]
  rw[a,Sx.GW]
  congr 1
  delta Sx.dot Sx.fsum;have b:(sm P.m λr=>T.pr t r*sm P.n λj=>if T.full j=true then Sx.uv P j*P.A j r else 0)=sm P.m λr=>sm P.n λj=>if T.full j=true then Sx.uv P j*(T.pr t r*P.A j r)else 0:=Sx.k9 λr _=>by rw[<-Sx.C6];exact Sx.k9 λj _=>by split<;>grind
  rw[b,Sx.ou];exact Sx.k9 λj _=>by
   split
   . rw[Sx.C6]
   . exact Sx.gm λ_ _=>rfl
 have e3:Sx.fsum P T (T.rest P t)=Sx.fsum P T (λj=>T.size*P.c t j-1*Sx.dot P.m (T.pr t) (P.A j)):=Sx.k9 λj _=>by
  split
  . delta Sx.Tb.rest;grind
  . rfl
 delta Sx.Tb.obj;rw[e1,e2,e3,Rh];grind
def vv(P:Sx.Pb)(T:Sx.Tb)(a j:Nat):Int:=(if j=a then T.size else 0)-pick P T (T.g0 P a) j
theorem v_sum(L:Sx.J7 P T)(ha:a<P.n)(f:Nat->Int):sm P.n (λj=>f j*vv P T a j)=f a*T.size-sm P.m λk=>T.g0 P a k*f (T.B k):=by
 have e:sm P.n (λj=>f j*vv P T a j)=sm P.n λj=>(if j=a then f a*T.size else 0)-f j*pick P T (T.g0 P a) j:=Sx.k9 λj _=>by
  delta vv;by_cases z:j=a
  . rw[c7 z,c7 z,z];grind
  . rw[c9 z,c9 z];grind
 rw[e,Sx.gJ,Bf L,Sx.P8 ha λi _ hi=>c9 hi,c7 rfl]
theorem Wo(L:Sx.J7 P T)(ha:a<P.n)(hp:p<P.m):sm P.n (λj=>P.A j p*vv P T a j)=0:=by
 rw[v_sum L ha,show(sm P.m λk=>T.g0 P a k*P.A (T.B k) p)=T.size*P.A a p from L.by (P.A a) hp]
 grind
theorem Wq(L:Sx.J7 P T)(ha:a<P.n)(t:Nat):sm P.n (λj=>P.c t j*vv P T a j)=T.rest P t a:=by rw[v_sum L ha,Sx.nG L];grind
end
section
variable{I:l8}{D E F:Int}{c:Nat}{T:Sx.Tb}
abbrev l8.pb(I:l8):Sx.Pb:=I.A4.pb I.b
theorem xW(H:u7 I D E F)(hp:p<I.m)(hj:j<I.n):((I.pb.A j p:Int):Rat)=val (I.row p j)*(I.sc j:Rat):=by
 show((D8 (I.A4.col j) p:Int):Rat)=_
 rw[Cj I j hp];exact Au (H.row p j hp hj).1.pos ((H.sc hj).2.2.2 p hp)
theorem uW(H:u7 I D E F)(ht:t<3)(hj:j<I.n):((I.pb.c t j:Int):Rat)=val (W4 (I.cost j) t)*(I.sc j:Rat)*(I.mu t:Rat):=by
 show((I.wt t j:Int):Rat)=_
 delta l8.wt;rw[Au (H.wq ht hj).1.pos ((H.mu ht).2.2.2 j hj)];delta l8.wq;rw[ny (H.cost t j ht hj).1.pos (by show(0:Int)<1;decide),val_one]
theorem JY(H:u7 I D E F)(hp:p<I.m):((I.pb.b p:Int):Rat)=val (I.rg p)*(I.un:Rat):=Au (H.rg p hp).1.pos (H.un.2.2.2.1 p hp)
theorem sL(H:u7 I D E F)(hj:j<I.n)(h:I.tp j=some q):((Sx.uv I.pb j:Int):Rat)*(I.sc j:Rat)=val q*(I.un:Rat)/\∃v,I.lim j=some v/\Sx.uv I.pb j=v:=by
 cases hl:I.lim j with
 |none=>rw[da.mpr hl]at h;cases h
 |some v =>
  obtain⟨q',h1,h2,h3⟩:=BB H hj hl;rw[h]at h1;cases h1;have e:Sx.uv I.pb j=v:=by delta Sx.uv;show(I.lim j).getD 0=v;rw[hl];rfl
  refine⟨?_,v,rfl,e⟩;rw[e];have h3':(v:Rat)*((q.2:Rat)*(I.sc j:Rat))=(q.1:Rat)*(I.un:Rat):=by exact_mod_cast h3
  have r:=bK (show q.2≠0 by lia)
  delta val;grind
theorem G5{x:Int}(h:0<x):(0:Rat)<(x:Rat):=by exact_mod_cast h
abbrev fU(I:l8)(T:Sx.Tb)(j:Nat):Q2:=Y3 I.A4 T I.tp I.m j
theorem Gn{j:Nat}:∀i,(∀k,k<i->T.B k≠j)->Y3 I.A4 T I.tp i j=Y3 I.A4 T I.tp 0 j
 | 0,_=>rfl
 |i+1,h=>by
  show(if j=T.B i then _ else Y3 I.A4 T I.tp i j)=_
  rw[c9 λz=>h i ∅ z.symm]
  exact Gn i λk hk=>h k ∅
theorem Gp(L:Sx.J7 I.pb T){k:Nat}(hk:k<I.m):∀i,k<i->i<=I.m->Y3 I.A4 T I.tp i (T.B k)=r9 (T.am (j8 I.A4) k*I.sc (T.B k)) (T.size*I.un)
 | 0,h,_=>absurd h (Nat.not_lt_zero _)
 |i+1,h,hi=>by
  rw[Y3];by_cases z:i=k
  . rw[z,c7 rfl];rfl
  . rw[c9 λy=>z (L.inj i k (by show i<I.m;lia) hk y.symm)]
    exact Gp L hk i ∅ ∅
theorem qd(K:Sx.Ok I.pb T)(hj:j<I.n):(∃k,k<I.m/\T.B k=j/\T.full j=false/\fU I T j=r9 (T.am I.pb k*I.sc j) (T.size*I.un))\/((∀k,k<I.m->T.B k≠j)/\((T.full j=true/\∃q,I.tp j=some q/\fU I T j=q)\/(T.full j=false/\fU I T j=q0))):=by
 by_cases h:∃k,k<I.m/\T.B k=j
 . obtain⟨k,hk,rfl⟩:=h;refine .inl ⟨k,hk,rfl,?_,Gp K.t7 hk I.m hk (l5 _)⟩;cases z:T.full (T.B k)with
   |false=>rfl
   |true=>exact absurd rfl ((K.fu _ hj z).2 k hk)
 . have h':∀k,k<I.m->T.B k≠j:=λk hk z=>h ⟨k,hk,z⟩
   refine .inr ⟨h',?_⟩;have e:fU I T j=Y3 I.A4 T I.tp 0 j:=Gn I.m h';cases z:T.full j with
   |false=>exact .inr ⟨rfl,by rw[e,Y3,c9 (by rw[z];decide)]⟩
   |true =>
    have hl:I.lim j≠none:=(K.fu j hj z).1;cases hq:I.tp j with
    |none=>exact absurd (da.mp hq) hl
    |some q=>exact .inl ⟨rfl,q,rfl,by rw[e,Y3,c7 z,hq];rfl⟩
theorem yh(H:u7 I D E F)(K:Sx.Ok I.pb T)(hj:j<I.n):val (fU I T j)*((T.size:Rat)*(I.un:Rat))=(I.sc j:Rat)*((yv I.pb T j:Int):Rat):=by
 have s0:=G5 K.t7.pos;have u0:=G5 H.un.1;rcases qd K hj with ⟨k,hk,rfl,hf,e⟩|⟨hn,⟨hf,q,hq,e⟩|⟨hf,e⟩⟩
 . rw[e,oo (H0 K.t7.pos H.un.1)];have:yv I.pb T (T.B k)=T.am I.pb k:=by delta yv;rw[c9 (by rw[hf];decide),yb K.t7 _ hk,K8]
   rw[this,cW,cW];have su:=cT s0 u0;have su':(T.size:Rat)*(I.un:Rat)≠0:=by grind
   generalize (T.size:Rat)*(I.un:Rat)=z at su';grind
 . rw[e];have:yv I.pb T j=T.size*Sx.uv I.pb j:=by delta yv;rw[c7 hf,sQ _ hn,mK]
   have:=(sL H hj hq).1;rw[‹yv I.pb T j=_›,cW];grind
 . rw[e];have:yv I.pb T j=0:=by delta yv;rw[c9 (by rw[hf];decide),sQ _ hn,K8]
   rw[this,fj];show(0:Rat)*_=_*0
   grind
theorem QK(H:u7 I D E F)(K:Sx.Ok I.pb T)(hp:p<I.m):p9 (λj=>val (I.row p j)*val (fU I T j)) I.n=val (I.rg p):=by
 have s0:=G5 K.t7.pos;have u0:=G5 H.un.1;have e:p9 (λj=>val (I.row p j)*val (fU I T j)) I.n*((T.size:Rat)*(I.un:Rat))=val (I.rg p)*((T.size:Rat)*(I.un:Rat)):=by
  rw[ao,C7 (g:=λj=>((I.pb.A j p*yv I.pb T j:Int):Rat)) I.n λj hj=>by have:=yh H K hj;rw[cW,xW H hp hj];grind]
  rw[<-gz (λj=>I.pb.A j p*yv I.pb T j),show sm I.n (λj=>I.pb.A j p*yv I.pb T j)=_ from VZ K hp,cW,JY H hp]
  grind
 have:((T.size:Rat)*(I.un:Rat))≠0:=by have:=cT s0 u0;grind
 grind
theorem QL(H:u7 I D E F)(K:Sx.Ok I.pb T)(ht:t<3):p9 (λj=>val (W4 (I.cost j) t)*val (fU I T j)) I.n*((T.size:Rat)*(I.un:Rat)*(I.mu t:Rat))=((T.obj I.pb t:Int):Rat):=by
 rw[ao,C7 (g:=λj=>((I.pb.c t j*yv I.pb T j:Int):Rat)) I.n λj hj=>by have:=yh H K hj;rw[cW,uW H ht hj];grind]
 rw[<-gz (λj=>I.pb.c t j*yv I.pb T j),show sm I.n (λj=>I.pb.c t j*yv I.pb T j)=_ from Wa K t]
end
end
section
variable{p t j:Nat}{k y z m:Rat}{r:Nat->Int}
open Sx (sm)
section
variable{I:l8}{D E F:Int}{c:Nat}{T:Sx.Tb}{a:Nat}
abbrev bX(I:l8)(T:Sx.Tb)(a j:Nat):Q2:=aU I.A4 T a I.m j
theorem EY{j:Nat}:∀i,(∀k,k<i->T.B k≠j)->aU I.A4 T a i j=if j=a then(I.sc a,1)else q0
 | 0,_=>rfl
 |i+1,h=>by
  show(if j=T.B i then _ else aU I.A4 T a i j)=_
  rw[c9 λz=>h i ∅ z.symm]
  exact EY i λk hk=>h k ∅
theorem EZ(L:Sx.J7 I.pb T){k:Nat}(hk:k<I.m):∀i,k<i->i<=I.m->aU I.A4 T a i (T.B k)=r9 (-T.g0 (j8 I.A4) a k*I.sc (T.B k)) T.size
 | 0,h,_=>absurd h (Nat.not_lt_zero _)
 |i+1,h,hi=>by
  rw[aU];by_cases z:i=k
  . rw[z,c7 rfl];rfl
  . rw[c9 λy=>z (L.inj i k (by show i<I.m;lia) hk y.symm)]
    exact EZ L hk i ∅ ∅
theorem pO(L:Sx.J7 I.pb T)(j:Nat):(∃k,k<I.m/\T.B k=j/\bX I T a j=r9 (-T.g0 I.pb a k*I.sc j) T.size)\/((∀k,k<I.m->T.B k≠j)/\bX I T a j=if j=a then(I.sc a,1)else q0):=by
 by_cases h:∃k,k<I.m/\T.B k=j
 . obtain⟨k,hk,rfl⟩:=h;exact .inl ⟨k,hk,rfl,EZ L hk I.m hk (l5 _)⟩
 . have h':∀k,k<I.m->T.B k≠j:=λk hk z=>h ⟨k,hk,z⟩
   exact .inr ⟨h',EY I.m h'⟩
theorem EX(L:Sx.J7 I.pb T)(nb:∀k,k<I.m->T.B k≠a)(j:Nat):val (bX I T a j)*(T.size:Rat)=(I.sc j:Rat)*((vv I.pb T a j:Int):Rat):=by
 have s0:=G5 L.pos;rcases pO (a:=a) L j with ⟨k,hk,rfl,e⟩|⟨hn,e⟩
 . rw[e,oo L.pos];have:vv I.pb T a (T.B k) = -T.g0 I.pb a k:=by delta vv;rw[c9 (nb k hk),yb L _ hk,Int.zero_sub]
   rw[this,cW];grind
 . rw[e];by_cases z:j=a
   . have:vv I.pb T a j=T.size:=by delta vv;rw[c7 z,sQ _ hn,rV]
     rw[this,c7 z,val_one,z]
   . have:vv I.pb T a j=0:=by delta vv;rw[c9 z,sQ _ hn,rV]
     rw[this,c9 z,fj];show(0:Rat)*_=_*0
     grind
theorem An(H:u7 I D E F)(L:Sx.J7 I.pb T)(ha:a<I.n)(nb:∀k,k<I.m->T.B k≠a)(hp:p<I.m):p9 (λj=>val (I.row p j)*val (bX I T a j)) I.n=0:=by
 have s0:=G5 L.pos;have e:p9 (λj=>val (I.row p j)*val (bX I T a j)) I.n*(T.size:Rat)=0:=by
  rw[ao,C7 (g:=λj=>((I.pb.A j p*vv I.pb T a j:Int):Rat)) I.n λj hj=>by have:=EX L nb j;rw[cW,xW H hp hj];grind]
  rw[<-gz (λj=>I.pb.A j p*vv I.pb T a j),show sm I.n (λj=>I.pb.A j p*vv I.pb T a j)=_ from Wo L ha hp]
  rfl
 grind
theorem pP(H:u7 I D E F)(L:Sx.J7 I.pb T)(ha:a<I.n)(nb:∀k,k<I.m->T.B k≠a)(ht:t<3):p9 (λj=>val (W4 (I.cost j) t)*val (bX I T a j)) I.n*((T.size:Rat)*(I.mu t:Rat))=((T.rest I.pb t a:Int):Rat):=by
 rw[ao,C7 (g:=λj=>((I.pb.c t j*vv I.pb T a j:Int):Rat)) I.n λj hj=>by have:=EX L nb j;rw[cW,uW H ht hj];grind]
 rw[<-gz (λj=>I.pb.c t j*vv I.pb T a j),show sm I.n (λj=>I.pb.c t j*vv I.pb T a j)=_ from Wq L ha t]
theorem kK(K:Sx.Ok I.pb T)(En:Sx.O4 I.pb T a)(h:stI I.A4 T a I.m=[]):I.lim a=none/\T.full a=false/\∀k,k<I.m->T.g0 I.pb a k<=0/\(T.g0 I.pb a k<0->I.lim (T.B k)=none):=by
 have no:∀s,s∉stI I.A4 T a I.m:=λs hs=>by rw[h]at hs;cases hs
 have hl:I.lim a=none:=by
  cases z:I.lim a with
  |none=>rfl
  |some v=>exact absurd (U4.mpr (.inl (gq.mpr ⟨v,z,rfl⟩))) (no ⟨v,1,a,none,false⟩)
 have hf:T.full a=false:=by
  cases z:T.full a with
  |false=>rfl
  |true=>exact absurd hl (K.fu a En.an z).1
 have sg:T.sg a=1:=by delta Sx.Tb.sg;rw[hf];rfl
 refine⟨hl,hf,λk hk=>⟨?_,λhp=>?_⟩⟩
 . rcases cI 0 (T.g0 I.pb a k)with z|z
   . exact absurd (U4.mpr (.inr ⟨k,hk,X2.mpr (.inl ⟨by rw[sg,cU];exact z,rfl⟩)⟩)) (no _)
   . exact z
 . cases z:I.lim (T.B k)with
   |none=>rfl
   |some v=>exact absurd (U4.mpr (.inr ⟨k,hk,X2.mpr (.inr ⟨by rw[sg,cU];exact hp,v,z,rfl⟩)⟩)) (no _)
theorem AK{x:Rat}{r:Int}(hk:0<k)(h:x*k=(r:Rat)):(0<x↔0<r)/\(x=0↔r=0)/\(0<=x↔0<=r):=by
 have p1:0<x->0<r:=λz=>by
  have:=cT z hk;rw[h]at this
  exact_mod_cast this
 have p2:x=0->r=0:=λz=>by
  rw[z]at h;have:(r:Rat)=0:=by grind
  exact_mod_cast this
 have p3:x<0->r<0:=λz=>by
  have:=cT (show 0 < -x by grind) hk
  have e : -x*k=((-r:Int):Rat):=by rw[Rat.intCast_neg,<-h];grind
  rw[e]at this;have:0 < -r:=by exact_mod_cast this
  lia
 have tri:x<0\/x=0\/0<x:=by grind
 refine⟨⟨p1,λz=>?_⟩,⟨p2,λz=>?_⟩,⟨λz=>?_,λz=>?_⟩⟩
 . rcases tri with t|t|t
   . have:=p3 t;lia
   . have:=p2 t;lia
   . exact t
 . rcases tri with t|t|t
   . have:=p3 t;lia
   . exact t
   . have:=p1 t;lia
 . rcases tri with t|t|t
   . grind
   . have:=p2 t;lia
   . have:=p1 t;lia
 . rcases tri with t|t|t
   . have:=p3 t;lia
   . grind
   . grind
theorem SM{x l:Rat}(hk:0<k)(hl:0<l)(hm:0<m)(h0:x*k=(r 0:Rat))(h1:y*l=(r 1:Rat))(h2:z*m=(r 2:Rat)):NN x y z↔¬Sx.Neg r:=by
 obtain⟨a1,a2,_⟩:=AK hk h0;obtain⟨b1,b2,_⟩:=AK hl h1;obtain⟨_,_,c3⟩:=AK hm h2;delta NN Sx.Neg;rw[a1,a2,b1,b2,c3]
 lia
theorem Cp{x:Tr}{n:Nat}{l:Rat}(hx:D3 n x)(hk:0<k)(hl:0<l)(hm:0<m)(h0:val x.a*k=(r 0:Rat))(h1:val x.b*l=(r 1:Rat))(h2:val x.c*m=(r 2:Rat)):W6 x v9=true↔Sx.Neg r:=by
 have e:∀r:Rat,r-val q0=r:=λr=>by rw[fj];grind
 have h:=Mx hx (vm (m:=1) #[]);rw[e,e,e,SM hk hl hm h0 h1 h2]at h;cases z:W6 x v9 with
 |false =>
  have:=h.mp z;constructor
  . intro y;cases y
  . exact λy=>absurd y this
 |true =>
  constructor
  . intro _;refine pI λy=>?_
    have:=h.mpr y;rw[z]at this;cases this
  . exact λ_=>rfl
theorem zb(H:u7 I D E F)(L:Sx.J7 I.pb T)(ht:t<3):val (W4 (N4 I.A4 T p) t)*((T.size:Rat)*(I.mu t:Rat))=((T.pr t p:Int):Rat):=by
 have e:W4 (N4 I.A4 T p) t=r9 (T.pr t p) (T.size*I.mu t):=by rcases zh ht with rfl|rfl|rfl<;>rfl
 have s0:=G5 L.pos;have m0:=G5 (H.mu ht).1;have sm:=cT s0 m0;rw[e,oo (H0 L.pos (H.mu ht).1),cW];have sm':(T.size:Rat)*(I.mu t:Rat)≠0:=by grind
 generalize (T.size:Rat)*(I.mu t:Rat)=z at sm';grind
def nE(I:l8)(T:Sx.Tb)(t j:Nat):Rat:=val (W4 (I.cost j) t)-p9 (λp=>val (W4 (N4 I.A4 T p) t)*val (I.row p j)) I.m
theorem pY(H:u7 I D E F)(L:Sx.J7 I.pb T)(ht:t<3)(hj:j<I.n):nE I T t j*((I.sc j:Rat)*(I.mu t:Rat)*(T.size:Rat))=((T.rest I.pb t j:Int):Rat):=by
 have e:p9 (λp=>val (W4 (N4 I.A4 T p) t)*val (I.row p j)) I.m*((I.sc j:Rat)*(I.mu t:Rat)*(T.size:Rat))=((Sx.dot I.m (T.pr t) (I.pb.A j):Int):Rat):=by
  rw[ao,C7 (g:=λp=>((T.pr t p*I.pb.A j p:Int):Rat)) I.m λp hp=>by have:=zb (p:=p) H L ht;rw[cW,xW H hp hj];grind]
  rw[<-gz (λp=>T.pr t p*I.pb.A j p)]
  rfl
 have f:((T.rest I.pb t j:Int):Rat)=((I.pb.c t j:Int):Rat)*(T.size:Rat)-((Sx.dot I.m (T.pr t) (I.pb.A j):Int):Rat):=by
  show((I.pb.c t j*T.size-Sx.dot I.m (T.pr t) (I.pb.A j):Int):Rat)=_
  rw[Rat.intCast_sub,cW]
 delta nE;rw[f,uW H ht hj,<-e];grind
theorem Bb(H:u7 I D E F)(L:Sx.J7 I.pb T)(ht:t<3):p9 (λp=>val (W4 (N4 I.A4 T p) t)*val (I.rg p)) I.m*((T.size:Rat)*(I.un:Rat)*(I.mu t:Rat))=((Sx.dot I.m (T.pr t) I.pb.b:Int):Rat):=by
 rw[ao,C7 (g:=λp=>((T.pr t p*I.pb.b p:Int):Rat)) I.m λp hp=>by have:=zb (p:=p) H L ht;rw[cW,JY H hp];grind]
 rw[<-gz (λp=>T.pr t p*I.pb.b p)]
 rfl
theorem Jm(K:Sx.Ok I.pb T)(ne:∀j,j<I.n->¬Sx.O4 I.pb T j)(hj:j<I.n):(I.lim j=some 0)\/(T.full j=false/\¬Sx.Neg λt=>T.rest I.pb t j)\/(T.full j=true/\(Sx.Neg (λt=>T.rest I.pb t j)\/∀t,t<3->T.rest I.pb t j=0)):=by
 by_cases z:I.lim j=some 0
 . exact .inl z
 . have nn:¬Sx.Neg λt=>T.sg j*T.rest I.pb t j:=λy=>ne j hj ⟨hj,z,y⟩
   cases hf:T.full j with
   |false =>
    have sg:T.sg j=1:=by delta Sx.Tb.sg;rw[hf];rfl
    refine .inr (.inl ⟨rfl,λy=>nn (y.congr λt _=>by rw[sg,cU])⟩)
   |true =>
    have sg:T.sg j = -1:=by delta Sx.Tb.sg;rw[hf];rfl
    refine .inr (.inr ⟨rfl,?_⟩);have nn':¬Sx.Neg λt=>-T.rest I.pb t j:=λy=>nn (y.congr λt _=>by rw[sg,Int.neg_one_mul])
    unfold Sx.Neg at *;simp only at nn' ⊢;by_cases w:T.rest I.pb 0 j=0/\T.rest I.pb 1 j=0/\T.rest I.pb 2 j=0
    . exact .inr λt ht=>by
        rcases zh ht with rfl|rfl|rfl
        . exact w.1
        . exact w.2.1
        . exact w.2.2
    . left;lia
theorem zA(H:u7 I D E F)(K:Sx.Ok I.pb T)(ne:∀j,j<I.n->¬Sx.O4 I.pb T j)(hj:j<I.n){ch:Bool}(hc:ch=true↔Sx.Neg λt=>T.rest I.pb t j):(ch=true->I.tp j≠none)/\∀t,t<3->(if ch=true then nE I T t j*val ((I.tp j).getD q0)else 0)*((T.size:Rat)*(I.un:Rat)*(I.mu t:Rat))=((if T.full j=true then Sx.uv I.pb j*T.rest I.pb t j else 0:Int):Rat):=by
 have u0:=G5 H.un.1;have k:=Jm K ne hj;constructor
 . intro hch ht;have hn:=hc.mp hch;have hl:=da.mp ht;rcases k with k|⟨_,k⟩|⟨kf,_⟩
   . rw[hl]at k;cases k
   . exact k hn
   . exact(K.fu j hj kf).1 hl
 . intro t ht;have rv:=pY H K.t7 ht hj;have tv:val ((I.tp j).getD q0)*(I.un:Rat)=((Sx.uv I.pb j:Int):Rat)*(I.sc j:Rat):=by
    cases htp:I.tp j with
    |none =>
     have:Sx.uv I.pb j=0:=by delta Sx.uv;show(I.lim j).getD 0=0;rw[da.mp htp];rfl
     rw[this];show val q0*_=0*_
     rw[fj];grind
    |some q =>
     have:=(sL H hj htp).1;show val q*_=_
     grind
   have z0:I.lim j=some 0->Sx.uv I.pb j=0:=λz=>by delta Sx.uv;show(I.lim j).getD 0=0;rw[z];rfl
   by_cases hch:ch=true
   . rw[c7 hch];have hn:=hc.mp hch;have e:((if T.full j=true then Sx.uv I.pb j*T.rest I.pb t j else 0:Int))=Sx.uv I.pb j*T.rest I.pb t j:=by
      by_cases hf:T.full j=true
      . rw[c7 hf]
      . rw[c9 hf];rcases k with k|⟨_,k⟩|⟨k,_⟩
        . rw[z0 k,V6]
        . exact absurd hn k
        . exact absurd k hf
     rw[e,cW,<-rv];grind
   . rw[c9 hch];have e:((if T.full j=true then Sx.uv I.pb j*T.rest I.pb t j else 0:Int))=0:=by
      by_cases hf:T.full j=true
      . rw[c7 hf];rcases k with k|⟨k,_⟩|⟨_,k|k⟩
        . rw[z0 k,V6]
        . rw[k]at hf;cases hf
        . exact absurd (hc.mpr k) hch
        . rw[k t ht,K9]
      . rw[c9 hf]
     rw[e];show(0:Rat)*_=0
     grind
theorem EL(H:u7 I D E F)(K:Sx.Ok I.pb T)(ne:∀j,j<I.n->¬Sx.O4 I.pb T j){ch:Nat->Bool}(hc:∀j,j<I.n->(ch j=true↔Sx.Neg λt=>T.rest I.pb t j))(ht:t<3):
  p9 (λp=>val (W4 (N4 I.A4 T p) t)*val (I.rg p)) I.m+p9 (λj=>if ch j=true then nE I T t j*val ((I.tp j).getD q0)else 0) I.n=p9 (λj=>val (W4 (I.cost j) t)*val (fU I T j)) I.n:=by
 have s0:=G5 K.t7.pos;have u0:=G5 H.un.1;have m0:=G5 (H.mu ht).1;have p0:=cT (cT s0 u0) m0;have e1:=Bb H K.t7 ht;have e2:=QL H K ht;have e3:p9 (λj=>if ch j=true then nE I T t j*val ((I.tp j).getD q0)else 0) I.n*((T.size:Rat)*(I.un:Rat)*(I.mu t:Rat))=((Sx.fsum I.pb T (T.rest I.pb t):Int):Rat):=by
  rw[ao,C7 (g:=λj=>((if T.full j=true then Sx.uv I.pb j*T.rest I.pb t j else 0:Int):Rat)) I.n λj hj=>(zA H K ne hj (hc j hj)).2 t ht]
  rw[<-gz (λj=>if T.full j=true then Sx.uv I.pb j*T.rest I.pb t j else 0)]
  rfl
 have e4:((T.obj I.pb t:Int):Rat)=((Sx.dot I.m (T.pr t) I.pb.b:Int):Rat)+((Sx.fsum I.pb T (T.rest I.pb t):Int):Rat):=by rw[Im K t,Rat.intCast_add];rfl
 generalize (T.size:Rat)*(I.un:Rat)*(I.mu t:Rat)=z at *;generalize p9 (λp=>val (W4 (N4 I.A4 T p) t)*val (I.rg p)) I.m=A at *
 generalize p9 (λj=>if ch j=true then nE I T t j*val ((I.tp j).getD q0)else 0) I.n=B at *
 generalize p9 (λj=>val (W4 (I.cost j) t)*val (fU I T j)) I.n=C at *
 have:(A+B-C)*z=0:=by grind
 grind
end
end
section
variable{k p:Nat}{f g:Nat->Q2}
section
variable{I:l8}{D E F:Int}{c:Nat}{T:Sx.Tb}{a:Nat}
abbrev qL(n:Nat)(f:Nat->Q2):List Q2:=(v8 n).map f
abbrev l8.lW(I:l8)(T:Sx.Tb):c5:=.list (rl I.n λj=>fr (fU I T j))
abbrev l8.pQ(I:l8)(T:Sx.Tb)(a:Nat):c5:=.list (rl I.n λj=>fr (bX I T a j))
abbrev l8.HD(I:l8)(p:Nat):List Q2:=qL I.n (I.row p)
abbrev l8.M7(I:l8):List Tr:=(v8 I.n).map I.cost
abbrev l8.kW(I:l8):List Q2:=qL I.m I.rg
abbrev l8.yP(I:l8):List (Option Q2):=(v8 I.n).map I.tp
abbrev l8.Y6(I:l8):List (List Q2):=(v8 I.m).map I.HD
abbrev l8.fA(I:l8)(T:Sx.Tb):List Tr:=(v8 I.m).map (N4 I.A4 T)
theorem rE(n:Nat)(f:Nat->Q2):N5 (qL n f)=.list (rl n λj=>fr (f j)):=by rw[N5,dE];rfl
theorem Az(n:Nat)(f:Nat->Tr):W3 ((v8 n).map f)=.list (rl n λj=>B8 (f j)):=by rw[W3,dE];rfl
theorem Mt(I:l8):I.n8=W3 I.M7:=(Az _ _).symm
theorem HE(I:l8):I.o3=N5 I.kW:=(rE _ _).symm
theorem OL(I:l8):I.u9=kF I.yP:=by rw[kF,dE];rfl
theorem Pj(I:l8):I.u6=u6 I.Y6:=by
 rw[u6,dE];show pe _=.list _
 congr 1
 exact xv λp _=>(rE _ _).symm
theorem all_true(n:Nat):rP [.list (rl n λ_=>.bool true)]=some (.dat (.bool true)):=by
 have:∀l:List Nat,boolsOf (l.map λ_=>PyData.bool true)=some (l.map λ_=>true):=by
  intro l;induction l with
  |nil=>rfl
  |cons x l ih=>rw[o5,boolsOf,ih];rfl
 show(boolsOf _).bind _=_
 rw[this,i7];simp
theorem qi{n:Nat}(hn:n<=1000)(h:∀j,j<n->l7 k (f j))(hk:k<=8000):J6 [.list (rl n λj=>fr (f j)),.int (n:Int),.str "fractions"]=some (.dat (.bool true)):=by
 delta J6;symm;rw[A1];simp only[ne_eq,mV,decide_false,aB,N9];symm;rw[c9 (show ¬(dG "fractions" = dG "triples")from by decide +kernel)]
 symm;rw[c7 (T6 hn),B6 (g:=λ_=>.bool true) λj hj=>⟨_,.dat (.bool true),rfl,by delta kS;symm;exact lq (h j hj) hk,rfl⟩]
 symm;rw[all_true n];rfl
theorem II{n:Nat}{f:Nat->Tr}(hn:n<=1000)(h:∀j,j<n->D3 k (f j))(hk:k<=8000):J6 [.list (rl n λj=>B8 (f j)),.int (n:Int),.str "triples"]=some (.dat (.bool true)):=by
 delta J6;symm;rw[A1];simp only[ne_eq,mV,decide_false,aB,N9];symm;rw[c7 (T6 hn),B6 (g:=λ_=>.bool true) λj hj=>⟨_,.dat (.bool true),rfl,by delta kT;symm;exact BM (h j hj) hk,rfl⟩]
 symm;rw[all_true n];rfl
structure Fits(I:l8)(kr kc kg kt kM kP B C:Nat):Prop where
 n1:I.n<=1000
 m1:I.m<=1000
 row:∀p j,p<I.m->j<I.n->l7 kr (I.row p j)
 cost:∀j,j<I.n->D3 kc (I.cost j)
 rg:∀p,p<I.m->l7 kg (I.rg p)
 tp:∀j q,j<I.n->I.tp j=some q->l7 kt q
 mix:∀T,Sx.Ok I.pb T->∀j,j<I.n->l7 kM (fU I T j)
 way:∀T a,Sx.Ok I.pb T->a<I.n->∀j,j<I.n->l7 kM (bX I T a j)
 pr:∀T,Sx.Ok I.pb T->∀p,p<I.m->D3 kP (N4 I.A4 T p)
 rt:∀T,Sx.Ok I.pb T->∀j,j<I.n->∀i,i<=I.m->D3 B (gO I.M7 I.Y6 (I.fA T) j i)
 fl:∀T,Sx.Ok I.pb T->∀j,j<=I.n->D3 C (kX (fw I.M7 I.Y6 (I.fA T)) I.yP (gM (I.fA T) I.kW I.kW.length) j)
 b1:1+(kr+kM+1)*I.n+(kr+kM)<=7998
 b2:1+(kc+kM+1)*I.n+(kc+kM)<=7998
 b3:B+(kP+1+kr)<=7998
 b4:1+(kP+kg+1)*I.m+(kP+kg)<=7998
 b5:C+(B+kt)<=7998
 b6:kM<=7998/\kP<=7998/\kt<=7998
variable{kr kc kg kt kM kP B C:Nat}
theorem qU{n:Nat}(h:∀j,j<n->l7 k (f j)):dJ k (qL n f):=λq hq=>by obtain⟨j,hj,rfl⟩:=mem_map.mp hq;exact h j (mem_range.mp hj)
theorem OF{n l:Nat}(hf:∀j,j<n->l7 k (f j))(hg:∀j,j<n->l7 l (g j)):val (SD (qL n f) (qL n g))=p9 (λj=>val (f j)*val (g j)) n:=by
 have hl:(qL n f).length=n:=by simp
 delta SD;rw[hl,Fj (k:=k) (l:=l) n λj hj=>by rw[j7 q0 hj,j7 q0 hj];exact⟨hf j hj,hg j hj⟩,oN]
 exact C7 n λj hj=>by rw[j7 q0 hj,j7 q0 hj]
theorem FX(W:Fits I kr kc kg kt kM kP B C)(hp:p<I.m)(hf:∀j,j<I.n->l7 kM (f j)){q:Q2}(hq:l7 k q)(h:p9 (λj=>val (I.row p j)*val (f j)) I.n=val q):
  bh [.list (rl I.n λj=>fr (I.row p j)),.list (rl I.n λj=>fr (f j))]=some (.dat (fr q)):=by
 have n1:=W.n1;have b1:=W.b1;have hl:∀g:Nat->Q2,(qL I.n g).length=I.n:=λg=>by simp
 have hr:∀i,i<=I.n->l7 (1+(kr+kM+1)*I.n) (qR (I.HD p) (qL I.n f) i):=λi hi=>(um (k:=kr) (l:=kM) i λj hj=>by
  rw[j7 q0 (show j<I.n by lia),j7 q0 (show j<I.n by lia)]
  exact⟨W.row p j hp ∅,hf j ∅⟩).mono (by have:=xx (kr+kM+1) hi;lia)
 have e:=EH (row:=I.HD p) (mix:=qL I.n f) (k:=kr) (l:=kM) (B:=1+(kr+kM+1)*I.n) (by rw[hl,hl]) (by rw[hl];exact n1) (qU λj hj=>W.row p j hp hj) (qU hf) (λi hi=>hr i (by rw[hl]at hi;exact hi)) b1
 rw[rE,rE]at e;rw[e];have hv:SD (I.HD p) (qL I.n f)=q:=val_inj (hr _ (by rw[hl];exact l5 _)) hq (by rw[OF (λj hj=>W.row p j hp hj) hf,h])
 rw[hv]
theorem AA(W:Fits I kr kc kg kt kM kP B C)(hf:∀j,j<I.n->l7 kM (f j)):∃x k,bW [I.n8,.list (rl I.n λj=>fr (f j))]=some (.dat (B8 x))/\D3 k x/\k<=7998/\∀t,t<3->val (W4 x t)=p9 (λj=>val (W4 (I.cost j) t)*val (f j)) I.n:=by
 have n1:=W.n1;have b2:=W.b2;have hl:(qL I.n f).length=I.n:=by simp
 have hc:I.M7.length=I.n:=by simp
 have hj:∀i,i<=I.n->∀j,j<i->D3 kc (I.M7.getD j v9)/\l7 kM ((qL I.n f).getD j q0):=λi hi j hj=>by
  rw[j7 q0 (show j<I.n by lia),j7 v9 (show j<I.n by lia)]
  exact⟨W.cost j ∅,hf j ∅⟩
 have hb:∀i,i<=I.n->D3 (1+(kc+kM+1)*I.n) (gM I.M7 (qL I.n f) i):=λi hi=>(vq (k:=kc) (l:=kM) i (hj i hi)).mono (by have:=xx (kc+kM+1) hi;lia)
 have e:=JH (costs:=I.M7) (mix:=qL I.n f) (k:=kc) (l:=kM) (B:=1+(kc+kM+1)*I.n) (by rw[hl,hc]) (by rw[hl];exact n1) (λx hx=>by obtain⟨j,hj,rfl⟩:=mem_map.mp hx;exact W.cost j (mem_range.mp hj)) (qU hf) (λi hi=>hb i (by rw[hl]at hi;exact hi)) b2
 rw[rE,Az,hl]at e;refine⟨_,_,e,hb _ (l5 _),by lia,λt ht=>?_⟩
 have key:∀{π:Tr->Q2},Part π->val (π (gM I.M7 (qL I.n f) I.n))=p9 (λj=>val (π (I.cost j))*val (f j)) I.n:=λ{π} P=>by rw[P.Av (k:=kc) (l:=kM) I.n (hj I.n (l5 _))];exact C7 I.n λj hj=>by rw[j7 q0 hj,j7 v9 hj]
 rcases zh ht with rfl|rfl|rfl
 . exact key Bj
 . exact key Bi
 . exact key Bh
theorem zt(H:u7 I D E F)(G:bO I c)(W:Fits I kr kc kg kt kM kP B C)(K:Sx.Ok I.pb T):iI [I.u6,I.o3,I.u9,I.lW T]=some (.dat (.bool true)):=by
 have n1:=W.n1;obtain⟨ds',h1,y4,rfl⟩:=aZ (gt:=A8 4) (G:=iR) (lo:=0) (n:=I.n) (ds:=[some (.dat I.u6),some (.dat I.o3),some (.dat I.u9),some (.dat (I.lW T)),none])
  (λi ds=>∃y4,ds=[some (.dat I.u6),some (.dat I.o3),some (.dat I.u9),some (.dat (I.lW T)),y4]) ⟨none,rfl⟩ (by
   rintro i ds hi ⟨y4,rfl⟩;refine⟨_,_,rfl,.inl ?_,iD (0+(i:Int)),rfl⟩;have fm:=W.mix T K i hi;have s0:=G5 K.t7.pos;have u0:=G5 H.un.1;have c0:=G5 (H.sc hi).1;have su:=cT s0 u0;have mv:=yh H K hi;have ge:0<=(fU I T i).1:=by
    rcases qd K hi with ⟨k,hk,rfl,hf,e⟩|⟨hn,⟨hf,q,hq,e⟩|⟨hf,e⟩⟩
    . rw[e];exact lp (H0 K.t7.pos H.un.1) (bA (K.lo k hk) (Q7 (H.sc hi).1))
    . rw[e];exact G.t0 i q hi hq
    . rw[e];exact mH _
   delta iR;symm;rw[ow _ hi];symm;rw[c9 (show ¬(fU I T i).1<0 by lia)]
   try walk_at "r"
   try rw[ow _ hi]
   try walk_at "r"
   cases hq:I.tp i with
   |none =>
    simp only[A5];symm
   |some q =>
    have fq:=W.tp i q hi hq;have tv:=(sL H hi hq).1;have under:jL q (fU I T i)=false:=by
     rw[jK fq.pos fm.pos,qw];intro lt;have q0':0<=val q:=(oB fq.pos).mp (G.t0 i q hi hq);obtain⟨v,hv,hu⟩:=(sL H hi hq).2;rcases qd K hi with ⟨k,hk,hB,hf,e⟩|⟨hn,⟨hf,q',hq',e⟩|⟨hf,e⟩⟩
     . have hy:yv I.pb T i=T.am I.pb k:=by delta yv;rw[c9 (by rw[hf];decide),<-hB,yb K.t7 _ hk,K8]
       have hh:=K.hi k v hk (by rw[hB];exact hv)
       have hh':((T.am I.pb k:Int):Rat)<=(v:Rat)*(T.size:Rat):=by exact_mod_cast hh
       have l1:=Ou lt su;rw[mv,hy]at l1;rw[hu]at tv;have l2:=Rat.mul_le_mul_of_nonneg_left hh' (Rat.le_of_lt c0);have e3:(I.sc i:Rat)*((v:Rat)*(T.size:Rat))=val q*((T.size:Rat)*(I.un:Rat)):=by
        rw[show(I.sc i:Rat)*((v:Rat)*(T.size:Rat))=((v:Rat)*(I.sc i:Rat))*(T.size:Rat) by grind,tv]
        grind
       rw[e3]at l2;clear mv e3 tv;generalize val q*((T.size:Rat)*(I.un:Rat))=X at *;generalize (I.sc i:Rat)*((T.am I.pb k:Int):Rat)=Y at *;grind
     . rw[hq]at hq';cases hq';rw[e]at lt;grind
     . rw[e,fj]at lt;grind
    simp only[A5];symm;rw[wH fq fm (by have:=W.b6;lia),under]
    walk_at "r")
 delta iI;symm;rw[A1,C9 (by show -(4611686018427387904)<=(I.n:Int)/\(I.n:Int)<4611686018427387904;lia),Q8]
 symm;rw[h1];symm;rw[c7 (T6 W.m1),B6 (g:=λp=>fr (I.rg p)) λp hp=>⟨_,.dat (fr (I.rg p)),rfl,by delta nr;symm;exact FX W hp (λj hj=>W.mix T K j hj) (W.rg p hp) (QK H K hp),rfl⟩]
 symm;rw[mh (k:=2) (cx λp=>ju _)]
 rfl
theorem LD(H:u7 I D E F)(W:Fits I kr kc kg kt kM kP B C)(K:Sx.Ok I.pb T)(En:Sx.O4 I.pb T a)(he:stI I.A4 T a I.m=[]):iH [I.n8,I.u6,I.u9,I.pQ T a]=some (.dat (.bool true)):=by
 have n1:=W.n1;have ha:a<I.n:=En.an;have nb:∀k,k<I.m->T.B k≠a:=En.nb K.t7;obtain⟨hl,hfu,hp⟩:=kK K En he;have s0:=G5 K.t7.pos;obtain⟨ds',h1,y4,rfl⟩:=aZ (gt:=A8 4) (G:=iQ) (lo:=0) (n:=I.n) (ds:=[some (.dat I.n8),some (.dat I.u6),some (.dat I.u9),some (.dat (I.pQ T a)),none])
  (λi ds=>∃y4,ds=[some (.dat I.n8),some (.dat I.u6),some (.dat I.u9),some (.dat (I.pQ T a)),y4]) ⟨none,rfl⟩ (by
   rintro i ds hi ⟨y4,rfl⟩;refine⟨_,_,rfl,.inl ?_,iD (0+(i:Int)),rfl⟩;have ge:0<=(bX I T a i).1/\(I.tp i≠none->(bX I T a i).1=0):=by
    rcases pO (a:=a) K.t7 i with ⟨k,hk,rfl,e⟩|⟨hn,e⟩
    . obtain⟨p1,p2⟩:=hp k hk;rw[e];refine⟨lp K.t7.pos (bA ∅ (Q7 (H.sc hi).1)),λz=>?_⟩
      have pz:T.g0 I.pb a k=0:=by
       rcases cI (T.g0 I.pb a k) 0 with y|y
       . exact absurd (da.mpr (p2 y)) z
       . lia
      rw[pz];delta r9;show(-0*I.sc (T.B k)).fdiv _=0
      rw[Int.neg_zero,V6,Int.zero_fdiv]
    . rw[e];by_cases z:i=a
      . rw[c7 z];exact⟨Q7 (H.sc ha).1,λy=>absurd (da.mpr (by rw[z];exact hl)) y⟩
      . rw[c9 z];exact⟨mH _,λ_=>rfl⟩
   delta iQ;symm;rw[ow _ hi];symm;rw[c9 (show ¬(bX I T a i).1<0 by lia)]
   try walk_at "r"
   try rw[ow _ hi]
   try walk_at "r"
   cases hq:I.tp i with
   |none =>
    simp only[A5];symm
   |some q =>
    have z:=ge.2 (by rw[hq];exact λy=>by cases y)
    simp only[A5];symm;rw[c9 (λy=>y z)])
 obtain⟨x,k,t1,t2,t3,t4⟩:=AA W λj hj=>W.way T a K ha j hj
 delta iH;symm;rw[A1,C9 ∅,Q8];symm;rw[h1];symm;have z1:D6 k8 k7 iJ [some (.dat I.n8),some (.dat I.u6),some (.dat I.u9),some (.dat (I.pQ T a)),y4] (rl I.m λp=>.list (rl I.n λj=>fr (I.row p j)))=some (rl I.m λ_=>fr q0):=B6 λp hp=>⟨_,.dat (fr q0),rfl,by delta iJ;symm;exact FX W hp (λj hj=>W.way T a K ha j hj) (bI (m:=1) #[]) (by rw[An H K.t7 ha nb hp,fj]),rfl⟩
 have z2:D6 k8 k7 nq [some (.dat I.n8),some (.dat I.u6),some (.dat I.u9),some (.dat (I.pQ T a)),y4] (rl I.m λp=>.list (rl I.n λj=>fr (I.row p j)))=some (rl I.m λ_=>fr q0):=B6 λp hp=>⟨_,.dat (fr q0),rfl,rfl,rfl⟩
 simp only[c7 (T6 W.m1),z1,z2];symm;rw[Bu (k:=2) (cx λp=>ju _)]
 symm;rw[t1];symm;have m0:=λt (ht:t<3)=>cT s0 (G5 (H.mu ht).1)
 have v:=λt (ht:t<3)=>(t4 t ht▸pP H K.t7 ha nb ht:val (W4 x t)*((T.size:Rat)*(I.mu t:Rat))=((T.rest I.pb t a:Int):Rat))
 have ch:W6 x v9=true:=(Cp (r:=λt=>T.rest I.pb t a) t2 (m0 0 #[]) (m0 1 #[]) (m0 2 #[]) (v 0 #[]) (v 1 #[]) (v 2 #[])).mpr (En.neg.congr λt _=>by
  show T.sg a*_=_
  rw[show T.sg a=1 from by delta Sx.Tb.sg;rw[hfu];rfl,cU])
 have cg:=Co t2 (vm (m:=1) #[]) ∅;rw[ch]at cg;rw[show dD [.tuple [.int 0,.int 1],.tuple [.int 0,.int 1],.tuple [.int 0,.int 1]]=B8 v9 from rfl,cg]
 rfl
theorem Zz(W:Fits I kr kc kg kt kM kP B C)(K:Sx.Ok I.pb T):YR I.n I.m kr kP kg kt B C I.M7 I.Y6 I.kW I.yP (I.fA T):=by
 refine⟨⟨W.n1,W.m1,by simp,by simp,by simp,λr hr=>?_,λx hx=>?_,W.rt T K,W.b3⟩,by simp,by simp,qU W.rg,λq hq=>?_,W.fl T K,W.b4,W.b5⟩
 . obtain⟨p,hp,rfl⟩:=mem_map.mp hr;exact⟨by simp,qU λj hj=>W.row p j (mem_range.mp hp) hj⟩
 . obtain⟨p,hp,rfl⟩:=mem_map.mp hx;exact W.pr T K p (mem_range.mp hp)
 . obtain⟨j,hj,e⟩:=mem_map.mp hq;exact W.tp j q (mem_range.mp hj) e
theorem Rk(H:u7 I D E F)(W:Fits I kr kc kg kt kM kP B C)(K:Sx.Ok I.pb T)(ne:∀j,j<I.n->¬Sx.O4 I.pb T j):∃x,gE [I.n8,I.u6,I.o3,I.u9,.list (rl I.m λp=>B8 (N4 I.A4 T p))]=some (.dat (B8 x))/\bW [I.n8,I.lW T]=some (.dat (B8 x)):=by
 have KF:=Zz W K;have R:=KF.r;have cl:I.M7.length=I.n:=by simp
 have rl':I.Y6.length=I.m:=by simp
 have s0:=G5 K.t7.pos;have rL:∀j,j<I.n->(fw I.M7 I.Y6 (I.fA T)).getD j v9=gO I.M7 I.Y6 (I.fA T) j I.m:=λj hj=>by rw[j7 v9 (by rw[cl];exact hj),rl']
 have rv:∀{π:Tr->Q2},Part π->∀j,j<I.n->val (π ((fw I.M7 I.Y6 (I.fA T)).getD j v9))=val (π (I.cost j))-p9 (λp=>val (π (N4 I.A4 T p))*val (I.row p j)) I.m:=λ{π} P j hj=>by
  rw[rL j hj,P.JA R hj I.m (l5 _),j7 v9 hj]
  congr 1
  exact C7 I.m λp hp=>by rw[j7 v9 hp,j7 ([]:List Q2) hp,j7 q0 hj]
 have ch:∀j,j<I.n->(W6 ((fw I.M7 I.Y6 (I.fA T)).getD j v9) v9=true↔Sx.Neg λt=>T.rest I.pb t j):=λj hj=>by
  have c0:=G5 (H.sc hj).1;have pz:=λt (ht:t<3)=>cT (cT c0 (G5 (H.mu ht).1)) s0
  refine Cp (R.rt hj) (pz 0 #[]) (pz 1 #[]) (pz 2 #[]) ?_ ?_ ?_
  . rw[rv Bj j hj];exact pY H K.t7 (t:=0) #[] hj
  . rw[rv Bi j hj];exact pY H K.t7 (t:=1) #[] hj
  . rw[rv Bh j hj];exact pY H K.t7 (t:=2) #[] hj
 obtain⟨x,k,t1,t2,t3,t4⟩:=AA W λj hj=>W.mix T K j hj
 refine⟨x,?_,t1⟩;have e:=Lu KF;rw[Mt,Pj,HE,OL,<-Az I.m (N4 I.A4 T)];refine Eq.trans e ?_;have fl:Tq I.M7 I.Y6 I.kW I.yP (I.fA T)=some (kX (fw I.M7 I.Y6 (I.fA T)) I.yP (gM (I.fA T) I.kW I.kW.length) I.M7.length):=by
  delta Tq;refine c7 λj hj=>?_
  rw[cl]at hj;delta Yx;rintro⟨z1,z2⟩;rw[j7 none hj]at z2;exact(zA H K ne hj (ch j hj)).1 z1 z2
 rw[fl];have gl:I.kW.length=I.m:=by simp
 have FC:=W.fl T K I.n (l5 _);have key:∀{π:Tr->Q2} (t:Nat),t<3->(∀x,π x=W4 x t)->Part π->val (π (kX (fw I.M7 I.Y6 (I.fA T)) I.yP (gM (I.fA T) I.kW I.kW.length) I.M7.length))=val (π x):=λ{π} t ht hπ P=>by
  rw[hπ x,t4 t ht,<-EL H K ne ch ht,cl];rw[P.JB (B:=B) (C:=C) (kt:=max 1 kt) I.n (λj hj=>W.fl T K j hj) λj hj=>⟨R.rt hj,?_⟩]
  . congr 1
    . rw[gl,P.Av (k:=kP) (l:=kg) I.m λp hp=>by rw[j7 v9 hp,j7 q0 hp];exact⟨W.pr T K p hp,W.rg p hp⟩]
      exact C7 I.m λp hp=>by rw[j7 v9 hp,j7 q0 hp,hπ]
    . refine C7 I.n λj hj=>?_
      rw[rv P j hj,j7 none hj];have:val (π (I.cost j))-p9 (λp=>val (π (N4 I.A4 T p))*val (I.row p j)) I.m=nE I T t j:=by
       delta nE;rw[hπ]
       congr 1
       exact C7 I.m λp hp=>by rw[hπ]
      rw[this]
  . rw[j7 none hj];cases hq:I.tp j with
    |none=>exact bI ∅
    |some q=>exact(W.tp j q hj hq).mono ∅
 have ex:∀x y:Tr,x.a=y.a->x.b=y.b->x.c=y.c->x=y:=λx y h1 h2 h3=>by cases x;cases y;simp only at h1 h2 h3;rw[h1,h2,h3]
 rw[cl]at key;have hx:kX (fw I.M7 I.Y6 (I.fA T)) I.yP (gM (I.fA T) I.kW I.kW.length) I.M7.length=x:=by rw[cl];exact ex _ _ (val_inj FC.a t2.a (key 0 #[] (λ_=>rfl) Bj)) (val_inj FC.b t2.b (key 1 #[] (λ_=>rfl) Bi)) (val_inj FC.c t2.c (key 2 #[] (λ_=>rfl) Bh))
 rw[hx];rfl
theorem Jx(H:u7 I D E F)(G:bO I c)(W:Fits I kr kc kg kt kM kP B C){d:c5}(h:Res I d):aR [I.n8,I.u6,I.o3,I.u9,d]=some (.dat (.bool true)):=by
 have n1:=W.n1;have m1:=W.m1;obtain⟨b1,b2,_⟩:=W.b6;cases h with
 | @best T K ne =>
  have l1:J6 [I.lW T,.int (I.n:Int),.str "fractions"]=some (.dat (.bool true)):=qi n1 (W.mix T K) ∅;have l2:J6 [.list (rl I.m λp=>B8 (N4 I.A4 T p)),.int (I.m:Int),.str "triples"]=some (.dat (.bool true)):=II m1 (W.pr T K) ∅
  have mx:=zt H G W K;obtain⟨x,f1,f2⟩:=Rk H W K ne;show aR [I.n8,I.u6,I.o3,I.u9,.tuple [.str "best",I.lW T,.list (rl I.m λp=>B8 (N4 I.A4 T p))]]=_
  delta aR;symm;rw[A1,l1];symm;rw[mx];symm;rw[c9 (show ¬(dG "best" = dG "endless")from by decide +kernel)]
  symm;rw[A1,l2];symm;rw[f1];symm;rw[f2];symm;rw[mh (HB x)];rfl
 | @endless T a K En he =>
  have l1:J6 [I.lW T,.int (I.n:Int),.str "fractions"]=some (.dat (.bool true)):=qi n1 (W.mix T K) ∅;have l2:J6 [I.pQ T a,.int (I.n:Int),.str "fractions"]=some (.dat (.bool true)):=qi n1 (W.way T a K En.an) ∅;have mx:=zt H G W K;have wy:=LD H W K En he;show aR [I.n8,I.u6,I.o3,I.u9,.tuple [.str "endless",I.lW T,I.pQ T a]]=_
  delta aR;symm;rw[A1,l1];symm;rw[mx];symm;rw[l2];symm;rw[wy];symm
end
end
section
variable{D:Int}{k β ω t j:Nat}
theorem vi{M b:Int}{q:Q2}(h:FD D M q)(hd:q.2∣b)(hb:0<b):((wh q b).natAbs:Int)<=M*b:=by
 have e:=vh h.pos hd;have m:=h.tR;have p:=h.pos;have e1:((wh q b).natAbs:Int)*q.2=(q.1.natAbs:Int)*b:=by
  have:=E6 Int.natAbs e;rw[aN,aN]at this;have h2:(((wh q b).natAbs*q.2.natAbs:Nat):Int)=((q.1.natAbs*b.natAbs:Nat):Int):=by rw[this]
  rw[Du,Du,NG (Q7 p),NG (Q7 hb)]at h2;exact h2
 have l:=jC m (Q7 hb);have:q.2*((wh q b).natAbs:Int)<=q.2*(M*b):=by rw[D4 q.2,e1];refine rT l (Int.le_of_eq ?_);rw[D4 M,H9]
 exact xH this p
theorem mz{x M:Int}(h:(x.natAbs:Int)<=M)(b:Bt k M):Bt k x:=b.of_le ∅
section
variable{Q:K3}{T:Sx.Tb}{b:Nat->Int}{c:Nat}
theorem Small.bits(S:Small Q b c)(K:Sx.Ok (Q.pb b) T)(hb:∀p,p<Q.m->Bt β (b p))(hl:∀j v,j<Q.n->Q.lim j=some v->Bt β v)(hw:∀t j,t<3->j<Q.n->Bt ω (Q.wt t j))(h1:1<=β):
  Bt (c*Q.m+1) T.size/\(∀a k,a<Q.n->k<Q.m->Bt (c*Q.m+c+1) (T.g0 (Q.pb b) a k))/\(∀k,k<Q.m->Bt (c*Q.m+(β+c+22)+1) (T.am (Q.pb b) k))/\∀t q,t<3->q<Q.m->Bt (ω+(c*Q.m+12)+10) (T.pr t q):=by
 have L:=K.t7;have inv:∀k q,k<Q.m->q<Q.m->Bt (c*Q.m+12) (T.inv k q):=λk q hk hq=>by
  have h:Sx.sN Q.m (λr=>(Sx.unit q r).natAbs)<2 ^ (1+10):=vx S.m1 λi _=>by delta Sx.unit;split<;>decide
  have:=S.det L hk (x:=Sx.unit q) (d:=11) (ke h);rw[Sx.qp _ hq]at this;exact this
 have rt:∀p,p<Q.m->Bt (β+c+12) (T.rt p):=λp hp=>by
  rw[K.rt p hp];have h1:Bt (β+(c+1)+10) (Sx.fsum (Q.pb b) T λj=>(Q.pb b).A j p):=Bt.sm S.n1 λj hj=>by
   split
   . refine Bt.mul ?_ (S.col hj hp);delta Sx.uv;show Bt β ((Q.lim j).getD 0)
     cases hl':Q.lim j with
     |none=>exact Bt.mono (m:=1) ⟨by decide⟩ h1
     |some v=>exact hl j v hj hl'
   . exact Bt.mono (m:=1) ⟨by decide⟩ ∅
  exact((hb p hp).mono (n:=β+c+11) ∅).sub (h1.mono (n:=β+c+11) ∅)
 refine⟨?_,λa k ha hk=>S.det L hk (x:=D8 (Q.col a)) (d:=c) (S.cn a ha),λk hk=>?_,λt q ht hq=>?_⟩
 . obtain⟨s,h1,h2,h3⟩:=L.sg;exact Bt.sign h1 h2 (yC (m:=Q.m) (c:=c) (d:=0) (k:=Q.m) (M:=T.M (Q.pb b)) (λi hi _=>S.cn _ (L.bn i hi)) (λz=>by lia))
 . have h:Sx.sN Q.m (λr=>(T.rt r).natAbs)<2 ^ (β+c+12+10):=vx S.m1 λp hp=>(rt p hp).lt
   exact S.det L hk (x:=T.rt) (d:=β+c+22) (ke h)
 . rw[L.pr t q hq];exact Bt.sm S.m1 λk hk=>(hw t _ ht (L.bn k hk)).mul (inv k q hk hq)
end
abbrev cE:Int:=3600*10 ^ 60
structure Nums(I:l8):Prop where
 m4:I.m<=4
 SO:I.n<=11
 row:∀p j,p<I.m->j<I.n->l7 14 (I.row p j)/\FD 60 10000 (I.row p j)
 cost:∀j,j<I.n->TD cE (10 ^ 69) (I.cost j)
 rg:∀p,p<I.m->l7 14 (I.rg p)/\FD 60 10000 (I.rg p)
 tp:∀j q,j<I.n->I.tp j=some q->l7 29 q/\FD 60 20000 q
 fs:∀k,k<I.m->I.fs k<I.n
section
variable{I:l8}{T:Sx.Tb}
theorem Sm{M:Int}{x:Tr}(h:TD D M x)(ht:t<3):FD D M (W4 x t):=by
 rcases zh ht with rfl|rfl|rfl
 . exact h.a
 . exact h.b
 . exact h.c
theorem Nums.ZS(N:Nums I)(hj:j<I.n):D3 442 (I.cost j):=(N.cost j hj).ok #[] ⟨by decide +kernel⟩ ⟨by decide +kernel⟩
theorem Nums.ok(N:Nums I):u7 I 60 cE 3600:=by
 have m4:=N.m4;have SO:=N.SO;refine⟨by lia,by lia,by decide,by decide,by decide,Bt.mono (m:=6) ⟨by decide⟩ #[],Bt.mono (m:=212) ⟨by decide +kernel⟩ #[],Bt.mono (m:=12) ⟨by decide⟩ #[],λp j hp hj=>⟨(N.row p j hp hj).1.mono #[],(N.row p j hp hj).2.dvd⟩,λt j ht hj=>?_,λp hp=>⟨(N.rg p hp).1.mono #[],iy (N.rg p hp).2.dvd ⟨60,by decide⟩⟩,λj q hj hq=>⟨(N.tp j q hj hq).1.mono #[],λs hs=>?_⟩,N.fs⟩
 . have f:=Sm (N.cost j hj) ht;exact⟨(f.BS (k:=442) #[] ⟨by decide +kernel⟩ ⟨by decide +kernel⟩).mono #[],f.dvd⟩
 . exact xj (N.tp j q hj hq).2.dvd hs
theorem Nums.cn(N:Nums I)(hj:j<I.n):Sx.sN I.m (λp=>(wh (I.row p j) (I.sc j)).natAbs)<=2 ^ 22:=by
 obtain⟨s1,s2,_,s4⟩:=N.ok.sc hj;have s30:=fP #[] s2;have m4:=N.m4;have one:∀p,p<I.m->(wh (I.row p j) (I.sc j)).natAbs<=600000:=λp hp=>by
  have:=vi (N.row p j hp hj).2 (s4 p hp) s1
  lia
 have:∀k,k<=I.m->Sx.sN k (λp=>(wh (I.row p j) (I.sc j)).natAbs)<=k*600000:=by
  intro k;induction k with
  |zero=>intro _;exact l5 _
  |succ k ih =>
   intro hk;have:=ih ∅;have:=one k ∅;rw[Sx.sN]
   lia
 have:=this I.m (l5 _);have:I.m*600000<=4*600000:=mZ _ m4
 lia
theorem Nums.bits(N:Nums I)(G:bO I 22)(K:Sx.Ok I.pb T):Bt 89 T.size/\(∀a k,a<I.n->k<I.m->Bt 111 (T.g0 I.pb a k))/\(∀k,k<I.m->Bt 160 (T.am I.pb k))/\∀t q,t<3->q<I.m->Bt 560 (T.pr t q):=by
 have H:=N.ok;have m4:=N.m4;obtain⟨u1,u2,u3,u4,u5⟩:=H.un;have un:=fP #[] u2;have S:=l8.side H G;have h:=S.s.bits K (β:=27) (ω:=448) (λp hp=>by
   have:=vi (N.rg p hp).2 (u4 p hp) u1;refine mz (M:=36000000) ?_ ⟨by decide⟩
   show((wh (I.rg p) I.un).natAbs:Int)<=_
   lia) (λj v hj hv=>by
   have hv':I.lim j=some v:=hv;unfold l8.lim at hv';obtain⟨r,hr,rfl⟩:=Option.map_eq_some_iff.mp hv';have rd:=u5 j r hj hr;unfold l8.hq at hr;obtain⟨q,hq,rfl⟩:=Option.map_eq_some_iff.mp hr;obtain⟨s1,s2,_,_⟩:=H.sc hj;have f1:FD 60 1 (1,I.sc j):=⟨s1,by show l9 1 _=1;simp,s2,by show((1:Int).natAbs:Int)<=1*I.sc j;lia⟩
   have f:=(N.tp j q hj hq).2.times f1;have:=vi f rd u1;refine mz (M:=72000000) ?_ ⟨by decide⟩
   lia) (λt j ht hj=>by
   obtain⟨s1,s2,_,_⟩:=H.sc hj;have s30:=fP #[] s2;obtain⟨m1,m2,_,m4⟩:=H.mu ht;have me:=fP H.e0 m2;have f1:FD 1 60 (I.sc j,1):=⟨by show(0:Int)<1;decide,by show l9 _ 1=1;simp,bz _,by show((I.sc j).natAbs:Int)<=60*1;lia⟩
   have f:=(Sm (N.cost j hj) ht).times f1;have w:=vi f (m4 j hj) m1;refine mz (M:=10 ^ 69*60*cE) (rT w (fR me #[])) ⟨by decide +kernel⟩) #[]
 obtain⟨h1,h2,h3,h4⟩:=h;have cm:22*I.m<=88:=by lia
 have e:I.A4.m=I.m:=rfl;rw[e]at h1 h2 h3 h4;exact⟨h1.mono ∅,λa k ha hk=>(h2 a k ha hk).mono ∅,λk hk=>(h3 k hk).mono ∅,λt q ht hq=>(h4 t q ht hq).mono ∅⟩
theorem Nums.fits(N:Nums I)(G:bO I 22):Fits I 14 442 14 29 166 560 2750 920:=by
 have H:=N.ok;have m4:=N.m4;have SO:=N.SO;obtain⟨u1,u2,u3,u4,u5⟩:=H.un;have ub:Bt 12 I.un:=mz (M:=3600) (by have:=fP #[] u2;lia) ⟨by decide⟩
 have sb:∀j,j<I.n->Bt 6 (I.sc j):=λj hj=>mz (M:=60) (by have:=fP #[] (H.sc hj).2.1;have:=(H.sc hj).1;lia) ⟨by decide⟩
 have mb:∀t,t<3->Bt 212 (I.mu t):=λt ht=>mz (M:=cE) (by have:=fP H.e0 (H.mu ht).2.1;have:=(H.mu ht).1;lia) ⟨by decide +kernel⟩
 have prTD:∀T,Sx.Ok I.pb T->∀p,p<I.m->TD (T.size*cE) (2 ^ 560) (N4 I.A4 T p):=λT K p hp=>by
  obtain⟨z1,_,_,z4⟩:=N.bits G K;have one:∀t,t<3->FD (T.size*cE) (2 ^ 560) (r9 (T.pr t p) (T.size*I.mu t)):=λt ht=>by
   have ps:=H0 K.t7.pos (H.mu ht).1;refine wm ps (xj (bz _) (H.mu ht).2.1) ?_;have l:=(z4 t p ht hp).lt;have:((T.pr t p).natAbs:Int)<=2 ^ 560:=by exact_mod_cast ke l
   have q:(2 ^ 560:Int)*1<=2 ^ 560*(T.size*I.mu t):=fR ∅ #[];rw[cH]at q;exact rT this q
  exact⟨one 0 #[],one 1 #[],one 2 #[]⟩
 have prOk:∀T,Sx.Ok I.pb T->∀p,p<I.m->D3 560 (N4 I.A4 T p):=λT K p hp=>by
  obtain⟨z1,_,_,z4⟩:=N.bits G K;have one:∀t,t<3->l7 560 (r9 (T.pr t p) (T.size*I.mu t)):=λt ht=>cj (H0 K.t7.pos (H.mu ht).1) (z4 t p ht hp) ((z1.mul (mb t ht)).mono #[])
  exact⟨one 0 #[],one 1 #[],one 2 #[]⟩
 have rget:∀{p j:Nat},p<I.m->j<I.n->(I.Y6.getD p []).getD j q0=I.row p j:=λ{p j} hp hj=>by rw[j7 ([]:List Q2) hp,j7 q0 hj]
 refine⟨by lia,by lia,λp j hp hj=>(N.row p j hp hj).1,λj hj=>N.ZS hj,λp hp=>(N.rg p hp).1,λj q hj hq=>(N.tp j q hj hq).1,λT K j hj=>?_,λT a K ha j hj=>?_,prOk,λT K j hj i hi=>?_,λT K j hj=>?_,by lia,by lia,by decide,by lia,by decide,by decide⟩
 . obtain⟨z1,_,z3,_⟩:=N.bits G K;rcases qd K hj with ⟨k,hk,rfl,hf,e⟩|⟨hn,⟨hf,q,hq,e⟩|⟨hf,e⟩⟩
   . rw[e];exact cj (H0 K.t7.pos u1) ((z3 k hk).mul (sb _ hj)) ((z1.mul ub).mono #[])
   . rw[e];exact(N.tp j q hj hq).1.mono #[]
   . rw[e];exact bI #[]
 . obtain⟨z1,z2,_,_⟩:=N.bits G K;rcases pO (a:=a) K.t7 j with ⟨k,hk,rfl,e⟩|⟨hn,e⟩
   . rw[e];exact cj K.t7.pos (((z2 a k ha hk).neg.mul (sb _ hj)).mono #[]) (z1.mono #[])
   . rw[e];by_cases z:j=a
     . rw[c7 z];exact jb ((sb a ha).mono #[]) #[]
     . rw[c9 z];exact bI #[]
 . have key:∀i,i<=I.m->D3 (442+575*i) (gO I.M7 I.Y6 (I.fA T) j i):=by
     intro i;induction i with
     |zero=>intro _;show D3 _ (I.M7.getD j v9);rw[j7 v9 hj];exact N.ZS hj
     |succ i ih =>
      intro hi;rw[gO,j7 v9 (show i<I.m by lia),rget ∅ hj]
      exact(Gm (ih ∅) (prOk T K i ∅) (qc (N.row i j ∅ hj).1)).mono ∅
   exact(key i hi).mono ∅
 . have s0:=K.t7.pos;obtain⟨z1,_,_,_⟩:=N.bits G K;have rt:∀j,j<I.n->TD (T.size*cE*60) (10 ^ 69+2 ^ 560*10000*4) ((fw I.M7 I.Y6 (I.fA T)).getD j v9):=λj hj=>by
    have key:∀i,i<=I.m->TD (T.size*cE*60) (10 ^ 69+2 ^ 560*10000*i) (gO I.M7 I.Y6 (I.fA T) j i):=by
     intro i;induction i with
     |zero =>
      intro _;show TD _ _ (I.M7.getD j v9)
      rw[j7 v9 hj];exact(N.cost j hj).mono (Ed (Int.dvd_mul_left _ _)) (by simp)
     |succ i ih =>
      intro hi;rw[gO,j7 v9 (show i<I.m by lia),rget ∅ hj]
      refine((ih ∅).more (prTD T K i ∅) (N.row i j ∅ hj).2.neg (bz _)).mono (bz _) ?_;rw[Dr,iq]
      lia
    rw[j7 v9 (by simpa using hj),show I.Y6.length=I.m by simp]
    exact(key I.m (l5 _)).mono (bz _) (Int.add_le_add_left (fR ∅ #[]) _)
   have gl:I.kW.length=I.m:=by simp
   have s:=Sy (costs:=I.fA T) (mix:=I.kW) (D:=T.size*cE*60) (E:=T.size*cE) (F:=60) (M:=2 ^ 560) (N:=10000) (bz _) #[] #[] I.m λp hp=>by rw[j7 v9 hp,j7 q0 hp];exact⟨prTD T K p hp,(N.rg p hp).2⟩
   have s':TD (T.size*cE*3600) (2 ^ 560*10000*4) (gM (I.fA T) I.kW I.kW.length):=by rw[gl];exact s.mono (xj (bz _) ⟨60,by decide⟩) (fR ∅ #[])
   have f:=To (rests:=fw I.M7 I.Y6 (I.fA T)) (tp:=I.yP) (D:=T.size*cE*3600) (E:=T.size*cE*60) (F:=60) (M:=10 ^ 69+2 ^ 560*10000*4) (N:=20000) ⟨1,by rw[cH,H9 (T.size*cE) 60 60];rfl⟩ #[] #[] s' j λi hi=>⟨rt i ∅,λt ht=>by
    rw[j7 none (show i<I.n by lia)]at ht
    exact(N.tp i t ∅ ht).2⟩
   have M:2 ^ 560*10000*4+(10 ^ 69+2 ^ 560*10000*4)*20000*(j:Int)<=2 ^ 600:=by
    have h1:(10 ^ 69+2 ^ 560*10000*4)*20000*(j:Int)<=(10 ^ 69+2 ^ 560*10000*4)*20000*11:=fR ∅ #[];have h2:(2 ^ 560*10000*4+(10 ^ 69+2 ^ 560*10000*4)*20000*11:Int)<=2 ^ 600:=by decide
    lia
   have db:Bt 313 (T.size*cE*3600):=(((z1.mul (⟨by decide +kernel⟩:Bt 212 cE))).mul (⟨by decide⟩:Bt 12 3600))
   exact(f.mono (bz _) M).ok (H0 (H0 s0 #[]) #[]) (db.mono #[]) (((⟨by decide +kernel⟩:Bt 601 (2 ^ 600)).mul db).mono #[])
end
end
section
variable{t k lo hi D:Int}{ns:List Int}{α ζ:Type}{m j:Nat}{p q r:Q2}
theorem QP{b:Int}(hb:0<b):(0<=t->0<=(r9 t b).1)/\(t<=0->(r9 t b).1<=0)/\(t<0->(r9 t b).1<0):=by
 obtain⟨e1,_,e3,_⟩:=bG (t:=t) hb;generalize (r9 t b).1=x at *;generalize (r9 t b).2=y at *;refine⟨λh=>?_,λh=>?_,λh=>?_⟩
 . have:=bA h (Q7 e1);rcases cI x 0 with z|z
   . have:=sC z hb;lia
   . exact z
 . have:=Ek h (Q7 e1);rcases cI 0 x with z|z
   . have:=H0 z hb;lia
   . exact z
 . have:=sC h e1;rcases cI x 0 with z|z
   . exact z
   . have:=bA z (Q7 hb);lia
theorem xV(hl:ns.length<=63)(hk0:0<=k)(hk1:k<=100000)(l0 : -10<=lo)(lh:lo<=hi)(h1:hi<=10):
  ∃q:Q2,Q1 [L5 ns,.int k,.int lo,.int hi]=some (.dat (fr q))/\l7 14 q/\FD 30 10000 q/\(0<=lo->0<=q.1)/\(hi<=0->q.1<=0)/\(hi<0->q.1<0):=by
 obtain⟨b',eb,b0',b1'⟩:=K6 (ns:=ns) (k:=k+1900) (m:=6) hl ∅ ∅ #[];obtain⟨b,hb,b0,b1,b30⟩:∃b:Int,K7 [Z0 1,.int 1,.int 1,.int 2,.int 3,.int 10] b'=some (.int b)/\0<b/\b<=10/\b∣30:=by
  have:b'=0\/b'=1\/b'=2\/b'=3\/b'=4\/b'=5:=by lia
  rcases this with rfl|rfl|rfl|rfl|rfl|rfl<;>exact⟨_,rfl,by decide,by decide,by decide⟩
 obtain⟨f',ef,f0',f1'⟩:=K6 (ns:=ns) (k:=1) (m:=6) hl #[] #[] #[];obtain⟨f,hf,f0,f1⟩:∃b:Int,K7 [Z0 1,.int 1,.int 1,.int 1,.int 1,.int 1000] f'=some (.int b)/\0<b/\b<=1000:=by
  have:f'=0\/f'=1\/f'=2\/f'=3\/f'=4\/f'=5:=by lia
  rcases this with rfl|rfl|rfl|rfl|rfl|rfl<;>exact⟨_,rfl,by decide,by decide⟩
 obtain⟨d,ed,d0,d1⟩:=K6 (ns:=ns) (k:=k) (m:=hi-lo+1) hl ∅ ∅ ∅;have c1 : -10<=lo+d:=by lia
 have c2:lo+d<=10:=by lia
 have m1:f*(lo+d)<=10000:=by
  have:f*(lo+d)<=f*10:=fR c2 ∅
  lia
 have m2 : -10000<=f*(lo+d):=by
  have:f*(-10)<=f*(lo+d):=fR c1 ∅
  lia
 delta Q1;symm;rw[eb];symm;rw[hb];symm;rw[ef];symm;rw[hf];symm;rw[ed];symm;rw[o9 (Bt.iS ∅ ∅) (Bt.iS ∅ ∅)];symm;rw[norm_eq b0 (Bt.iS ∅ ∅)];obtain⟨n1,n2,n3⟩:=QP (t:=f*(lo+d)) b0;exact⟨_,rfl,cj b0 ⟨by lia⟩ ⟨by lia⟩,wm b0 b30 ∅,λh=>n1 (bA ∅ ∅),λh=>n2 (wJ ∅ ∅),λh=>n3 (Oj f0 ∅)⟩
theorem Yz{g:α->c5}{f:Nat->α}{i:Nat}{q:α}(h:f i=q):rl i (λj=>g (f j))++[g q]=rl (i+1) λj=>g (f j):=by rw[<-xX,h]
theorem uZ(g:α->c5)(P:Nat->α->Prop)(a0:α){gt:c5->Ds->Option Ds}{G:DO}{n:Nat}{mk:List c5->ζ->Ds}(z0:ζ)(hs:∀i,i<n->∃q,P i q/\∀(l:List c5) (z:ζ),l.length=i->∃ds1 z',gt (.int (0+(i:Nat))) (mk l z)=some ds1/\G ds1=some (.next (mk (l++[g q]) z'))):
  ∃f:Nat->α,(∀i,i<n->P i (f i))/\∃z',M5 gt G (U5 0 n) (mk [] z0)=some (.next (mk (rl n λi=>g (f i)) z')):=by
 let f:Nat->α:=λi=>open Classical in if h:i<n then(hs i h).choose else a0
 have hf:∀i,(h:i<n)->f i=(hs i h).choose:=λi h=>dif_pos h
 refine⟨f,λi hi=>by rw[hf i hi];exact(hs i hi).choose_spec.1,?_⟩
 obtain⟨ds',h1,z',rfl⟩:=aZ (gt:=gt) (G:=G) (lo:=0) (n:=n) (ds:=mk [] z0) (λi ds=>∃z',ds=mk (rl i λi=>g (f i)) z') ⟨z0,rfl⟩ (by
  rintro i ds hi ⟨z,rfl⟩;obtain⟨ds1,z',e1,e2⟩:=(hs i hi).choose_spec.2 (rl i λi=>g (f i)) z (A1 _ _)
  refine⟨ds1,_,e1,.inl e2,z',?_⟩;rw[Yz (hf i hi)])
 exact⟨z',h1⟩
theorem hJ{i:Nat}{ds:Ds}{l:List c5}{d:c5}(h:ds[i]? = some (some (.own l)))(hl:l.length<1000):CB (some (.dat d)) i ds=some (.next (ds.set i (some (.own (l++[d]))))):=dw _ h ∅
def TR(_:Nat)(q:Q2):Prop:=l7 14 q/\FD 30 10000 q/\0<=q.1
theorem Pl(hl:ns.length<=63)(hm:m<=20):∃f:Nat->Q2,eI [L5 ns,.int m]=some (.own (rl m λi=>fr (f i)))/\∀i,i<m->TR i (f i):=by
 obtain⟨f,hf,z',e⟩:=uZ fr TR q0 (gt:=A8 3) (G:=iO) (n:=m) (ζ:=Option PV×Option PV) (mk:=λl z=>[some (.dat (L5 ns)),iD m,some (.own l),z.1,z.2]) (none,none) λi hi=>by
  obtain⟨d,ed,d0,d1⟩:=K6 (ns:=ns) (k:=500+(i:Int)) (m:=3) hl ∅ ∅ #[];obtain⟨s,es,sf,sd,s0,_,_⟩:=xV (ns:=ns) (k:=510+(i:Int)) (lo:=0) (hi:=9) hl ∅ ∅ #[] #[] #[];refine⟨if 0<d then s else q0,by split;exact⟨sf,sd,s0 #[]⟩;exact⟨bI #[],jA #[],mH _⟩,λl z hl=>⟨_,(iD (0+(i:Int)),some (.dat (fr (if 0<d then s else q0)))),rfl,?_⟩⟩
  delta iO;rw[K8];symm;rw[ed];symm;by_cases c:0<d
  . rw[c7 c,c7 c,es];symm;rw[hJ (l:=l) rfl ∅];rfl
  . rw[c9 c,c9 c];symm;exact hJ (l:=l) (d:=fr q0) rfl ∅
 refine⟨f,?_,hf⟩;delta eI;symm;rw[C9 ∅];symm;rw[Q8,e];symm
theorem yp{fs:Nat->Nat}(h:∃k,k<m/\fs k=j)(hl:m<=1000):∃i,jQ (.list (rl m λk=>.int (fs k:Int))) [R5 j]=some (.dat (R5 i))/\i<m/\fs i=j:=by
 have e:intsOf (rl m λk=>.int (fs k:Int))=some ((v8 m).map λk=>(fs k:Int)):=ints_map (λk=>(fs k:Int)) _
 show ∃i:Nat,((intsOf (rl m λk=>.int (fs k:Int))).bind λns=>if ((j:Int))∈ns/\ns.length<=1000000 then some (PV.dat (.int (ns.idxOf (j:Int):Nat)))else none)=_/\_
 rw[e];simp only[i7];have hj:(j:Int)∈(v8 m).map (λk=>(fs k:Int)):=by obtain⟨k,hk,rfl⟩:=h;exact mem_map.mpr ⟨k,mem_range.mpr hk,rfl⟩
 rw[c7 ⟨hj,by rw[F9,ku];lia⟩]
 have hi:=List.idxOf_lt_length_of_mem hj;have hi':((v8 m).map λk=>(fs k:Int)).idxOf (j:Int)<m:=by simpa using hi
 refine⟨_,rfl,hi',?_⟩;have:=Nw hi;rw[MV,Nr]at this
 exact_mod_cast this
theorem IM(m j:Nat)(fs:Nat->Nat):inD (R5 j) (.list (rl m λk=>.int (fs k:Int)))=some (.dat (.bool (decide (∃k,k<m/\fs k=j)))):=by
 have e:pe (rl m λk=>.int (fs k:Int))=nats ((v8 m).map fs):=by rw[nats,dE];rfl
 rw[e,VD]
 congr 3
 simp
theorem Yf(hp:0<p.2)(hq:0<q.2)(h:val p<=val q):p.1*q.2<=q.1*p.2:=by
 have:=jK hq hp;unfold jL at this;rw[decide_eq_decide]at this;have n:¬val q<val p:=by grind
 have k:¬(q.1*p.2<p.1*q.2):=λz=>n (this.mp z)
 lia
def Hj(m:Nat)(fs:Nat->Nat)(rg:Nat->Q2)(j:Nat)(t:Option Q2):Prop:=∀q,t=some q->l7 29 q/\FD 30 20000 q/\0<=q.1/\∀k,k<m->fs k=j->(rg k).1*q.2<=q.1*(rg k).2
theorem Be{s:Q2}(hs:l7 14 s)(hr:l7 14 r)(ds:FD 30 10000 s)(dr:FD 30 10000 r)(s0:0<=s.1)(r0:0<=r.1):l7 29 (P0 s r)/\FD 30 20000 (P0 s r)/\0<=(P0 s r).1/\r.1*(P0 s r).2<=(P0 s r).1*r.2:=by have f:=jP hs hr;have v:=uh hs.pos hr.pos;have s0':=(oB hs.pos).mp s0;have r0':=(oB hr.pos).mp r0;exact⟨f,ds.plus dr,(oB f.pos).mpr (by rw[v];grind),Yf hr.pos f.pos (by rw[v];grind)⟩
theorem Wt{n:Nat}{fs:Nat->Nat}{rg:Nat->Q2}(hl:ns.length<=63)(hn:n<=20)(hm:m<=20)(inj:∀k l,k<m->l<m->fs k=fs l->k=l)(hr:∀i,i<m->TR i (rg i)):
  ∃f:Nat->Option Q2,jm [L5 ns,.int n,.list (rl m λk=>.int (fs k:Int)),.list (rl m λi=>fr (rg i))]=some (.own (rl n λj=>A5 (f j)))/\∀j,j<n->Hj m fs rg j (f j):=by
 obtain⟨f,hf,z',e⟩:=uZ A5 (Hj m fs rg) none (gt:=A8 5) (G:=eN) (n:=n) (ζ:=Option PV×Option PV) (mk:=λl z=>[some (.dat (L5 ns)),iD n,some (.dat (.list (rl m λk=>.int (fs k:Int)))),some (.dat (.list (rl m λi=>fr (rg i)))),some (.own l),z.1,z.2]) (none,none) λj hj=>by
  obtain⟨d,ed,d0,d1⟩:=K6 (ns:=ns) (k:=520+(j:Int)) (m:=3) hl ∅ ∅ #[];obtain⟨s,es,sf,sd,s0,_,_⟩:=xV (ns:=ns) (k:=540+(j:Int)) (lo:=0) (hi:=9) hl ∅ ∅ #[] #[] #[];by_cases c:0<d
  . by_cases c2:∃k,k<m/\fs k=j
    . obtain⟨i,ei,hi,hij⟩:=yp c2 ∅;obtain⟨g1,g2,g3⟩:=hr i hi;obtain⟨p1,p2,p3,p4⟩:=Be sf g1 sd g2 (s0 #[]) g3;refine⟨some (P0 s (rg i)),λq hq=>by cases hq;exact⟨p1,p2,p3,λk hk hkj=>by rw[inj k i hk hi (by rw[hkj,hij])];exact p4⟩,λl z hl=>⟨_,(iD (0+(j:Int)),some (.dat (A5 (some (P0 s (rg i)))))),rfl,?_⟩⟩
      delta eN;rw[K8];symm;rw[ed];symm;rw[c7 c,es];symm;rw[IM];symm;rw[c7 c2];simp only[lr];symm;rw[ei];symm;rw[C5 _ hi];symm;rw[xS sf g1 #[]];symm;exact hJ (l:=l) (d:=A5 (some (P0 s (rg i)))) rfl ∅
    . refine⟨some s,λq hq=>by cases hq;exact⟨sf.mono #[],sd.mono (bz _) #[],s0 #[],λk hk hkj=>absurd ⟨k,hk,hkj⟩ c2⟩,λl z hl=>⟨_,(iD (0+(j:Int)),some (.dat (A5 (some s)))),rfl,?_⟩⟩
      delta eN;rw[K8];symm;rw[ed];symm;rw[c7 c,es];symm;rw[IM];symm;rw[c9 c2];symm;exact hJ (l:=l) (d:=A5 (some s)) rfl ∅
  . refine⟨none,λq hq=>(by cases hq),λl z hl=>⟨_,(iD (0+(j:Int)),some (.dat (A5 none))),rfl,?_⟩⟩
    delta eN;rw[K8];symm;rw[ed];symm;rw[c9 c];symm;exact hJ (l:=l) (d:=A5 none) rfl ∅
 refine⟨f,?_,hf⟩;delta jm;symm;rw[C9 ∅];symm;rw[Q8,e];symm
theorem VQ{n:Nat}(hl:ns.length<=63)(hn:n<=100):∃f:Nat->Tr,(∀ds:Ds,D6 k8 k7 pJ (some (.dat (L5 ns))::ds) (U5 0 n)=some (rl n λj=>B8 (f j)))/\∀j,j<n->TD (30*10 ^ 60) (10 ^ 64) (f j):=by
 have h:∀j:Nat,j<n->∃x:Tr,jn [L5 ns,.int (700+10*(j:Int))]=some (.dat (B8 x))/\D3 214 x/\TD (30*10 ^ 60) (10 ^ 64) x:=λj hj=>RK hl ∅ ∅
 let f:Nat->Tr:=λj=>open Classical in if hj:j<n then(h j hj).choose else v9
 have hf:∀j,(hj:j<n)->f j=(h j hj).choose:=λj hj=>dif_pos hj
 refine⟨f,λds=>?_,λj hj=>by rw[hf j hj];exact(h j hj).choose_spec.2.2⟩
 rw[qS];refine B6 λj hj=>⟨_,.dat (B8 (f j)),rfl,?_,rfl⟩
 delta pJ;symm;rw[o9 (Bt.iS #[] #[]) (Bt.iS ∅ ∅)];symm;rw[hf j hj];exact(h j hj).choose_spec.1
end
section
variable{k N:Nat}{G1 G2 G:DO}{ds ds1:Ds}{items m:List c5}
abbrev l8.qY(I:l8):c5:=.list [I.n8,I.u6,I.o3,I.u9,I.G4]
theorem qQ(s:Str)(h:PyData.strOk s=true:=by decide +kernel):Sh 0 (.str s):=⟨by simp[aM,h],by simp[jZ]⟩
theorem ZM{a b c:c5}(ha:Sh k a)(hb:Sh k b)(hc:Sh k c):Sh (k+1) (.tuple [a,b,c]):=AI λx hx=>by
 simp only[mM,MT,or_false]at hx;rcases hx with rfl|rfl|rfl
 . exact ha
 . exact hb
 . exact hc
section
variable{I:l8}
theorem JZ{d:c5}(h:Res I d):Sh 4 d:=by
 cases h with
 |best _ _=>exact ZM ((qQ "best").mono #[]) (Sh.mono (k:=2) (cx λi=>ju _) #[]) (cx λi=>HB _)
 |endless _ _ _=>exact ZM ((qQ "endless").mono #[]) (Sh.mono (k:=2) (cx λi=>ju _) #[]) (Sh.mono (k:=2) (cx λi=>ju _) #[])
theorem Zs(I:l8):Sh 4 I.qY:=FE λx hx=>by
 simp only[mM,MT,or_false]at hx;rcases hx with rfl|rfl|rfl|rfl|rfl
 . exact cx λi=>HB _
 . exact cx λi=>cx λj=>ju _
 . exact Sh.mono (k:=2) (cx λi=>ju _) #[]
 . exact Sh.mono (k:=2) (cx λi=>WI _) #[]
 . exact Sh.mono (k:=1) (cx λi=>JV _) #[]
theorem n6{r:Option Out}(h:G1 ds=some (.next ds1))(h2:G2 ds1=r):lZ G1 G2 ds=r:=by rw[m8,h,j9,h2]
theorem yu{n:Nat}{l:List c5}{pv:PV}(hl:l.length=n)(h:G (M0 l++v5 (N-n) none)=some (.ret pv)):D1 n N G l=some pv:=by delta D1;rw[c7 hl,h];rfl
theorem N8{i:Nat}{F:DV}{pv:PV}(h:F ds=some pv)(h2:ds.set i (some (.dat pv.d))=ds1):j0 i F ds=some (.next ds1):=by rw[aY,h,<-h2];rfl
theorem df{Fi:DL}{gt:c5->Option (List c5)}{Fe:DV}{l:List c5}(h:Fi ds=some items)(hl:items.length<=1000000)(h2:D6 gt k7 Fe ds items=some l):k6 Fi gt k7 Fe ds=some (.own l):=by delta k6;rw[h,i7,c7 hl,h2];rfl
theorem oQ{c:DB}(h:c ds=some false):C3 c G1 G2 ds=G2 ds:=by delta C3;rw[h];rfl
theorem iU{i:Nat}{F:DV}{pv:PV}(h:F ds=some pv)(h2:ds.set i (some pv)=ds1):K4 i F ds=some (.next ds1):=by delta K4;rw[h,<-h2];rfl
theorem or_false{F G:DB}(h:F ds=some false)(h2:G ds=some false):cz F G ds=some false:=by delta cz;rw[h];exact h2
theorem sV{F G:DV}{d:c5}(h:F (U0 ds)=some (.dat d))(h2:G (U0 ds)=some (.dat d))(hs:Sh k d)(hk:k<=64:=by decide):j5 (c6 P6 (B5 F) (B5 G)) ds=some false:=by
 delta j5 c6 B5;rw[h,i7,h2,i7];show((P6 d d).bind λx=>zN x.d)=_
 rw[Bu hs hk];rfl
theorem not_true{F:DV}(h:F (U0 ds)=some (.dat (.bool true))):cO (j5 (B5 F)) ds=some false:=by delta cO j5 B5;rw[h];rfl
theorem VE{F:DV}{s:Str}{l:List c5}(h:F ds=some (C8 s l m))(hl:fE l=true)(hm:fE m=true):wo F ds=some (C8 s l m):=by delta wo;rw[h,i7];simp only[fK,List.all_nil,Yc,hl,hm,De,LF,w9]
abbrev l8.SW(I:l8):PV:=.ob none (.seq true [(V4,.own (rl I.n λj=>B8 (I.cost j))),(V4,.own (rl I.m λp=>.list (rl I.n λj=>fr (I.row p j)))),(V4,.own (rl I.m λp=>fr (I.rg p))),(V4,.own (rl I.n λj=>A5 (I.tp j))),(V4,.own (rl I.m λk=>.int (I.fs k:Int)))])
theorem SV{i:Nat}{s:Str}{l:List c5}(h:(U0 ds)[i]? = some (some (.dat (.tuple [.str s,.list l,.list m]))))(hl:fE l=true)(hm:fE m=true):
  (m3 (i9 (G8 (B5 (c6 i6 (i8 i) (fC (.int 0))))) (i9 (G8 (B5 (e9 V1 (i9 (c6 i6 (i8 i) (fC (.int 1))) m6)))) (i9 (G8 (B5 (e9 V1 (i9 (c6 i6 (i8 i) (fC (.int 2))) m6)))) m6)))) ds=some (.dat (.tuple [.str s,.list l,.list m])):=by
 have v:i8 i (U0 ds)=some (.dat (.tuple [.str s,.list l,.list m])):=by delta i8;rw[h]
 have e0:G8 (B5 (c6 i6 (i8 i) (fC (.int 0)))) ds=some (.dat (.str s)):=tw (by delta B5 c6;rw[v];rfl) rfl
 have e1:G8 (B5 (e9 V1 (i9 (c6 i6 (i8 i) (fC (.int 1))) m6))) ds=some (.own l):=je (by delta B5;rw[wG (pv:=.dat (.list l)) (by delta c6;rw[v];rfl)];rfl) hl
 have e2:G8 (B5 (e9 V1 (i9 (c6 i6 (i8 i) (fC (.int 2))) m6))) ds=some (.own m):=je (by delta B5;rw[wG (pv:=.dat (.list m)) (by delta c6;rw[v];rfl)];rfl) hm
 simp only[m3,i9,m6,e0,e1,e2,i7,PV.gX,PV.wx];rfl
theorem xR(N:Nums I)(G:bO I 22):∃s l m,gh [I.qY]=some (C8 s l m)/\Res I (.tuple [.str s,.list l,.list m])/\fE l=true/\fE m=true:=by
 obtain⟨s,l,m,e,R,hl,hm⟩:=JS N.ok G;have w:=Jx N.ok G (N.fits G) R;have m4:=N.m4;have c:k6 (F7 (c6 i6 (i8 0) (fC (.int 1)))) k8 k7 lF [some (.dat I.qY),none,none,none,none]=some (.own (rl I.m λp=>.list (rl I.n λj=>fr (I.row p j)))):=df (items:=rl I.m λp=>.list (rl I.n λj=>fr (I.row p j))) rfl (T6 ∅) (B6 λp hp=>⟨_,.own (rl I.n λj=>fr (I.row p j)),rfl,rfl,rfl⟩)
 refine⟨s,l,m,yu rfl ?_,R,hl,hm⟩;refine n6 (ds1:=[some (.dat I.qY),some I.SW,none,none,none]) (iU (pv:=I.SW) ?_ rfl) ?_
 . simp only[Aj,bq,uw];rw[show k6 (F7 (c6 i6 (i8 0) (fC (.int 1)))) k8 k7 lF (M0 [I.qY]++v5 (5-1) none)=_ from c]
   rfl
 refine n6 (ds1:=[some (.dat I.qY),some I.SW,some (C8 s l m),none,none]) (iU (VE e hl hm) rfl) ?_;refine n6 (ds1:=[some (.dat I.qY),some I.SW,some (C8 s l m),none,none]) ((oQ (or_false (sV rfl rfl (Zs I)) (not_true w))).trans rfl) ?_;refine n6 (N8 (SV rfl hl hm) rfl) ?_;refine n6 (ds1:=[some (.dat I.qY),some (.ob none (.seq true [(V4,.own []),(V4,.own []),(V4,.own []),(V4,.own []),(V4,.own [])])),some (C8 s l m),some (.dat (.tuple [.str s,.list l,.list m])),none]) rfl ?_;refine n6 (ds1:=[some (.dat I.qY),some (.ob none (.seq true [(V4,.own []),(V4,.own []),(V4,.own []),(V4,.own []),(V4,.own [])])),some (C8 s l m),some (.dat (.tuple [.str s,.list l,.list m])),none]) ((oQ (sV rfl rfl (JZ R))).trans rfl) rfl
end
end
section
variable{I:l8}{D E F:Int}{T:Sx.Tb}{a:Nat}
theorem Fs{f g:Nat->Rat}:∀n,(∀i,i<n->f i<=g i)->p9 f n<=p9 g n
 | 0,_=>Rat.le_refl
 |n+1,h=>by
  have h1:=Fs n λi hi=>h i ∅
  have h2:=h n ∅;show p9 f n+f n<=p9 g n+g n
  grind
theorem XR(H:u7 I D E F)(K:Sx.Ok I.pb T)(En:Sx.O4 I.pb T a)(he:stI I.A4 T a I.m=[]){t0:Nat}(h3:t0<3)(z:∀j t,j<I.n->t≠t0->val (W4 (I.cost j) t)=0)(y:Nat->Rat)(hy:∀j,j<I.n->p9 (λp=>y p*val (I.row p j)) I.m<=val (W4 (I.cost j) t0)):False:=by
 have ha:a<I.n:=En.an;have nb:∀k,k<I.m->T.B k≠a:=En.nb K.t7;obtain⟨hl,hfu,hp⟩:=kK K En he;have s0:=G5 K.t7.pos;have w0:∀j,j<I.n->0<=val (bX I T a j):=λj hj=>by
  rcases pO (a:=a) K.t7 j with ⟨k,hk,rfl,e⟩|⟨hn,e⟩
  . rw[e];exact(oB (bG K.t7.pos).1).mp (lp K.t7.pos (bA (by have:=(hp k hk).1;lia) (Q7 (H.sc hj).1)))
  . rw[e];split
    . exact(oB (p:=(I.sc a,1)) (show(0:Int)<1 by decide)).mp (Q7 (H.sc ha).1)
    . rw[fj];exact Rat.le_refl
 have S:∀t,t≠t0->p9 (λj=>val (W4 (I.cost j) t)*val (bX I T a j)) I.n=0:=λt ht=>by rw[C7 (g:=λ_=>0) I.n λj hj=>by rw[z j t hj ht];grind,nB]
 have S0:0<=p9 (λj=>val (W4 (I.cost j) t0)*val (bX I T a j)) I.n:=by
  have h1:=Fs (f:=λj=>p9 (λp=>y p*val (I.row p j)) I.m*val (bX I T a j)) (g:=λj=>val (W4 (I.cost j) t0)*val (bX I T a j)) I.n λj hj=>Ox (hy j hj) (w0 j hj)
  have h2:p9 (λj=>p9 (λp=>y p*val (I.row p j)) I.m*val (bX I T a j)) I.n=0:=by
   rw[C7 (g:=λj=>p9 (λp=>y p*val (I.row p j)*val (bX I T a j)) I.m) I.n λj hj=>ao _ _ _,yR,C7 (g:=λ_=>0) I.m λp hp=>?_,nB]
   rw[C7 (g:=λj=>(val (I.row p j)*val (bX I T a j))*y p) I.n λj hj=>by grind,<-ao,An H K.t7 ha nb hp]
   grind
  rw[h2]at h1;exact h1
 have m0:=λt (ht:t<3)=>cT s0 (G5 (H.mu ht).1)
 have ne:¬Sx.Neg λt=>T.rest I.pb t a:=(SM (r:=λt=>T.rest I.pb t a) (m0 0 #[]) (m0 1 #[]) (m0 2 #[]) (pP H K.t7 ha nb #[]) (pP H K.t7 ha nb #[]) (pP H K.t7 ha nb #[])).mp (by
  rcases zh h3 with rfl|rfl|rfl
  . rw[S 1 #[],S 2 #[]];delta NN;grind
  . rw[S 0 #[],S 2 #[]];delta NN;grind
  . rw[S 0 #[],S 1 #[]];exact .inr ⟨rfl,.inr ⟨rfl,S0⟩⟩)
 exact ne (En.neg.congr λt _=>by
  show T.sg a*_=_
  rw[show T.sg a=1 from by delta Sx.Tb.sg;rw[hfu];rfl,cU])
theorem RU(ht:∀j,j<I.n->I.tp j≠none){d:c5}(h:Res I d):∃x y,d=.tuple [.str "best",x,y]:=by
 cases h with
 |best K ne=>exact⟨_,_,rfl⟩
 | @endless T a K En he=>exact absurd (da.mpr (kK K En he).1) (ht a En.an)
end
structure Drawn where
 m:Nat
 n:Nat
 fs:Nat->Nat
 row:Nat->Nat->Q2
 rg:Nat->Q2
 tp:Nat->Option Q2
 cost:Nat->Tr
structure Drawn.Ok(X:Drawn):Prop where
 m4:X.m<=4
 Gj:X.n<=10
 fl:∀k,k<X.m->X.fs k<X.n
 inj:∀k l,k<X.m->l<X.m->X.fs k=X.fs l->k=l
 row:∀p j,p<X.m->j<X.n->l7 14 (X.row p j)/\FD 30 10000 (X.row p j)
 fi:∀k p,k<X.m->p<X.m->X.row p (X.fs k)=if p=k then(1,1)else q0
 rg:∀p,p<X.m->TR p (X.rg p)
 tp:∀j,j<X.n->Hj X.m X.fs X.rg j (X.tp j)
 cost:∀j,j<X.n->TD (30*10 ^ 60) (10 ^ 64) (X.cost j)
abbrev Drawn.bH(X:Drawn)(tp:Nat->Option Q2):l8:=⟨X.m,X.n,X.cost,X.row,X.rg,tp,X.fs⟩
section
variable{X:Drawn}
theorem Drawn.Ok.nums(O:X.Ok){tp:Nat->Option Q2}(ht:∀j,j<X.n->Hj X.m X.fs X.rg j (tp j)):Nums (X.bH tp)/\bO (X.bH tp) 22:=by
 have m4:=O.m4;have Gj:=O.Gj;have d:(30:Int)∣60:=⟨2,by decide⟩
 have N:Nums (X.bH tp):=⟨m4,by show X.n<=11;lia,λp j hp hj=>⟨(O.row p j hp hj).1,(O.row p j hp hj).2.mono d #[]⟩,λj hj=>(O.cost j hj).mono ⟨120,by decide⟩ #[],λp hp=>⟨(O.rg p hp).1,(O.rg p hp).2.1.mono d #[]⟩,λj q hj hq=>⟨(ht j hj q hq).1,(ht j hj q hq).2.1.mono d #[]⟩,O.fl⟩
 exact⟨N,O.fi,O.inj,λp hp=>(O.rg p hp).2.2,λj q hj hq=>(ht j hj q hq).2.2.1,λk q hk hq=>(ht _ (O.fl k hk) q hq).2.2.2 k hk rfl,λj hj=>N.cn hj,by show 22*X.m<=2000;lia,by decide⟩
end
abbrev dA(ns:List Int)(X:Drawn)(r:Ds):Ds:=some (.dat (L5 ns))::iD (X.m:Int)::iD (X.n:Int)::some (.dat (X.bH X.tp).G4)::some (.dat (X.bH X.tp).u6)::some (.dat (X.bH X.tp).o3)::some (.dat (X.bH X.tp).u9)::some (.dat (X.bH X.tp).n8)::some (.dat (X.bH X.tp).qY)::r
theorem RN{X:Drawn}(O:X.Ok){ns:List Int}(hl:ns.length<=63)(r:Ds):∃f:Nat->Option Q2,(∀j,j<X.n->f j≠none/\Hj X.m X.fs X.rg j (f j))/\∃z:Option PV×Option PV,M5 (A8 10) jo (U5 0 X.n) (dA ns X (some (.own [])::none::none::r))=some (.next (dA ns X (some (.own (rl X.n λj=>A5 (f j)))::z.1::z.2::r))):=by
 have Gj:=O.Gj;have m4:=O.m4;refine uZ A5 (λj t=>t≠none/\Hj X.m X.fs X.rg j t) none (gt:=A8 10) (G:=jo) (n:=X.n) (ζ:=Option PV×Option PV) (mk:=λl z=>dA ns X (some (.own l)::z.1::z.2::r)) (none,none) λj hj=>?_
 cases htp:X.tp j with
 |some q =>
  refine⟨some q,⟨λz=>(by cases z),by rw[<-htp];exact O.tp j hj⟩,λl z hl=>⟨_,(iD (0+(j:Int)),some (.dat (A5 (some q)))),rfl,?_⟩⟩
  delta jo;rw[K8];simp only[dA];symm;rw[C5 _ hj,htp];simp only[A5];symm;exact hJ (l:=l) (d:=fr q) rfl ∅
 |none =>
  obtain⟨s,es,sf,sd,s0,_,_⟩:=xV (ns:=ns) (k:=950+(j:Int)) (lo:=5) (hi:=9) hl ∅ ∅ #[] #[] #[];by_cases c2:∃k,k<X.m/\X.fs k=j
  . obtain⟨i,ei,hi,hij⟩:=yp c2 ∅;obtain⟨g1,g2,g3⟩:=O.rg i hi;obtain⟨p1,p2,p3,p4⟩:=Be sf g1 sd g2 (s0 #[]) g3;refine⟨some (P0 s (X.rg i)),⟨λz=>(by cases z),λq hq=>by cases hq;exact⟨p1,p2,p3,λk hk hkj=>by rw[O.inj k i hk hi (by rw[hkj,hij])];exact p4⟩⟩,λl z hl=>⟨_,(iD (0+(j:Int)),some (.dat (A5 (some (P0 s (X.rg i)))))),rfl,?_⟩⟩
    delta jo;rw[K8];simp only[dA];symm;rw[C5 _ hj,htp];simp only[A5];symm;rw[es];symm;rw[IM];symm;rw[c7 c2];simp only[lr];symm;rw[ei];symm;rw[C5 _ hi];symm;rw[xS sf g1 #[]];symm;exact hJ (l:=l) (d:=A5 (some (P0 s (X.rg i)))) rfl ∅
  . refine⟨some s,⟨λz=>(by cases z),λq hq=>by cases hq;exact⟨sf.mono #[],sd.mono (bz _) #[],s0 #[],λk hk hkj=>absurd ⟨k,hk,hkj⟩ c2⟩⟩,λl z hl=>⟨_,(iD (0+(j:Int)),some (.dat (A5 (some s)))),rfl,?_⟩⟩
    delta jo;rw[K8];simp only[dA];symm;rw[C5 _ hj,htp];simp only[A5];symm;rw[es];symm;rw[IM];symm;rw[c9 c2];symm;exact hJ (l:=l) (d:=A5 (some s)) rfl ∅
section
variable{q:Q2}
def gw:Nat->Q2
 | 0=>(-3,4)
 | 1=>(20,1)
 | 2=>(-1,2)
 | 3=>(6,1)
 |_=>(0,1)
def gr:Nat->Nat->Q2
 | 0,0=>(1,4)
 | 0,1=>(1,2)
 | 1,0=>(-8,1)
 | 1,1=>(-12,1)
 | 2,0=>(-1,1)
 | 2,1=>(-1,2)
 | 2,2=>(1,1)
 | 3,0=>(9,1)
 | 3,1=>(3,1)
 | 4,0=>(1,1)
 | 5,1=>(1,1)
 | 6,2=>(1,1)
 |_,_=>(0,1)
def gg:Nat->Q2
 | 2=>(1,1)
 |_=>(0,1)
def nZ(t:Nat)(q:Q2):Tr:=if t=0 then⟨q,q0,q0⟩else if t=1 then⟨q0,q,q0⟩else⟨q0,q0,q⟩
theorem Yy(h:0<q.2/\l9 q.1 q.2=1/\4 % q.2=0/\(q.1.natAbs:Int)<=20*q.2):FD 4 20 q:=⟨h.1,h.2.1,Int.dvd_of_emod_eq_zero h.2.2.1,h.2.2.2⟩
theorem SX:∀c,c<7->∀i,i<3->FD 4 20 (gr c i):=λc hc i hi=>Yy ((by decide:∀c,c<7->∀i,i<3->0<(gr c i).2/\l9 (gr c i).1 (gr c i).2=1/\4 % (gr c i).2=0/\((gr c i).1.natAbs:Int)<=20*(gr c i).2) c hc i hi)
theorem IQ:∀c,c<7->FD 4 20 (gw c):=λc hc=>Yy ((by decide:∀c,c<7->0<(gw c).2/\l9 (gw c).1 (gw c).2=1/\4 % (gw c).2=0/\((gw c).1.natAbs:Int)<=20*(gw c).2) c hc)
theorem SY:∀i,i<3->FD 4 20 (gg i):=λi hi=>Yy ((by decide:∀i,i<3->0<(gg i).2/\l9 (gg i).1 (gg i).2=1/\4 % (gg i).2=0/\((gg i).1.natAbs:Int)<=20*(gg i).2) i hi)
theorem uN(h:FD 4 20 q):l7 14 q:=h.BS #[] ⟨by decide⟩ ⟨by decide⟩
def gy:Nat->Rat
 | 1=>-3/2
 | 2=>-5/4
 |_=>0
theorem Zx:∀c,c<7->p9 (λp=>gy p*val (gr c p)) 3<=val (gw c):=λc hc=>by rcases(by lia:c=0\/c=1\/c=2\/c=3\/c=4\/c=5\/c=6)with rfl|rfl|rfl|rfl|rfl|rfl|rfl<;>(show(0:Rat)+_+_+_<=_;simp only[gy,gr,gw,val];decide +kernel)
structure Turn where
 o:Nat->Nat
 t:Nat
 b:Int
 fs:Nat->Nat
structure Turn.Ok(Y:Turn):Prop where
 lt:∀j,j<7->Y.o j<7
 t3:Y.t<3
 b1:1<=Y.b
 b9:Y.b<=9
 fl:∀k,k<3->Y.fs k<7
 fi:∀k,k<3->Y.o (Y.fs k)=4+k
abbrev Turn.bH(Y:Turn):l8:=⟨3,7,λj=>nZ Y.t (D0 (gw (Y.o j)) (Y.b,1)),λp j=>gr (Y.o j) p,gg,λ_=>none,Y.fs⟩
theorem Ms{t:Nat}(h:t<3)(q:Q2):W4 (nZ t q) t=q/\∀u,u≠t->W4 (nZ t q) u=q0:=by
 rcases zh h with rfl|rfl|rfl
 . refine⟨rfl,λu hu=>?_⟩
   match u,hu with
   | 1,_=>rfl
   | 2,_=>rfl
   |u+3,_=>rfl
 . refine⟨rfl,λu hu=>?_⟩
   match u,hu with
   | 0,_=>rfl
   | 2,_=>rfl
   |u+3,_=>rfl
 . refine⟨rfl,λu hu=>?_⟩
   match u,hu with
   | 0,_=>rfl
   | 1,_=>rfl
   |u+3,_=>rfl
section
variable{Y:Turn}
theorem Turn.Ok.tm(O:Y.Ok){c:Nat}(hc:c<7):FD 4 180 (D0 (gw c) (Y.b,1))/\val (D0 (gw c) (Y.b,1))=val (gw c)*(Y.b:Rat):=by
 have b1:=O.b1;have b9:=O.b9;have f1:FD 1 9 (Y.b,1):=⟨by show(0:Int)<1;decide,by show l9 _ 1=1;simp,bz _,by show((Y.b).natAbs:Int)<=9*1;lia⟩
 have f:=(IQ c hc).times f1;refine⟨f.mono (bz _) #[],?_⟩;rw[ny (IQ c hc).pos f1.pos]
 congr 1
 exact val_one _
theorem Turn.Ok.nums(O:Y.Ok):Nums Y.bH/\bO Y.bH 22:=by
 have d:(4:Int)∣60:=⟨15,by decide⟩
 have N:Nums Y.bH:=⟨by show 3<=4;decide,by show 7<=11;decide,λp j hp hj=>⟨uN (SX _ (O.lt j hj) p hp),(SX _ (O.lt j hj) p hp).mono d #[]⟩,λj hj=>?_,λp hp=>⟨uN (SY p hp),(SY p hp).mono d #[]⟩,λj q hj hq=>(by cases hq),O.fl⟩
 . refine⟨N,λk p hk hp=>?_,λk l hk hl h=>?_,λp hp=>?_,λj q hj hq=>(by cases hq),λk q hk hq=>(by cases hq),λj hj=>N.cn hj,by show 22*3<=2000;decide,by decide⟩
   . show gr (Y.o (Y.fs k)) p=_
     rw[O.fi k hk];exact(by decide:∀k,k<3->∀p,p<3->gr (4+k) p=if p=k then(1,1)else q0) k hk p hp
   . have h':Y.fs k=Y.fs l:=h;have:=O.fi k hk;rw[h',O.fi l hl]at this
     lia
   . exact(by decide:∀p,p<3->0<=(gg p).1) p hp
 . have f:=(O.tm (O.lt j hj)).1.mono (D':=cE) (M':=10 ^ 69) ⟨900*10 ^ 60,by decide⟩ #[]
   have z:FD cE (10 ^ 69) q0:=jA #[];show TD _ _ (nZ _ _)
   delta nZ;split
   . exact⟨f,z,z⟩
   . split
     . exact⟨z,f,z⟩
     . exact⟨z,z,f⟩
theorem Turn.Ok.best(O:Y.Ok){d:c5}(h:Res Y.bH d):∃x y,d=.tuple [.str "best",x,y]:=by
 cases h with
 |best K ne=>exact⟨_,_,rfl⟩
 | @endless T a K En he =>
  refine absurd (XR O.nums.1.ok K En he O.t3 (λj t hj ht=>?_) (λp=>gy p*(Y.b:Rat)) λj hj=>?_) id
  . show val (W4 (nZ _ _) t)=0
    rw[(Ms O.t3 _).2 t ht,fj]
  . show p9 (λp=>gy p*(Y.b:Rat)*val (gr (Y.o j) p)) 3<=val (W4 (nZ _ _) Y.t)
    rw[(Ms O.t3 _).1,(O.tm (O.lt j hj)).2,C7 (g:=λp=>(gy p*val (gr (Y.o j) p))*(Y.b:Rat)) 3 λp hp=>by grind,<-ao]
    have b1:=O.b1;exact Ox (Zx _ (O.lt j hj)) (by exact_mod_cast (by lia:(0:Int)<=Y.b))
end
end
section
variable{ns:List Int}
theorem vJ{α:Type}(g:α->c5)(a:α)(l:List α):l.map g=rl l.length λi=>g (l.getD i a):=by
 apply DD (by simp)
 intro k h1 h2;have hk:k<l.length:=by simpa using h1
 simp[O2,G0 hk]
theorem Ys{n i:Nat}{f:Nat->c5}{d:c5}(h:(rl n f)[i]? = some d):i<n/\d=f i:=by
 have hi:i<n:=by
  by_cases c:i<n
  . exact c
  . rw[lC (by rw[A1];lia)]at h;cases h
 refine⟨hi,?_⟩;rw[P5,ky hi]at h;cases h;rfl
abbrev Tc(c:Nat):c5:=.tuple [fr (gr c 0),fr (gr c 1),fr (gr c 2)]
abbrev dR(ns:List Int)(o:Nat->Nat)(r:Ds):Ds:=some (.dat (L5 ns))::some (.dat (.list (rl 7 λc=>fr (gw c))))::some (.own (rl 7 Tc))::some (.dat (.list (rl 7 λj=>.int (o j:Int))))::r
abbrev l3(t:Nat)(x:c5):List c5:=[fr q0,fr q0,fr q0].set t x
theorem SQ{t:Nat}(h:t<3)(q:Q2):dD (l3 t (fr q))=B8 (nZ t q):=by rcases zh h with rfl|rfl|rfl<;>rfl
theorem Vn(hl:ns.length<=63)(r:Ds):∃o:Nat->Nat,(∀j,j<7->o j<7)/\(∀c,c<7->∃j,j<7/\o j=c)/\(C3 (j5 (c6 J8 (e9 A6 (i9 (i8 0) (i9 (fC (.int 1000)) (i9 (fC (.int 2)) m6)))) (fC (.int 0)))) (j0 3 (k6 (F7 (e9 jq (i9 (k6 (D5 G6 (i9 (fC (.int 7)) m6)) k8 k7 N7) m6))) k8 k7 fg)) q9) (dR ns id r)=some (.next (dR ns o r)):=by
 obtain⟨d0,e0,_,_⟩:=K6 (ns:=ns) (k:=1000) (m:=2) hl #[] #[] #[];have hb:j5 (c6 J8 (e9 A6 (i9 (i8 0) (i9 (fC (.int 1000)) (i9 (fC (.int 2)) m6)))) (fC (.int 0))) (dR ns id r)=some (decide (d0=0)):=by
  have:e9 A6 (i9 (i8 0) (i9 (fC (.int 1000)) (i9 (fC (.int 2)) m6))) (dR ns id r)=some (.dat (.int d0)):=e0;delta j5 c6;rw[this,i7];show((J8 (.int d0) (.int 0)).bind _)=_
  rw[mi];rfl
 by_cases c:d0=0
 . have D:=λi:Nat=>λh:i<=1000=>K6 (ns:=ns) (k:=1010+(i:Int)) (m:=1000) hl ∅ ∅ #[]
   let d:Nat->Int:=λi=>if h:i<=1000 then(D i h).choose else 0
   have hd:∀i:Nat,i<7->A6 [L5 ns,.int (1010+(i:Int)),.int 1000]=some (.dat (.int (d i))):=λi hi=>by
    have h:i<=1000:=by lia
    show _=some (PV.dat (.int (if h:i<=1000 then(D i h).choose else 0)))
    rw[dif_pos h];exact(D i h).choose_spec.1
   obtain⟨o,eo,po⟩:=vo d (n:=7) #[] #[];have lo:o.length=7:=by rw[po.length_eq,ku]
   have mem:∀j,j<7->o.getD j 0∈o:=λj hj=>by rw[O2,G0 ∅];exact iA _
   refine⟨λj=>o.getD j 0,λj hj=>mem_range.mp (po.mem_iff.mp (mem j hj)),λx hx=>?_,?_⟩
   . obtain⟨j,hj,e⟩:=List.getElem_of_mem (po.mem_iff.mpr (mem_range.mpr hx));refine⟨j,by lia,?_⟩
     show o.getD j 0=x
     rw[O2,G0 hj,<-e];rfl
   . delta C3;rw[hb,decide_eq_true c,i7,c7 rfl];refine N8 (pv:=.own (rl 7 λj=>.int (o.getD j 0:Int))) ?_ rfl
     have e1:k6 (D5 G6 (i9 (fC (.int 7)) m6)) k8 k7 N7 (dR ns id r)=some (.own ((v8 7).map λi=>.tuple [.int (d i),.int (i:Int)])):=by
      refine df (items:=U5 0 7) (C9 #[]) (by rw[iV];decide) (qr λi hi=>⟨PV.dat (.tuple [.int (d i),.int (i:Int)]),?_,rfl⟩)
      delta N7;symm;rw[K8,hd i hi];symm
     have e2:e9 jq (i9 (k6 (D5 G6 (i9 (fC (.int 7)) m6)) k8 k7 N7) m6) (dR ns id r)=some (.own (o.map λi=>.tuple [.int (d i),.int (i:Int)])):=by rw[wG e1];exact eo
     have e3:F7 (e9 jq (i9 (k6 (D5 G6 (i9 (fC (.int 7)) m6)) k8 k7 N7) m6)) (dR ns id r)=some (o.map λi=>.tuple [.int (d i),.int (i:Int)]):=by delta F7;rw[e2];rfl
     refine df e3 (by rw[F9,lo];decide) ?_
     rw[comp_map (f:=R5) λi hi=>⟨.dat (R5 i),rfl,rfl⟩,vJ R5 0 o,lo]
 . refine⟨id,λj hj=>hj,λx hx=>⟨x,hx,rfl⟩,?_⟩
   delta C3;rw[hb,fQ c];rfl
abbrev gL(o:Nat->Nat)(t:Nat)(b:Int)(i:Nat):List c5:=rl i λj=>B8 (nZ t (D0 (gw (o j)) (1+b,1)))
abbrev dQ(ns:List Int)(o:Nat->Nat)(t:Nat)(b:Int)(i:Nat)(r:Ds):Ds:=dR ns o (iD (t:Int)::some (.dat (fr (1+b,1)))::some (.own (gL o t b i))::r)
theorem Uy(hl:ns.length<=63):∃Y:Turn,Y.Ok/\cY [L5 ns]=some (.own [Y.bH.n8,Y.bH.u6,Y.bH.o3,Y.bH.u9,Y.bH.G4]):=by
 obtain⟨t',et,t0,t1⟩:=K6 (ns:=ns) (k:=1020) (m:=3) hl #[] #[] #[];obtain⟨b,eb,b0,b1⟩:=K6 (ns:=ns) (k:=1021) (m:=9) hl #[] #[] #[];obtain⟨t,rfl⟩:∃t:Nat,t'=(t:Int):=⟨t'.toNat,by lia⟩
 obtain⟨o,o1,o2,eo⟩:=Vn (ns:=ns) hl [none,none,none,none,none,none,none];have I3:=λ(i:Nat) (hi:i<3)=>yp (m:=7) (j:=4+i) (fs:=o) (o2 (4+i) ∅) #[]
 let fs:Nat->Nat:=λi=>open Classical in if h:i<3 then(I3 i h).choose else 0
 have hf:∀i,(h:i<3)->fs i=(I3 i h).choose:=λi h=>dif_pos h
 have O:(⟨o,t,1+b,fs⟩:Turn).Ok:=⟨o1,by show t<3;lia,by show 1<=1+b;lia,by show 1+b<=9;lia,λk hk=>by
  show fs k<7
  rw[hf k hk];exact(I3 k hk).choose_spec.2.1,λk hk=>by
  show o (fs k)=4+k
  rw[hf k hk];exact(I3 k hk).choose_spec.2.2⟩
 refine⟨⟨o,t,1+b,fs⟩,O,?_⟩;have loop:∃z:Option PV×Option PV,M5 (A8 7) Y5 (rl 7 λj=>.int (o j:Int)) (dQ ns o t b 0 [none,none,none,none])=some (.next (dQ ns o t b 7 [z.1,z.2,none,none])):=by
  obtain⟨ds',h1,z,rfl⟩:=qo (gt:=A8 7) (G:=Y5) (items:=rl 7 λj=>.int (o j:Int)) (ds:=dQ ns o t b 0 [none,none,none,none])
   (λi ds=>∃z:Option PV×Option PV,ds=dQ ns o t b i [z.1,z.2,none,none]) ⟨(none,none),rfl⟩ (by
    rintro i d ds hd ⟨z,rfl⟩;obtain⟨hi,rfl⟩:=Ys hd;have tm:aS [fr (gw (o i)),fr (1+b,1)]=some (.dat (fr (D0 (gw (o i)) (1+b,1)))):=oF (m:=14) (n:=14) (uN (IQ _ (o1 i hi))) (jb (Bt.mono (m:=5) (mz (M:=9) ∅ ⟨by decide⟩) #[]) #[]) #[]
    refine⟨_,_,rfl,.inl ?_,(iD (o i:Int),some (.dat (.list (l3 t (fr (D0 (gw (o i)) (1+b,1))))))),rfl⟩;delta Y5;refine n6 (ds1:=dQ ns o t b i [iD (o i:Int),some (.own [fr q0,fr q0,fr q0]),none,none]) rfl ?_;have tv:e9 aS (i9 (c6 i6 (i8 1) (i8 7)) (i9 (i8 5) m6)) (dQ ns o t b i [iD (o i:Int),some (.own [fr q0,fr q0,fr q0]),none,none])=some (.dat (fr (D0 (gw (o i)) (1+b,1)))):=by
     have ix:c6 i6 (i8 1) (i8 7) (dQ ns o t b i [iD (o i:Int),some (.own [fr q0,fr q0,fr q0]),none,none])=some (.dat (fr (gw (o i)))):=by symm;rw[C5 _ (o1 i hi)];rfl
     rw[call2 ix (qv:=.dat (fr (1+b,1))) rfl];exact tm
    refine n6 (FG (a:=t) (l:=[fr q0,fr q0,fr q0]) rfl tv rfl (by show t<3;lia)) ?_
    delta jx;show de 6 (e9 pR (i9 (i8 8) m6)) (dQ ns o t b i [iD (o i:Int),some (.dat (.list (l3 t (fr (D0 (gw (o i)) (1+b,1)))))),none,none])=_
    have ap:=hJ (i:=6) (ds:=dQ ns o t b i [iD (o i:Int),some (.dat (.list (l3 t (fr (D0 (gw (o i)) (1+b,1)))))),none,none]) (l:=gL o t b i) (d:=.tuple (l3 t (fr (D0 (gw (o i)) (1+b,1))))) rfl (by rw[A1];lia)
    rw[SQ ∅,xX i λj=>B8 (nZ t (D0 (gw (o j)) (1+b,1))),<-SQ ∅]at ap
    exact ap)
  rw[A1]at h1;exact⟨z,h1⟩
 obtain⟨z,loop⟩:=loop;have rows:k6 (D5 G6 (i9 (fC (.int 3)) m6)) k8 k7 bB (dQ ns o t b 7 [z.1,z.2,none,none])=some (.own (rl 3 λp=>.list (rl 7 λj=>fr (gr (o j) p)))):=by
  refine df (items:=U5 0 3) (C9 #[]) (by rw[iV];decide) (qr λp hp=>⟨.own (rl 7 λj=>fr (gr (o j) p)),?_,rfl⟩)
  delta bB;refine df (items:=rl 7 λj=>.int (o j:Int)) rfl (by rw[A1];decide) (B6 λj hj=>⟨_,.dat (fr (gr (o j) p)),rfl,?_,rfl⟩)
  delta ff;rw[K8];symm;rw[C5 _ (o1 j hj)];symm;rcases zh hp with rfl|rfl|rfl<;>rfl
 have firs:k6 (D5 G6 (i9 (fC (.int 3)) m6)) k8 k7 eZ (dQ ns o t b 7 [z.1,z.2,some (.dat (.list (rl 3 λp=>.list (rl 7 λj=>fr (gr (o j) p))))),none])=some (.own (rl 3 λk=>.int (fs k:Int))):=by
  refine df (items:=U5 0 3) (C9 #[]) (by rw[iV];decide) (qr λk hk=>⟨.dat (.int (fs k:Int)),?_,rfl⟩)
  have e:=(I3 k hk).choose_spec.1;rw[<-hf k hk]at e;have:((4+k:Nat):Int)=4+(0+(k:Int)):=by lia
  rw[show R5 (4+k)=.int (4+(0+(k:Int)))from E6 Z0 this]at e
  exact e
 refine yu rfl ?_;refine n6 (ds1:=some (.dat (L5 ns))::some (.dat (.list (rl 7 λc=>fr (gw c))))::[none,none,none,none,none,none,none,none,none]) rfl ?_
 refine n6 (ds1:=some (.dat (L5 ns))::some (.dat (.list (rl 7 λc=>fr (gw c))))::some (.own (rl 3 Tc))::[none,none,none,none,none,none,none,none]) rfl ?_
 refine n6 (ds1:=some (.dat (L5 ns))::some (.dat (.list (rl 7 λc=>fr (gw c))))::some (.own (rl 6 Tc))::[none,none,none,none,none,none,none,none]) rfl ?_
 refine n6 (ds1:=some (.dat (L5 ns))::some (.dat (.list (rl 7 λc=>fr (gw c))))::some (.own (rl 7 Tc))::[none,none,none,none,none,none,none,none]) rfl ?_
 refine n6 (ds1:=dR ns id [none,none,none,none,none,none,none]) rfl ?_;refine n6 eo ?_;refine n6 (N8 (pv:=.dat (.int (t:Int))) et rfl) ?_;refine n6 (N8 (pv:=.dat (fr (1+b,1))) ?_ rfl) ?_
 . symm;rw[eb];rfl
 refine n6 (ds1:=dQ ns o t b 0 [none,none,none,none]) rfl ?_;refine n6 loop ?_;refine n6 (ds1:=dQ ns o t b 7 [z.1,z.2,some (.dat (.list (rl 3 λp=>.list (rl 7 λj=>fr (gr (o j) p))))),none]) (N8 rows rfl) ?_
 refine n6 (ds1:=dQ ns o t b 7 [z.1,z.2,some (.dat (.list (rl 3 λp=>.list (rl 7 λj=>fr (gr (o j) p))))),some (.dat (.list (rl 3 λk=>.int (fs k:Int))))]) (N8 firs rfl) ?_
 have kF:k6 (F7 (i8 3)) k8 k7 eX (U0 (dQ ns o t b 7 [z.1,z.2,some (.dat (.list (rl 3 λp=>.list (rl 7 λj=>fr (gr (o j) p))))),some (.dat (.list (rl 3 λk=>.int (fs k:Int))))]))=some (.own (rl 7 λ_=>.none)):=df (items:=rl 7 λj=>.int (o j:Int)) rfl (by rw[A1];decide) (B6 λj hj=>⟨_,.dat .none,rfl,rfl,rfl⟩)
 have fin:∀{F:DV} {ds:Ds} {l:List c5},F (U0 ds)=some (.own l)->t6 (B5 F) ds=some (.ret (.own l)):=λ{F ds l} h=>by delta t6 B5;rw[h];rfl
 refine fin ?_;simp only[O7,i9,m6];rw[kF];rfl
end
theorem VL{ns:List Int}(hl:ns.length<=63):∃(X:Drawn) (e:Int),X.Ok/\A6 [L5 ns,.int 5,.int 5]=some (.dat (.int (X.m:Int)))/\A6 [L5 ns,.int 6,.int 6]=some (.dat (.int e))/\(X.m:Int)+1+e=(X.n:Int)/\eJ [L5 ns,.int (X.n:Int),.int (X.m:Int)]=some (.own (rl X.m λk=>.int (X.fs k:Int)))/\gi [L5 ns,.int (X.n:Int),.list (rl X.m λk=>.int (X.fs k:Int))]=some (.own (rl X.m λp=>.list (rl X.n λj=>fr (X.row p j))))/\eI [L5 ns,.int (X.m:Int)]=some (.own (rl X.m λi=>fr (X.rg i)))/\jm [L5 ns,.int (X.n:Int),.list (rl X.m λk=>.int (X.fs k:Int)),.list (rl X.m λi=>fr (X.rg i))]=some (.own (rl X.n λj=>A5 (X.tp j)))/\∀ds:Ds,D6 k8 k7 pJ (some (.dat (L5 ns))::ds) (U5 0 X.n)=some (rl X.n λj=>B8 (X.cost j)):=by
 obtain⟨m',em,m0,m5⟩:=K6 (ns:=ns) (k:=5) (m:=5) hl #[] #[] #[];obtain⟨e,ee,e0,e6⟩:=K6 (ns:=ns) (k:=6) (m:=6) hl #[] #[] #[];obtain⟨m,rfl⟩:∃m:Nat,m'=(m:Int):=⟨m'.toNat,by lia⟩
 obtain⟨n,hn⟩:∃n:Nat,(m:Int)+1+e=(n:Int):=⟨((m:Int)+1+e).toNat,by lia⟩
 obtain⟨fs,ef,F⟩:=LX (ns:=ns) (n:=n) (m:=m) hl ∅ ∅ ∅;obtain⟨rows,er,R⟩:=Ux (ns:=ns) hl ∅ F;have fl:=F.len;have fr1:fs.map R5=rl m λk=>.int (fs.getD k 0:Int):=by rw[vJ R5 0 fs,fl]
 have rlen:rows.length=m:=by rw[R.len,fl]
 have row1:rows.map N5=rl m λp=>.list (rl n λj=>fr ((rows.getD p []).getD j q0)):=by
  rw[vJ N5 [] rows,rlen];refine Y1 λp hp=>?_
  have:=(R.row p (by rw[fl];exact hp)).len
  rw[N5,vJ fr q0,this]
 have inj:∀k l,k<m->l<m->fs.getD k 0=fs.getD l 0->k=l:=λk l hk hl' h=>by
  rw[O2,O2,G0 ∅,G0 ∅]at h;have pw:=List.pairwise_iff_getElem.mp F.nodup;rcases Nat.lt_trichotomy k l with c|c|c
  . exact absurd h (pw k l ∅ ∅ c)
  . exact c
  . exact absurd h.symm (pw l k ∅ ∅ c)
 have mem:∀k,k<m->fs.getD k 0∈fs:=λk hk=>by rw[O2,G0 ∅];exact iA _
 have lt:∀k,k<m->fs.getD k 0<n:=λk hk=>F.lt _ (mem k hk)
 obtain⟨rg,eg,G⟩:=Pl (ns:=ns) (m:=m) hl ∅;obtain⟨tp,et,Tp⟩:=Wt (ns:=ns) (n:=n) (m:=m) (fs:=λk=>fs.getD k 0) (rg:=rg) hl ∅ ∅ inj G
 obtain⟨cost,ec,Cc⟩:=VQ (ns:=ns) (n:=n) hl ∅;refine⟨⟨m,n,λk=>fs.getD k 0,λp j=>(rows.getD p []).getD j q0,rg,tp,cost⟩,e,⟨by show m<=4;lia,by show n<=10;lia,lt,inj,λp j hp hj=>?_,λk p hk hp=>?_,G,Tp,Cc⟩,em,ee,hn,by rw[ef,fr1],?_,eg,et,ec⟩
 . have r:=R.row p (by rw[fl];exact hp)
   have hj':j<(rows.getD p []).length:=by rw[r.len];exact hj
   exact⟨r.all.at hj',r.fd.at hj'⟩
 . have r:=R.row p (by rw[fl];exact hp)
   show(rows.getD p []).getD (fs.getD k 0) q0=_
   by_cases z:p=k
   . rw[c7 z,<-z];exact r.one
   . rw[c9 z];exact r.vG _ (mem k hk) λy=>z (inj p k hp hk y.symm)
 . show gi [L5 ns,.int (n:Int),.list (rl m λk=>.int (fs.getD k 0:Int))]=_
   rw[<-fr1];rw[er,row1]
theorem is_none{i:Nat}{d:c5}{ds:Ds}(h:(U0 ds)[i]? = some (some (.dat d)))(hd:dU d=false):j5 (c6 cR (B5 (i8 i)) (B5 (fC .none))) ds=some false:=by
 have v:i8 i (U0 ds)=some (.dat d):=by delta i8;rw[h]
 delta j5 c6 B5;rw[v,i7];show((cR d .none).bind λx=>zN x.d)=_
 rw[uJ,hd];rfl
theorem UA{I:l8}{s:Str}{a b:c5}(h:Res I (.tuple [.str s,a,b])):PyData.strOk s=true:=by
 generalize hd:dD [.str s,a,b]=d at h;cases h with
 |best _ _ =>
  injection hd with h
  injection h with h _
  injection h with h
  rw[h];decide +kernel
 |endless _ _ _ =>
  injection hd with h
  injection h with h _
  injection h with h
  rw[h];decide +kernel
abbrev dL(ns:List Int)(X:Drawn)(f:Nat->Option Q2)(z:Option PV×Option PV)(r:Ds):Ds:=dA ns X (some (.dat (X.bH f).u9)::z.1::z.2::some (.dat (X.bH f).qY)::r)
theorem QR:∀ns:List Int,ns.length<=63->qz [.list (ns.map .int)]=some (.dat (.bool true)):=by
 intro ns hl;obtain⟨X,e,O,em,ee,hn,eF,eR,eG,eT,eC⟩:=VL hl;have m4:=O.m4;have Gj:=O.Gj;obtain⟨N1,G1⟩:=O.nums (tp:=X.tp) O.tp;obtain⟨s1,l1,p1,t1,R1,a1,b1⟩:=xR N1 G1;obtain⟨f,hf,z,ef⟩:=RN O hl [none,none,none,none,none,none];obtain⟨N2,G2⟩:=O.nums (tp:=f) λj hj=>(hf j hj).2
 obtain⟨s2,l2,p2,t2,R2,a2,b2⟩:=xR N2 G2;obtain⟨x2,y2,e2⟩:=RU (I:=X.bH f) (λj hj=>(hf j hj).1) R2
 obtain⟨Y,OY,eY⟩:=Uy hl;obtain⟨N3,G3⟩:=OY.nums;obtain⟨s3,l3',p3,t3,R3,a3,b3⟩:=xR N3 G3;obtain⟨x3,y3,e3⟩:=OY.best R3;have q2:s2 = "best":=by
  have:=MS e2;injection this with h _
  exact PyData.str.inj h
 have q3:s3 = "best":=by
  have:=MS e3;injection this with h _
  exact PyData.str.inj h
 subst q2 q3;refine yu rfl ?_;refine n6 (N8 (pv:=.dat (.int (X.m:Int))) em rfl) ?_;refine n6 (N8 (pv:=.dat (.int (X.n:Int))) ?_ rfl) ?_
 . symm;rw[ee];symm;rw[hn]
 refine n6 (N8 eF rfl) ?_;refine n6 (N8 eR rfl) ?_;refine n6 (N8 eG rfl) ?_;refine n6 (N8 eT rfl) ?_;refine n6 (N8 (df (items:=U5 0 X.n) (C9 ∅) (by rw[iV];lia) (eC _)) rfl) ?_
 refine n6 (ds1:=dA ns X [none,none,none,none,none,none,none,none,none]) rfl ?_;refine n6 (ds1:=dA ns X [some (.own []),none,none,none,none,none,none,none,none]) rfl ?_;refine n6 (ds1:=dA ns X [some (.own (rl X.n λj=>A5 (f j))),z.1,z.2,none,none,none,none,none,none]) ?_ ?_
 . delta L7;rw[show D5 G6 (i9 (i8 2) m6) (dA ns X [some (.own []),none,none,none,none,none,none,none,none])=some (U5 0 X.n)from by
    show G6 [.int (X.n:Int)]=_
    rw[C9 ∅,Q8]]
   exact ef
 refine n6 (ds1:=dL ns X f z [none,none,none,none,none]) rfl ?_;refine n6 (ds1:=dL ns X f z [some (C8 s1 l1 p1),none,none,none,none]) (iU t1 rfl) ?_;refine n6 (ds1:=dL ns X f z [some (C8 s1 l1 p1),none,none,none,none]) ((oQ (is_none (d:=.tuple [.str s1,.list l1,.list p1]) rfl rfl)).trans rfl) ?_;refine n6 (ds1:=dL ns X f z [some (C8 s1 l1 p1),some (.dat (.tuple [.str s1,.list l1,.list p1])),none,none,none]) (N8 (SV rfl a1 b1) rfl) ?_;refine n6 (ds1:=dL ns X f z [some (C8 s1 l1 p1),some (.dat (.tuple [.str s1,.list l1,.list p1])),some (C8 "best" l2 p2),none,none]) (iU t2 rfl) ?_;refine n6 (ds1:=dL ns X f z [some (C8 s1 l1 p1),some (.dat (.tuple [.str s1,.list l1,.list p1])),some (C8 "best" l2 p2),none,none]) ((oQ (or_false (is_none (d:=.tuple [.str "best",.list l2,.list p2]) rfl rfl) (sV (d:=.str "best") rfl rfl (qQ _)))).trans rfl) ?_;refine n6 (ds1:=dL ns X f z [some (C8 s1 l1 p1),some (.dat (.tuple [.str s1,.list l1,.list p1])),some (C8 "best" [] p2),none,none]) rfl ?_;refine n6 (ds1:=dL ns X f z [some (C8 s1 l1 p1),some (.dat (.tuple [.str s1,.list l1,.list p1])),some (C8 "best" [] []),none,none]) rfl ?_;refine n6 (ds1:=dL ns X f z [some (C8 s1 l1 p1),some (.dat (.tuple [.str s1,.list l1,.list p1])),some (C8 "best" [] []),some (C8 s1 l1 p1),none]) (iU t1 rfl) ?_;refine n6 (ds1:=dL ns X f z [some (C8 s1 l1 p1),some (.dat (.tuple [.str s1,.list l1,.list p1])),some (C8 "best" [] []),some (C8 s1 l1 p1),none]) ((oQ (or_false (is_none (d:=.tuple [.str s1,.list l1,.list p1]) rfl rfl) (sV (d:=.str s1) rfl rfl (qQ _ (UA R1))))).trans rfl) ?_;refine n6 (ds1:=dL ns X f z [some (C8 s1 l1 p1),some (.dat (.tuple [.str s1,.list l1,.list p1])),some (C8 "best" [] []),some (C8 s1 [] p1),none]) rfl ?_;refine n6 (ds1:=dL ns X f z [some (C8 s1 l1 p1),some (.dat (.tuple [.str s1,.list l1,.list p1])),some (C8 "best" [] []),some (C8 s1 [] []),none]) rfl ?_;refine n6 (ds1:=dL ns X f z [some (C8 s1 l1 p1),some (.dat (.tuple [.str s1,.list l1,.list p1])),some (C8 "best" [] []),some (C8 s1 [] []),some (C8 "best" l3' p3)]) (iU ?_ rfl) ?_
 . rw[wG (pv:=.own [Y.bH.n8,Y.bH.u6,Y.bH.o3,Y.bH.u9,Y.bH.G4]) eY];exact t3
 have fin:∀{F:DV} {ds:Ds} {pv:PV},F (U0 ds)=some pv->t6 (B5 F) ds=some (.ret pv):=λ{F ds pv} h=>by delta t6 B5;rw[h];rfl
 refine fin ?_;have f1:J8 (.str "best") (.str "best")=some (.dat (.bool true)):=mh (qQ "best");have f2:J8 (.tuple [.str s1,.list l1,.list p1]) (.tuple [.str s1,.list l1,.list p1])=some (.dat (.bool true)):=mh (JZ R1);have g1:(c6 aH (i8 17) (fC .none)) (U0 (dL ns X f z [some (C8 s1 l1 p1),some (.dat (.tuple [.str s1,.list l1,.list p1])),some (C8 "best" [] []),some (C8 s1 [] []),some (C8 "best" l3' p3)]))=some (.dat (.bool true)):=rfl;have g2:(c6 J8 (c6 i6 (i8 17) (fC (.int 0))) (fC (.str "best"))) (U0 (dL ns X f z [some (C8 s1 l1 p1),some (.dat (.tuple [.str s1,.list l1,.list p1])),some (C8 "best" [] []),some (C8 s1 [] []),some (C8 "best" l3' p3)]))=some (.dat (.bool true)):=f1;have g3:(c6 J8 (i8 13) (i8 14)) (U0 (dL ns X f z [some (C8 s1 l1 p1),some (.dat (.tuple [.str s1,.list l1,.list p1])),some (C8 "best" [] []),some (C8 s1 [] []),some (C8 "best" l3' p3)]))=some (.dat (.bool true)):=f2;delta kJ j5;rw[g1];simp only[i7,PV.gX,zN,w9];rw[g2];simp only[i7,PV.gX,zN,w9];exact g3
end Law
end
set_option maxHeartbeats 4000000
local macro_rules | `(tactic| walk_at "c") => `(tactic| exact⟨rfl, rfl, rfl, by decide +kernel, rfl, by decide +kernel, by decide +kernel⟩)
namespace Law
open PySem L2
section
variable{K K':i5}{f fa:Addr}{fd:O0}{p:List c8->Prop}{k k' k0 Lz QV:Nat}{mg' mg:Str->Option c8}{N loose:List Str}{LB QY:Option Addr}{Lx QT:Array (Option c8)}{EK EJ IG IF IE:Tok}
def top(i:Nat):Stmt:=PySem.Challenge.pw_sunstore_k33_whole_solved_and_borne_out.main.body.getD i (.Pass ⟨0,0,0,0⟩)
inductive Rw(K:i5)(m n:Str)(s:Stmt)(f:Addr):O0->Prop
 |mk {oc kV dc pm cd ct:c8} {od an:Option Addr} {sl:Array (Option c8)} (l:K.lookup f=some ⟨oc,od,.func (iw m n (ji s) (aF s) (D7 s) .none kV dc pm an cd ct),sl⟩) (c:xc K cd n=true) (k:fL K (.ref f)=true):Rw K m n s f (iw m n (ji s) (aF s) (D7 s) .none kV dc pm an cd ct)
theorem WM{m n:Str}{s:Stmt}(r:Rw K m n s f fd):sG K m n s f fd:=by obtain⟨l,c,k⟩:=r;exact Yv l c k
theorem b00(h:p []):∀us,us.length=0->p us:=λus e=>by
 cases us with
 |nil=>exact h
 |cons _ _=>cases e
theorem b01(h:∀x,∀us,us.length=k->p (x::us)):∀us,us.length=k+1->p us:=λus e=>by
 cases us with
 |nil=>cases e
 |cons x t=>exact h x t (Nat.succ.inj e)
local macro_rules | `(tactic| walk_at "b") => `(tactic| (intro _ _ _ _ _ _; repeat first|exact b00 rfl|refine b01 λ_ => ?_))
structure Dd(K:i5)(J:Prop)(n q:Str)(s:Stmt)(N:List Str)(k:Nat)(f:Addr)(fd:O0):Prop where
 F:sG K n q s f fd
 m:J
 b:Binds K fd (N.take k) []
 S:jl N (N.take k) (D7 s)
structure Nf(K:i5)(n:Str)(s:Stmt)(f:Addr)(fd:O0):Prop where
 a:dF K T8 n=some (some (.ref f))
 r:Rw K n n s f fd
structure Nm(K:i5)(C:Addr)(n q:Str)(s:Stmt)(f:Addr)(fd:O0):Prop where
 a:az K (.ref C) n=some (some (.ref f))
 i:wW K (.ref f)=true
 r:Rw K n q s f fd
section
variable{K:i5}{mg:Str->Option c8}{n q:Str}{s:Stmt}{N:List Str}{k l:Nat}{f C:Addr}{fd:O0}{h:Heap}{J:Prop}{P:B1}{w:t9}{base:Heap}{G:DO}
structure Ok(P:B1)(w:t9)(mg:Str->Option c8)(base:Heap)(D:Dd K J n q s N k f fd)(l:Nat)(sp:Sp):Prop where
 h:Z5 P w K mg base pL l f fd (N.take k) sp
theorem p8(r:Rw K n q s f fd)(m:J)(b:∀(kV doc pm:c8) (an:Option Addr) (cdv ct:c8) (us:List c8),us.length=k->bindArgs (iw n q (ji s) (aF s) (D7 s) .none kV doc pm an cdv ct) ⟨us,[]⟩=pure ((N.take k).zip us):=by walk_at "b")(S:jl N (N.take k) (D7 s):=by walk_at "c")(e:(N.take k).length=k:=by rfl):Dd K J n q s N k f fd:=⟨WM r,m,(WM r).binds λ_ _ _ _ _ _ us hl=>b _ _ _ _ _ _ us (hl.trans e),S⟩
theorem Nm.mt(a:Nm K C n q s f fd):Meth K C n f:=⟨a.a,a.i,(WM a.r).kp⟩
theorem okA(D:Dd K J n q s N k f fd)(b:∀(cdv:c8) (A:A2) (outer:List Env) (s':h8) (H:Hp) (E:XK),N.Nodup->J2 l (A.deeper (NC q (D7 s) s'.heap.objs.size f cdv))->∃t,fX (mw pL P w K mg base N q (D7 s) f cdv A outer s' H E).vF (aF s) t G)(e:(N.take k).length<=N.length:=by decide):Ok P w mg base D (l+1) (B3 K (D1 (N.take k).length N.length G)):=⟨D.F.okF D.S e λ_ _ _ _ _ _ hr=>b _ _ _ _ _ _ D.S.nd hr⟩
theorem okB(D:Dd K J n q s N k f fd)(b:∀(cdv:c8) (A:A2) (outer:List Env) (s':h8) (H:Hp) (E:XK),N.Nodup->J2 l (A.deeper (NC q (D7 s) s'.heap.objs.size f cdv))->∃t,fX (mw pL P w K mg base N q (D7 s) f cdv A outer s' H E).vF (aF s) t G)(e:(N.take k).length<=N.length:=by decide):Ok P w mg base D (l+1) (jM K (oM (N.take k).length N.length G)):=⟨D.F.okO D.S e λ_ _ _ _ _ _ hr=>b _ _ _ _ _ _ D.S.nd hr⟩
end
inductive Al(p:Str->Prop):List Str->Prop
 |n:Al p []
 |c {s:Str} {r:List Str}:p s->Al p r->Al p (s::r)
theorem Al.at{p:Str->Prop}{s:Str}:∀{l:List Str},Al p l->s∈l->p s
 |_::_,.c h t,m=>by
  cases m with
  |head=>exact h
  |tail _ m=>exact t.at m
theorem pcD{X:Cx}{fr:Bool}{e:Expr}{es:List Expr}{t:TA}{Fl:DL}{pos p:Pos}{x q:Str}{st:Stmt}{f':FV}{D:Dd K' (mg' x=some (.ref f)) x q st N k0 f fd}(G:Ok X.prog X.w mg' X.base D k (B3 K' f'))(hr:J2 k' X.A)(ha:eU X fr (e::es) t Fl)(eK:X.K=K':=by rfl)(em:X.mg=mg':=by rfl)(hk:k<=k':=by omega)(hg:Gl X x:=by exact rfl)(hdb:(x==("__debug__" : Str))=false:=by decide)(he:j4 (e::es) X.env=(false,eval e X.env)::j4 es X.env:=by rfl)(hpl:(A9 pos (j4 es X.env)).any (·.1)=false:=by rfl):PX X fr (.Call (.Name x p) (e::es) [] pos) (pU (B3 K' f') [] E0 t) (e9 f' Fl):=PD eK (em▸G.h) (hr.mono hk) hg (em▸D.m) D.F.kp D.b dM ha hdb he hpl
def Wv:Expr->List Str
 | .Name x _=>[x]
 | .Tuple es _ _=>es.filterMap fun | .Name x _=>some x|_=>none
 |_=>[]
section
variable{X:Cx}{bs nb:List Str}{elt tg iter:Expr}{ifs:List Expr}{scope:Y4}{pos cpos pos':Pos}{wi:TI}{g:TG}{tt:TT}{te:TE}{Fi:DL}{gt:c5->Option (List c5)}{Fc:DB}{Fe:DV}{i:Nat}{x:Str}
theorem bkN(h:gZ X.N X.N X.env.scope scope=true):gZ X.N X.N X.env.scope scope=true:=h
theorem YH(nb:List Str)(h:gZ X.N nb X.env.scope scope=true):gZ X.N nb X.env.scope scope=true:=h
theorem PB(hc:X.calm=true)(hk:gZ X.N nb X.env.scope scope=true)(hb:Wv tg=bs)(hgt:zO X.K bs.length g gt)(hi:jU X true tg iter wi Fi)(go:nc bs.length g)(hg:∀cl C fp s H pins,PG (X4 X bs nb scope cl C fp s H pins) tg g)(ht:∀cl C fp s H pins,lA (X4 X bs nb scope cl C fp s H pins) ifs tt Fc)(he:∀cl C fp s H pins,PX (X4 X bs nb scope cl C fp s H pins) true elt te Fe)(hs:∀x,eu iter X.env x=pure x:=by intro _;rfl):PX X true (.ListComp elt [⟨tg,iter,ifs,0⟩] scope pos) (lg bs wi g tt te) (k6 Fi gt Fc Fe):=xZ hc (Cz hk) hi go hg hgt ht he hs
theorem HR(hN:X.N.Nodup)(hi':X.N[i]? = some x)(hx:Loc X.env.scope x)(hc:X.calm=true)(hk:gZ X.N nb X.env.scope scope=true)(hb:Wv tg=bs)(hgt:zO X.K bs.length g gt)(hi:jU X true tg iter wi Fi)(go:nc bs.length g)(hg:∀cl C fp s H pins,PG (X4 X bs nb scope cl C fp s H pins) tg g)(ht:∀cl C fp s H pins,lA (X4 X bs nb scope cl C fp s H pins) ifs tt Fc)(he:∀cl C fp s H pins,PX (X4 X bs nb scope cl C fp s H pins) true elt te Fe)(hsw:aK (.ListComp elt [⟨tg,iter,ifs,0⟩] scope cpos) (some (.Name x pos')) pos.line X.env=pure true:=by rfl)(hf:X.fn x=true\/X.env.scope.names.lookup x=some .local:=by first|exact .inl rfl|exact .inr rfl|assumption)(hs:∀x,eu iter X.env x=pure x:=by intro _;rfl):J3 X (.Assign [.Name x pos'] (.ListComp elt [⟨tg,iter,ifs,0⟩] scope cpos) pos) (lO (lg bs wi g tt te) (Y8 i)) (j0 i (k6 Fi gt Fc Fe)):=Ki hN hi' hx hc (Cz hk) hi go hg hgt ht he hsw hf hs
theorem HQ(hN:X.N.Nodup)(hi':X.N[i]? = some x)(hx:Loc X.env.scope x)(hc:X.calm=true)(hk:gZ X.N nb X.env.scope scope=true)(hb:Wv tg=bs)(hgt:zO X.K bs.length g gt)(hi:jU X true tg iter wi Fi)(go:nc bs.length g)(hg:∀cl C fp s H pins,PG (X4 X bs nb scope cl C fp s H pins) tg g)(ht:∀cl C fp s H pins,lA (X4 X bs nb scope cl C fp s H pins) ifs tt Fc)(he:∀cl C fp s H pins,PX (X4 X bs nb scope cl C fp s H pins) true elt te Fe)(hsw:aK (.ListComp elt [⟨tg,iter,ifs,0⟩] scope cpos) (some (.Name x pos')) pos.line X.env=pure true:=by rfl)(hf:X.fn x=true\/X.env.scope.names.lookup x=some .local:=by first|exact .inl rfl|exact .inr rfl|assumption)(hs:∀x,eu iter X.env x=pure x:=by intro _;rfl):J3 X (.Assign [.Name x pos'] (.ListComp elt [⟨tg,iter,ifs,0⟩] scope cpos) pos) (lO (lg bs wi g tt te) (Y8 i)) (K4 i (k6 Fi gt Fc Fe)):=Kh hN hi' hx hc (Cz hk) hi go hg hgt ht he hsw hf hs
theorem PU{body:List Stmt}{tb:TS}{G:DO}{gt:c5->Ds->Option Ds}(hp:oW (model X.prog X.w) X.A X.env X.xe)(hc:X.calm=true)(hgt:TN X.K g gt)(hi:jU X true tg iter wi Fi)(hg:PG X tg g)(hb:fX X body tb G)(hs:∀x,eu iter X.env x=pure x:=by intro _;rfl):J3 X (.For tg iter body [] pos) (Hx wi g tb) (L7 Fi gt G):=UW hp hc hi hg hgt hb hs
end
structure TZ where
 f:Nat->Addr
 d:Nat->O0
 Aw:c8
 Ao:V
 Fm:c8
 Fg:V
 C:Addr
section
variable(K:i5)(mg:Str->Option c8)(a:TZ)(i:Nat)(n q:Str)(s:Stmt)(N:List Str)(k:Nat)
abbrev Dn:Prop:=Dd K (mg n=some (.ref (a.f i))) n n s N k (a.f i) (a.d i)
abbrev Dm:Prop:=Dd K (Meth K a.C n (a.f i)) n q s N k (a.f i) (a.d i)
end
structure Txt(K:i5)(mg:Str->Option c8)(a:TZ):Prop where
 uU:Dn K mg a 0 "common_divisor" (top 4) ["one","other","rest"] 2
 Ji:Dn K mg a 1 "fraction" (top 5) ["top","bottom","divisor"] 2
 VN:Dn K mg a 2 "times" (top 6) ["one","other","divisor","other_divisor","top"] 2
 tO:Dn K mg a 3 "common_multiple" (top 10) ["numbers","told","number"] 1
 VM:Dn K mg a 4 "whole" (top 11) ["one","by"] 2
 Jb:Dn K mg a 5 "scale_of" (top 12) ["rows","choice"] 2
 ER:Dn K mg a 6 "column_of" (top 13) ["rows","choice","scale"] 3
 Ja:Dn K mg a 7 "unit_row" (top 14) ["count","place","row"] 2
 Mi:Dn K mg a 8 "product" (top 15) ["row","other"] 2
 uV:Dn K mg a 9 "column_product" (top 16) ["row","column"] 2
 Rv:Dn K mg a 10 "turned" (top 17) ["row","pivot_row","factor","pivot","size"] 5
 jj:Dd K (Mk K a.C (a.f 11)) "__init__" "Table.__init__" (inClass (top 18) 0) ["self","costs","rows","rights","tops","first"] 6 (a.f 11) (a.d 11)
 cN:Dm K a 12 "set_weights" "Table.set_weights" (inClass (top 18) 1) ["self","costs","part","weights","multiple"] 2
 dh:Dm K a 13 "set_limits" "Table.set_limits" (inClass (top 18) 2) ["self","rights","tops","heights","bottoms"] 3
 S6:Dm K a 14 "first_prices" "Table.first_prices" (inClass (top 18) 3) ["self","part"] 2
 du:Dm K a 15 "rest" "Table.rest" (inClass (top 18) 4) ["self","part","choice"] 3
 gY:Dm K a 16 "amounts" "Table.amounts" (inClass (top 18) 5) ["self"] 1
 kL:Dm K a 17 "paces" "Table.paces" (inClass (top 18) 6) ["self","choice"] 2
 mr:Dm K a 18 "flip" "Table.flip" (inClass (top 18) 7) ["self","choice","by","place","number"] 2
 mq:Dm K a 19 "turn" "Table.turn" (inClass (top 18) 8) ["self","choice","place","paces","sign","pivot","pivot_row","part","factor","inverse"] 4
 Mr:Dn K mg a 20 "gain_of" (top 19) ["table","choice","sign","part","rest"] 2
 Rz:Dn K mg a 21 "moving" (top 20) ["table","careful","told","best","choice","gain"] 2
 VO:Dn K mg a 22 "stops" (top 21) ["table","choice","paces","found","sign","place","amount","number","limit","pace"] 3
 Rx:Dn K mg a 23 "sooner" (top 22) ["one","other","length","other_length"] 2
 Cg:Dn K mg a 24 "first_stop" (top 23) ["found","told","stop"] 1
 wz:Dn K mg a 25 "move" (top 24) ["table","choice","paces","stop"] 4
 RA:Dn K mg a 26 "mix_of" (top 25) ["table","tops","mix","choice","amount"] 2
 Jc:Dn K mg a 27 "price_of" (top 26) ["table","place","parts"] 2
 Ru:Dn K mg a 28 "way_of" (top 27) ["table","choice","paces","way","number","pace"] 3
 Ry:Dn K mg a 29 "solved" (top 28) ["costs","rows","rights","tops","first","table","choice","paces","stop"] 5
 RG:Dn K mg a 30 "_law_draw" (top 30) ["_law_script","_law_k","_law_many","_law_cell","_law_mixed"] 3
 RE:Dn K mg a 31 "_law_norm" (top 31) ["_law_top","_law_bottom","_law_one","_law_other","_law_rest"] 2
 VP:Dn K mg a 32 "_law_sum" (top 32) ["_law_one","_law_other"] 2
 Mm:Dn K mg a 33 "_law_times" (top 33) ["_law_one","_law_other"] 2
 RF:Dn K mg a 34 "_law_more" (top 34) ["_law_one","_law_other","_law_by"] 3
 Mq:Dn K mg a 35 "_law_below" (top 35) ["_law_one","_law_other"] 2
 EO:Dn K mg a 36 "_law_cheaper" (top 36) ["_law_one","_law_other","_law_k"] 2
 Cf:Dn K mg a 37 "_law_negative" (top 37) ["_law_one"] 1
 Mj:Dn K mg a 38 "_law_whole" (top 38) ["_law_found"] 1
 wA:Dn K mg a 39 "_law_is_fraction" (top 39) ["_law_found"] 1
 zY:Dn K mg a 40 "_law_is_triple" (top 40) ["_law_found"] 1
 Mn:Dn K mg a 41 "_law_small" (top 41) ["_law_script","_law_k","_law_low","_law_high","_law_bottom","_law_far"] 4
 RH:Dn K mg a 42 "_law_cost" (top 42) ["_law_script","_law_k","_law_first","_law_second","_law_third"] 2
 Jh:Dn K mg a 43 "_law_firsts" (top 43) ["_law_script","_law_n","_law_m","_law_order"] 3
 RD:Dn K mg a 44 "_law_rows" (top 44) ["_law_script","_law_n","_law_first","_law_rows_here","_law_i","_law_row","_law_j","_law_one"] 3
 EM:Dn K mg a 45 "_law_product" (top 45) ["_law_row","_law_mix","_law_total_here","_law_k"] 2
 Mo:Dn K mg a 46 "_law_rests" (top 46) ["_law_costs_told","_law_rows_here","_law_prices","_law_told_here","_law_j","_law_rest","_law_i"] 3
 Mp:Dn K mg a 47 "_law_floor" (top 47) ["_law_costs_told","_law_rows_here","_law_rights_here","_law_tops_here","_law_prices","_law_nothing","_law_total_here","_law_i","_law_left","_law_j"] 5
 Ml:Dn K mg a 48 "_law_total" (top 48) ["_law_costs_told","_law_mix","_law_total_here","_law_j"] 2
 EN:Dn K mg a 49 "_law_is_list" (top 49) ["_law_found","_law_n","_law_way"] 3
 Jg:Dn K mg a 50 "_law_is_mix" (top 50) ["_law_rows_here","_law_rights_here","_law_tops_here","_law_mix","_law_j"] 4
 Jf:Dn K mg a 51 "_law_is_way" (top 51) ["_law_costs_told","_law_rows_here","_law_tops_here","_law_way","_law_j"] 4
 Jd:Dn K mg a 52 "_law_walked" (top 52) ["_law_costs_told","_law_rows_here","_law_rights_here","_law_tops_here","_law_found","_law_n"] 5
 Je:Dn K mg a 53 "_law_rights" (top 53) ["_law_script","_law_m","_law_rights_here","_law_i","_law_one"] 2
 RB:Dn K mg a 54 "_law_tops" (top 54) ["_law_script","_law_n","_law_first","_law_rights_here","_law_tops_here","_law_j","_law_top"] 4
 RC:Dn K mg a 55 "_law_told" (top 55) ["_law_problem","_law_handed","_law_found","_law_held","_law_one"] 1
 wB:Dn K mg a 56 "_law_going_round" (top 56) ["_law_script","_law_costs_told","_law_columns","_law_order","_law_at","_law_by","_law_some","_law_j","_law_cost_here","_law_rows_here","_law_first"] 1
 ZE:Dn K mg a 57 "law" (top 57) ["_law_script","_law_m","_law_n","_law_first","_law_rows_here","_law_rights_here","_law_tops_here","_law_costs_told","_law_one","_law_closed","_law_j","_law_top","_law_other","_law_told_here","_law_held","_law_second","_law_again","_law_round_about"] 1
 cn:bS K "Table" a.C
 mc:mg "Table" = some (.ref a.C)
 na:∀s∈(["scales","columns","multiples","weights","unit","rights","limits","chosen","full","size","inverse","prices"]:List Str),W7 K a.C s
 n:∀s∈(["abs","all","bool","enumerate","int","isinstance","len","list","range","sorted","sum","tuple","zip"]:List Str),mg s=none
 OG:mg "NOUGHT" = some a.Aw/\RelV a.Ao a.Aw/\∀H,Dt K H a.Ao ba
 Ud:mg "PARTS" = some a.Fm/\RelV a.Fg a.Fm/\∀H,Dt K H a.Fg dW
section
set_option hygiene false
local macro_rules | `(#[]) => `(by walk_at "q")
local macro_rules | `(tactic| walk_at "n") => `(tactic| first|exact nd|(dsimp only[X4, Cx.vF, mw]; decide +kernel))
local macro_rules | `(tactic| walk_at "v") => `(tactic| first|exact Or.inl rfl|exact Or.inr rfl)
local macro_rules | `(tactic| walk_at "o") => `(tactic| first|exact tL T|exact EF T|exact Qy T|exact rj T|exact Qx T|exact Ey T|exact Bp T|exact Ex T|exact Ib T|exact tM T|exact KQ T|exact Il T|exact KU T|exact Qz T|exact KR T|exact zT T|exact KW T|exact Ez T|exact KP T|exact KS T|exact Le T|exact Lc T|exact QA T|exact Ig T|exact Ld T|exact Ik T|exact Bo T|exact zS T|exact Ic T|exact uB T|exact yc T|exact Ih T|exact Lf T|exact EE T|exact Lb T|exact Bm T|exact Ii T|exact Ij T|exact Ie T|exact Bn T|exact ED T|exact EC T|exact EA T|exact EB T|exact KZ T|exact La T|exact uC T|exact KY T)
local macro_rules | `(tactic| walk_at "t") => `(tactic| first|exact OP|exact OO|exact OM|exact Uj (by repeat first|exact ON|apply JK))
local macro_rules | `(tactic| walk_at "w") => `(tactic| first|exact LQ (by decide)|exact Rb (vW (vW LP (by decide)) (by decide)))
local macro_rules | `(tactic| walk_at "m") => `(tactic| first|exact(rfl : _ = (["_law_i"] : List Str))|exact(rfl : _ = (["_law_j"] : List Str))|exact(rfl : _ = (["_law_k"] : List Str))|exact(rfl : _ = (["_law_one"] : List Str))|exact(rfl : _ = (["_law_pair"] : List Str))|exact(rfl : _ = (["_law_row"] : List Str))|exact(rfl : _ = (["choice", "scale"] : List Str))|exact(rfl : _ = (["choice"] : List Str))|exact(rfl : _ = (["number", "other"] : List Str))|exact(rfl : _ = (["number", "other_number"] : List Str))|exact(rfl : _ = (["number"] : List Str))|exact(rfl : _ = (["one"] : List Str))|exact(rfl : _ = (["part"] : List Str))|exact(rfl : _ = (["place", "number"] : List Str))|exact(rfl : _ = (["place", "row"] : List Str))|exact(rfl : _ = (["place"] : List Str))|exact(rfl : _ = (["row", "pace"] : List Str))|exact(rfl : _ = (["row"] : List Str))|exact(rfl : _ = (["top", "full"] : List Str))|exact(rfl : _ = (["top", "scale"] : List Str))|exact(rfl : _ = (["triple", "scale"] : List Str)))
local macro_rules | `(tactic| walk_at "u") => `(tactic| first|exact bkN rfl|exact YH ["_law_i", "_law_script", "_law_costs_told", "_law_columns", "_law_order", "_law_at", "_law_by", "_law_some", "_law_j'", "_law_cost_here", "_law_rows_here", "_law_first"] rfl|exact YH ["_law_script", "_law_costs_told", "_law_columns", "_law_order", "_law_at", "_law_by", "_law_some", "_law_j'", "_law_cost_here", "_law_rows_here", "_law_first"] rfl|exact YH ["_law_script", "_law_m", "_law_n", "_law_first", "_law_rows_here", "_law_rights_here", "_law_tops_here", "_law_costs_told", "_law_one", "_law_closed", "_law_j'", "_law_top", "_law_other", "_law_told_here", "_law_held", "_law_second", "_law_again", "_law_round_about"] rfl)
local macro_rules | `(tactic| walk_at "l") => `(tactic| first|exact PB rfl (by walk_at "u") (by walk_at "m") (by walk_at "t") #[] (by walk_at "w") (λ_ _ _ _ _ _ => #[]) (λ_ _ _ _ _ _ => #[]) (λ_ _ _ _ _ _ => #[]))
local macro_rules | `(tactic| walk_at "x") => `(tactic| first|((with_reducible show PX _ _ (.BoolOp _ [_] _) _ _); exact Xc #[])|((with_reducible show PX _ _ _ _ (i8 _)); exact WZ _ (pv _))|((with_reducible show PX _ _ _ _ (fC _)); first|exact Xi|exact Zm|exact Xb|exact Xf|exact AW rfl T.OG|exact AW rfl T.Ud)|((with_reducible show PX _ _ _ _ (c6 i6 _ _)); exact Zk (r := yZ K) vS Wg #[] #[] (λ_ _ => rfl))|((with_reducible show PX _ _ _ _ (c6 B9 _ _)); exact nF Vp YW #[] #[])|((with_reducible show PX _ _ _ _ (c6 F3 _ _)); exact nF (r := HM K) Vu Zb #[] #[])|((with_reducible show PX _ _ _ _ (c6 ay _ _)); exact nF Qw Wj #[] #[])|((with_reducible show PX _ _ _ _ (c6 cc _ _)); exact nF Vq YX #[] #[])|((with_reducible show PX _ _ _ _ (c6 pV _ _)); exact nF XB YS #[] #[])|((with_reducible show PX _ _ _ _ (c6 nI _ _)); exact nF (r := HJ K) Vo Wd #[] #[])|((with_reducible show PX _ _ _ _ (c6 uu _ _)); exact nF XD YU #[] #[])|((with_reducible show PX _ _ _ _ (c6 HA _ _)); exact nF XC YT #[] #[])|((with_reducible show PX _ _ _ _ (c6 J8 _ _)); exact vB (r := HK K) (KN hr.units) Wk (bE _) #[] #[])|((with_reducible show PX _ _ _ _ (c6 oK _ _)); exact vB SI Wi (bE _) #[] #[])|((with_reducible show PX _ _ _ _ (c6 qF _ _)); exact vB HZ We (bE _) #[] #[])|((with_reducible show PX _ _ _ _ (c6 aH _ _)); exact vB Gd EV (bE _) #[] #[])|((with_reducible show PX _ _ _ _ (bo W5 _)); exact Zi Wr YV #[])|((with_reducible show PX _ _ _ _ (m3 _)); exact Xa #[])|((with_reducible show PX _ _ _ _ (O7 _)); exact Xg #[])|((with_reducible show PX _ _ _ _ (jR _ _ _)); exact Zl #[] #[] #[])|((with_reducible show PX _ _ _ _ (kJ _ _)); exact Xl #[] #[])|((with_reducible show PX _ _ _ _ (GR _ _)); exact Zj #[] #[])|((with_reducible show PX _ _ _ _ (rF _)); exact Xe #[])|((with_reducible show PX _ _ _ _ (G8 _)); exact Xj #[])|((with_reducible show PX _ _ _ _ (B5 _)); exact Xk #[])|((with_reducible show PX _ _ _ _ (M6 _)); exact UB _ (pv _))|((with_reducible show PX _ _ _ _ (wo _)); exact UL #[])|((with_reducible show PX _ _ _ _ (tH _)); exact UC #[])|((with_reducible show PX _ _ _ _ (Aj _)); exact UD #[])|((with_reducible show PX _ _ _ _ (uP _ _)); exact UJ (K' := K) rfl _ (pv _) #[])|((with_reducible show PX _ _ _ _ (uO _)); exact HN hr.hd rfl (T.n _ (by decide)) (by decide +kernel) rfl (T.n _ (by decide)) (by decide +kernel) #[])|((with_reducible show PX _ _ _ _ (e9 _ _)); first|((with_reducible show PX _ _ _ _ (e9 M4 _)); exact lU (r := Pr K) MC YZ rfl (T.n _ (by decide)) (by decide +kernel) #[])|((with_reducible show PX _ _ _ _ (e9 qu _)); exact lU RQ Zc rfl (T.n _ (by decide)) (by decide +kernel) #[])|((with_reducible show PX _ _ _ _ (e9 rP _)); exact lU (r := HL K) (MD hr.hd) Wl rfl (T.n _ (by decide)) (by decide +kernel) #[])|((with_reducible show PX _ _ _ _ (e9 xT _)); exact lU (r := HG K) (MA hr.hd) Wb rfl (T.n _ (by decide)) (by decide +kernel) #[])|((with_reducible show PX _ _ _ _ (e9 jq _)); exact lU (r := AQ K) Ct Jw rfl (T.n _ (by decide)) (by decide +kernel) #[])|((with_reducible show PX _ _ _ _ (e9 pR _)); exact za (r := Zf K) zZ Ua rfl (T.n _ (by decide)) (by decide +kernel) #[])|((with_reducible show PX _ _ _ _ (e9 V1 _)); exact za (r := WV K) Cu Wf rfl (T.n _ (by decide)) (by decide +kernel) #[])|exact pcD (by walk_at "o") hr #[])|((with_reducible show PX _ _ _ _ (k6 _ _ _ _)); walk_at "l")|((with_reducible show PX _ _ _ _ (ck "int" _)); exact pZ rfl Rm rfl (T.n _ (by decide)) (by decide +kernel) #[] (sR (v := .ty "int") rfl (T.n _ (by decide)) (by decide +kernel) rfl))|((with_reducible show PX _ _ _ _ (ck "bool" _)); exact pZ rfl LW rfl (T.n _ (by decide)) (by decide +kernel) #[] (sR (v := .ty "bool") rfl (T.n _ (by decide)) (by decide +kernel) rfl))|((with_reducible show PX _ _ _ _ (ck "tuple" _)); exact pZ rfl IY rfl (T.n _ (by decide)) (by decide +kernel) #[] (sR (v := .ty "tuple") rfl (T.n _ (by decide)) (by decide +kernel) rfl))|((with_reducible show PX _ _ _ _ (ck "list" _)); exact pZ rfl LV rfl (T.n _ (by decide)) (by decide +kernel) #[] (sR (v := .ty "list") rfl (T.n _ (by decide)) (by decide +kernel) rfl))|((with_reducible show PX _ _ _ _ (GQ _ _ _ _)); exact Pu (r := WT K) WH a0c #[] #[] #[])|((with_reducible show PX _ _ _ _ (lr jQ _ _)); exact Kc (K' := K) rfl #[] #[])|((with_reducible show PX _ _ _ _ (z9 _ _ _)); exact Pz rfl T.cn (T.na _ (by decide)) #[])|((with_reducible show PX _ _ _ _ (F8 _ _ _)); exact Pw rfl T.cn (T.na _ (by decide)) (pv _))|((with_reducible show PX _ _ _ _ (gT _ _ _ _)); exact UE rfl T.cn (T.na _ (by decide)) (pv _) #[])|((with_reducible show PX _ _ _ _ (L9 _ _ O3 _ m6)); exact Kb rfl T.cn #[] T.gY.m (uD T).h (hr.mono (by omega)) T.gY.b dM (pl := _))|((with_reducible show PX _ _ _ _ (L9 _ _ E7 _ _)); exact uo rfl T.cn #[] T.S6.m (gs T).h (hr.mono (by omega)) T.S6.b dM #[] (pl := _))|((with_reducible show PX _ _ _ _ (L9 _ _ O8 _ _)); exact uo rfl T.cn #[] T.du.m (qE T).h (hr.mono (by omega)) T.du.b dM #[] (pl := _))|((with_reducible show PX _ _ _ _ (L9 _ _ T4 _ _)); exact uo rfl T.cn #[] T.kL.m (ye T).h (hr.mono (by omega)) T.kL.b dM #[] (pl := _))|((with_reducible show PX _ _ _ _ (tI _ _ _)); exact UI T.cn T.jj.m (vD T).h (hr.mono (by omega)) rfl T.mc T.jj.b dM #[]))
local macro_rules | `(tactic| walk_at "y") => `(tactic| first|((with_reducible show J3 _ _ _ (j0 _ (k6 _ _ _ _))); exact HR (by walk_at "n") rfl (by walk_at "v") rfl (by walk_at "u") (by walk_at "m") (by walk_at "t") #[] (by walk_at "w") (λ_ _ _ _ _ _ => #[]) (λ_ _ _ _ _ _ => #[]) (λ_ _ _ _ _ _ => #[]))|((with_reducible show J3 _ _ _ (K4 _ (k6 _ _ _ _))); exact HQ (by walk_at "n") rfl (by walk_at "v") rfl (by walk_at "u") (by walk_at "m") (by walk_at "t") #[] (by walk_at "w") (λ_ _ _ _ _ _ => #[]) (λ_ _ _ _ _ _ => #[]) (λ_ _ _ _ _ _ => #[]))|((with_reducible show J3 _ _ _ (j0 _ _)); exact PK (by walk_at "n") rfl (by walk_at "v") #[])|((with_reducible show J3 _ _ _ (t6 (B5 _))); exact FT (fr := false) #[])|((with_reducible show J3 _ _ _ (t6 _)); exact FT (fr := true) #[])|((with_reducible show J3 _ _ _ (Q6 _)); exact PL _ (pv _))|((with_reducible show J3 _ _ _ (C3 _ _ _)); exact Xq #[] #[] #[])|((with_reducible show J3 _ _ _ (L7 _ _ _)); exact PU Dq rfl (by walk_at "t") #[] #[] #[])|((with_reducible show J3 _ _ _ (K4 _ _)); exact UU (by walk_at "n") rfl (by walk_at "v") #[])|((with_reducible show J3 _ _ _ (BR)); exact Kk)|((with_reducible show J3 _ _ _ (jx _ _)); exact PR _ #[])|((with_reducible show J3 _ _ _ (de _ _)); exact UY _ (pv _) #[])|((with_reducible show J3 _ _ _ (IW _ _)); exact UX _ (pv _) #[])|((with_reducible show J3 _ _ _ (tG _ _)); exact HS Dq rfl (pv _) #[] (pv _))|((with_reducible show J3 _ _ _ (qk _ 1)); exact AZ (k := 1) _ (pv _))|((with_reducible show J3 _ _ _ (qk _ 2)); exact AZ (k := 2) _ (pv _))|((with_reducible show J3 _ _ _ (X3 _ _ _)); exact PJ _ (pv _) #[] #[])|((with_reducible show J3 _ _ _ (fD _ _ _)); exact Kg _ Dq #[] #[])|((with_reducible show J3 _ _ _ (J9 _)); exact Kl #[])|((with_reducible show J3 _ _ _ (ma)); exact Kj)|((with_reducible show J3 _ _ _ (T7 _ _ _ _ _)); exact PN T.cn (T.na _ (by decide)) (pv _) (by first|exact λ_ _ h => .inr h|exact λ_ _ h => .inl h) #[])|((with_reducible show J3 _ _ _ (bu _ _ _ _ _)); exact PM T.cn (T.na _ (by decide)) (pv _) #[] #[])|((with_reducible show J3 _ _ _ (nM _ _ _ _)); exact PQ T.cn (T.na _ (by decide)) (pv _) #[]))
local macro_rules | `(tactic| walk_at "z") => `(tactic| first|((with_reducible show aJ _ _ _ (hG _ _)); exact nQ.pt #[])|((with_reducible show aJ _ _ _ (cz _ _)); exact nQ.pt #[])|((with_reducible show aJ _ _ _ (cO _)); exact UQ #[])|((with_reducible show aJ _ _ _ (j5 (c6 P6 (B5 _) (B5 _)))); exact bC (fr := false) (r := HI K) (KI hr.units) Wc (bE _) #[] #[])|((with_reducible show aJ _ _ _ (j5 (c6 cR (B5 _) (B5 _)))); exact bC (fr := false) KJ Wh (bE _) #[] #[])|((with_reducible show aJ _ _ _ (j5 (B5 _))); exact FR (fr := false) #[])|((with_reducible show aJ _ _ _ (j5 (c6 J8 _ _))); exact bC (fr := true) (r := HK K) (KN hr.units) Wk (bE _) #[] #[])|((with_reducible show aJ _ _ _ (j5 (c6 P6 _ _))); exact bC (fr := true) (r := HI K) (KI hr.units) Wc (bE _) #[] #[])|((with_reducible show aJ _ _ _ (j5 (c6 oK _ _))); exact bC (fr := true) SI Wi (bE _) #[] #[])|((with_reducible show aJ _ _ _ (j5 (c6 qF _ _))); exact bC (fr := true) HZ We (bE _) #[] #[])|((with_reducible show aJ _ _ _ (j5 (c6 cR _ _))); exact bC (fr := true) KJ Wh (bE _) #[] #[])|((with_reducible show aJ _ _ _ (j5 (c6 aH _ _))); exact bC (fr := true) Gd EV (bE _) #[] #[])|((with_reducible show aJ _ _ _ (j5 (c6 uH _ _))); exact bC (fr := true) (r := Pq K) (XF hr.units) YY (bE _) #[] #[])|((with_reducible show aJ _ _ _ (j5 (c6 inD _ _))); exact bC (fr := true) (r := FN K false) KL a0d (by with_unfolding_all rfl) #[] #[])|((with_reducible show aJ _ _ _ (j5 (c6 rk _ _))); exact bC (fr := true) (r := FN K true) Bl Ub (by with_unfolding_all rfl) #[] #[])|exact FR (fr := true) #[])
local macro_rules | `(tactic| walk_at "q") => `(tactic| first|(show PX _ _ _ _ _; walk_at "x")|((with_reducible show eU _ _ _ _ (i9 _ _)); exact Qq #[] #[])|exact Gb|((with_reducible show Hl _ _ _ (bq _ _)); exact Qt #[] #[])|exact Vm|(show J3 _ _ _ _; walk_at "y")|(show fX _ [_] _ _; exact PY #[])|((with_reducible show fX _ _ _ (lZ _ _)); exact Km #[] #[])|exact PZ|(show aJ _ _ _ _; walk_at "z")|(show nQ _ (.BoolOp .And [_] _) _ _; exact PH #[])|(show nQ _ (.BoolOp .Or [_] _) _ _; exact UO #[])|((with_reducible show nQ _ _ _ (hG _ _)); exact UP #[] #[])|((with_reducible show nQ _ _ _ (cz _ _)); exact Xm #[] #[])|((with_reducible show jU _ _ _ _ _ (D5 G6 _)); exact HX rfl (T.n _ (by decide)) #[])|((with_reducible show jU _ _ _ _ _ (D5 cZ _)); exact Vd rfl (T.n _ (by decide)) #[])|((with_reducible show jU _ _ _ _ _ (D5 lu _)); exact Qh rfl (T.n _ (by decide)) #[])|((with_reducible show jU _ _ _ _ _ (F7 _)); exact Qg (K' := K) rfl #[])|((with_reducible show PG _ _ (Y8 _)); exact FY (by walk_at "n") rfl (by walk_at "v"))|((with_reducible show PG _ _ (BQ _ _ _)); exact Xu rfl #[])|((with_reducible show ML _ _ (tF _ _)); exact Qm #[] #[])|exact Vg|exact Ku|(show lA _ _ _ _; exact Kt #[])|exact Qf|(show MK _ _ _ _; exact Qe (fr := true) #[])|((with_reducible show rR _ _ _ (fO _ _)); exact Qr _ (pv _) #[])|((with_reducible show rR _ _ _ (J5 _ _)); exact Qs #[] #[])|exact Vl|((with_reducible show uf _ _ _ (J1 _ _ _ U2 _)); exact iY T.cn (pv _) T.cN.m (qa T).h (hr.mono (by omega)) T.cN.b dM #[] (pl := _))|((with_reducible show uf _ _ _ (J1 _ _ _ W9 _)); exact iY T.cn (pv _) T.dh.m (qK T).h (hr.mono (by omega)) T.dh.b dM #[] (pl := _))|((with_reducible show uf _ _ _ (J1 _ _ _ E7 _)); exact iY T.cn (pv _) T.S6.m (gs T).h (hr.mono (by omega)) T.S6.b dM #[] (pl := _))|((with_reducible show uf _ _ _ (J1 _ _ _ O8 _)); exact iY T.cn (pv _) T.du.m (qE T).h (hr.mono (by omega)) T.du.b dM #[] (pl := _))|((with_reducible show uf _ _ _ (J1 _ _ _ J4 _)); exact iY T.cn (pv _) T.mr.m (zV T).h (hr.mono (by omega)) T.mr.b dM #[] (pl := _))|((with_reducible show uf _ _ _ (J1 _ _ _ bP _)); exact iY T.cn (pv _) T.mq.m (zU T).h (hr.mono (by omega)) T.mq.b dM #[] (pl := _))|((with_reducible show uf _ _ _ (gU kB _)); exact Pt (Vv T).h (hr.mono (by omega)) rfl T.wz.m T.wz.F.kp T.wz.b dM #[]))
local macro_rules | `(tactic| walk_at "j") => `(tactic| exact okA _ λ_ _ _ _ _ _ nd hr => ⟨_, by walk_at "q"⟩)
local macro_rules | `(tactic| walk_at "i") => `(tactic| exact okB _ λ_ _ _ _ _ _ nd hr => ⟨_, by walk_at "q"⟩)
section
variable{P:B1}{w:t9}{K:i5}{mg:Str->Option c8}{base:Heap}{ad:TZ}(T:Txt K mg ad)
theorem tL:Ok P w mg base T.uU 1 (B3 K P7):=by delta P7 X0 X1;walk_at "j"
theorem EF:Ok P w mg base T.Ji 2 (B3 K W0):=by delta W0;walk_at "j"
theorem Qy:Ok P w mg base T.VN 2 (B3 K lM):=by delta lM;walk_at "j"
theorem rj:Ok P w mg base T.tO 3 (B3 K F5):=by delta F5 U3;walk_at "j"
theorem Qx:Ok P w mg base T.VM 1 (B3 K gA):=by delta gA;walk_at "j"
theorem Ey:Ok P w mg base T.Jb 4 (B3 K iF):=by delta iF nk;walk_at "j"
theorem Bp:Ok P w mg base T.ER 2 (B3 K fM):=by delta fM T3 T5;walk_at "j"
theorem Ex:Ok P w mg base T.Ja 1 (B3 K iE):=by delta iE;walk_at "j"
theorem Ib:Ok P w mg base T.Mi 1 (B3 K kA):=by delta kA oh;walk_at "j"
theorem tM:Ok P w mg base T.uV 1 (B3 K U8):=by delta U8 Q3;walk_at "j"
theorem KQ:Ok P w mg base T.Rv 1 (B3 K fZ):=by delta fZ qA;walk_at "j"
theorem gs:Ok P w mg base T.S6 1 (B3 K E7):=by delta E7 bj;walk_at "j"
theorem qK:Ok P w mg base T.dh 4 (jM K W9):=by delta W9 Z9 Z8 G9 I0 Z7 Z6;walk_at "i"
theorem qa:Ok P w mg base T.cN 4 (jM K U2):=by delta U2 Y0 Q4 X9 X8;walk_at "i"
theorem vD:Ok P w mg base T.jj 5 (jM K ah):=by delta ah cw cv gk gj;walk_at "i"
theorem qE:Ok P w mg base T.du 2 (B3 K O8):=by delta O8;walk_at "j"
theorem uD:Ok P w mg base T.gY 2 (B3 K O3):=by delta O3 fh;walk_at "j"
theorem ye:Ok P w mg base T.kL 2 (B3 K T4):=by delta T4 iL;walk_at "j"
theorem zV:Ok P w mg base T.mr 1 (jM K J4):=by delta J4 bU;walk_at "i"
theorem zU:Ok P w mg base T.mq 3 (jM K bP):=by delta bP bT eL bR;walk_at "i"
theorem Il:Ok P w mg base T.Mr 3 (B3 K kD):=by delta kD jH;walk_at "j"
theorem KU:Ok P w mg base T.Rz 4 (B3 K gd):=by delta gd af;walk_at "j"
theorem Qz:Ok P w mg base T.VO 3 (B3 K gB):=by delta gB gG;walk_at "j"
theorem KR:Ok P w mg base T.Rx 1 (B3 K ni):=by delta ni;walk_at "j"
theorem zT:Ok P w mg base T.Cg 2 (B3 K ax):=by delta ax aj;walk_at "j"
theorem Vv:Ok P w mg base T.wz 4 (jM K kB):=by delta kB;walk_at "i"
theorem KW:Ok P w mg base T.RA 3 (B3 K bg):=by delta bg qB lI;walk_at "j"
theorem Ez:Ok P w mg base T.Jc 3 (B3 K iG):=by delta iG bQ;walk_at "j"
theorem KP:Ok P w mg base T.Ru 3 (B3 K fY):=by delta fY lH;walk_at "j"
theorem KS:Ok P w mg base T.Ry 7 (B3 K nj):=by delta nj aT aa lE;walk_at "j"
theorem Le:Ok P w mg base T.RG 1 (B3 K A6):=by delta A6;walk_at "j"
theorem Lc:Ok P w mg base T.RE 1 (B3 K cu):=by delta cu iM iP;walk_at "j"
theorem QA:Ok P w mg base T.VP 2 (B3 K gD):=by delta gD;walk_at "j"
theorem Ig:Ok P w mg base T.Mm 2 (B3 K aS):=by delta aS;walk_at "j"
theorem Ld:Ok P w mg base T.RF 3 (B3 K dI):=by delta dI qC;walk_at "j"
theorem Ik:Ok P w mg base T.Mq 1 (B3 K gF):=by delta gF;walk_at "j"
theorem Bo:Ok P w mg base T.EO 2 (B3 K cK):=by delta cK kU;walk_at "j"
theorem zS:Ok P w mg base T.Cf 1 (B3 K dH):=by delta dH;walk_at "j"
theorem Ic:Ok P w mg base T.Mj 1 (B3 K gC):=by delta gC;walk_at "j"
theorem uB:Ok P w mg base T.wA 2 (B3 K X7):=by delta X7;walk_at "j"
theorem yc:Ok P w mg base T.zY 3 (B3 K cJ):=by delta cJ iK;walk_at "j"
theorem Ih:Ok P w mg base T.Mn 2 (B3 K Q1):=by delta Q1;walk_at "j"
theorem Lf:Ok P w mg base T.RH 3 (B3 K jn):=by delta jn;walk_at "j"
theorem EE:Ok P w mg base T.Jh 2 (B3 K eJ):=by delta eJ nu nt;walk_at "j"
theorem Lb:Ok P w mg base T.RD 3 (B3 K gi):=by delta gi lJ iN;walk_at "j"
theorem Bm:Ok P w mg base T.EM 3 (B3 K bh):=by delta bh fS;walk_at "j"
theorem Ii:Ok P w mg base T.Mo 4 (B3 K kC):=by delta kC jE jF;walk_at "j"
theorem Ij:Ok P w mg base T.Mp 5 (B3 K gE):=by delta gE jG fN;walk_at "j"
theorem Ie:Ok P w mg base T.Ml 4 (B3 K bW):=by delta bW jD;walk_at "j"
theorem Bn:Ok P w mg base T.EN 4 (B3 K J6):=by delta J6 kT kS;walk_at "j"
theorem ED:Ok P w mg base T.Jg 4 (B3 K iI):=by delta iI iR nr;walk_at "j"
theorem EC:Ok P w mg base T.Jf 5 (B3 K iH):=by delta iH iQ iJ nq;walk_at "j"
theorem EA:Ok P w mg base T.Jd 6 (B3 K aR):=by delta aR;walk_at "j"
theorem EB:Ok P w mg base T.Je 3 (B3 K eI):=by delta eI iO;walk_at "j"
theorem KZ:Ok P w mg base T.RB 3 (B3 K jm):=by delta jm eN;walk_at "j"
theorem La:Ok P w mg base T.RC 8 (B3 K gh):=by delta gh lF;walk_at "j"
theorem uC:Ok P w mg base T.wB 3 (B3 K cY):=by delta cY N7 fg Y5 bB ff eZ eX;walk_at "j"
theorem KY:Ok P w mg base T.ZE 9 (B3 K qz):=by delta qz pJ jo;walk_at "j"
end
end
theorem all_mk{l:Dx}{w:t9}{h:Heap}(X:K.In h)(G:h.Ns T8 mg)(hfa:mg "law" = some (.ref fa)){f0 f1 f2 f3 f4 f5 f6 f7 f8 f9 f10 f11 f12 f13 f14 f15 f16 f17 f18 f19 f20 f21 f22 f23 f24 f25 f26 f27 f28 f29 f30 f31 f32 f33 f34 f35 f36 f37 f38 f39 f40 f41 f42 f43 f44 f45 f46 f47 f48 f49 f50 f51 f52 f53 f54 f55 f56 f57 C nK qh:Addr}{d0 d1 d2 d3 d4 d5 d6 d7 d8 d9 d10 d11 d12 d13 d14 d15 d16 d17 d18 d19 d20 d21 d22 d23 d24 d25 d26 d27 d28 d29 d30 d31 d32 d33 d34 d35 d36 d37 d38 d39 d40 d41 d42 d43 d44 d45 d46 d47 d48 d49 d50 d51 d52 d53 d54 d55 d56 d57:O0}(aC:dF K T8 "Table" = some (some (.ref C)))(a0:Nf K "common_divisor" (top 4) f0 d0)(a1:Nf K "fraction" (top 5) f1 d1)(a2:Nf K "times" (top 6) f2 d2)(a3:Nf K "common_multiple" (top 10) f3 d3)(a4:Nf K "whole" (top 11) f4 d4)(a5:Nf K "scale_of" (top 12) f5 d5)(a6:Nf K "column_of" (top 13) f6 d6)(a7:Nf K "unit_row" (top 14) f7 d7)(a8:Nf K "product" (top 15) f8 d8)(a9:Nf K "column_product" (top 16) f9 d9)(a10:Nf K "turned" (top 17) f10 d10)(a11:Nm K C "__init__" "Table.__init__" (inClass (top 18) 0) f11 d11)(a12:Nm K C "set_weights" "Table.set_weights" (inClass (top 18) 1) f12 d12)(a13:Nm K C "set_limits" "Table.set_limits" (inClass (top 18) 2) f13 d13)(a14:Nm K C "first_prices" "Table.first_prices" (inClass (top 18) 3) f14 d14)(a15:Nm K C "rest" "Table.rest" (inClass (top 18) 4) f15 d15)(a16:Nm K C "amounts" "Table.amounts" (inClass (top 18) 5) f16 d16)(a17:Nm K C "paces" "Table.paces" (inClass (top 18) 6) f17 d17)(a18:Nm K C "flip" "Table.flip" (inClass (top 18) 7) f18 d18)(a19:Nm K C "turn" "Table.turn" (inClass (top 18) 8) f19 d19)(a20:Nf K "gain_of" (top 19) f20 d20)(a21:Nf K "moving" (top 20) f21 d21)(a22:Nf K "stops" (top 21) f22 d22)(a23:Nf K "sooner" (top 22) f23 d23)(a24:Nf K "first_stop" (top 23) f24 d24)(a25:Nf K "move" (top 24) f25 d25)(a26:Nf K "mix_of" (top 25) f26 d26)(a27:Nf K "price_of" (top 26) f27 d27)(a28:Nf K "way_of" (top 27) f28 d28)(a29:Nf K "solved" (top 28) f29 d29)(a30:Nf K "_law_draw" (top 30) f30 d30)(a31:Nf K "_law_norm" (top 31) f31 d31)(a32:Nf K "_law_sum" (top 32) f32 d32)(a33:Nf K "_law_times" (top 33) f33 d33)(a34:Nf K "_law_more" (top 34) f34 d34)(a35:Nf K "_law_below" (top 35) f35 d35)(a36:Nf K "_law_cheaper" (top 36) f36 d36)(a37:Nf K "_law_negative" (top 37) f37 d37)(a38:Nf K "_law_whole" (top 38) f38 d38)(a39:Nf K "_law_is_fraction" (top 39) f39 d39)(a40:Nf K "_law_is_triple" (top 40) f40 d40)(a41:Nf K "_law_small" (top 41) f41 d41)(a42:Nf K "_law_cost" (top 42) f42 d42)(a43:Nf K "_law_firsts" (top 43) f43 d43)(a44:Nf K "_law_rows" (top 44) f44 d44)(a45:Nf K "_law_product" (top 45) f45 d45)(a46:Nf K "_law_rests" (top 46) f46 d46)(a47:Nf K "_law_floor" (top 47) f47 d47)(a48:Nf K "_law_total" (top 48) f48 d48)(a49:Nf K "_law_is_list" (top 49) f49 d49)(a50:Nf K "_law_is_mix" (top 50) f50 d50)(a51:Nf K "_law_is_way" (top 51) f51 d51)(a52:Nf K "_law_walked" (top 52) f52 d52)(a53:Nf K "_law_rights" (top 53) f53 d53)(a54:Nf K "_law_tops" (top 54) f54 d54)(a55:Nf K "_law_told" (top 55) f55 d55)(a56:Nf K "_law_going_round" (top 56) f56 d56)(a57:Nf K "law" (top 57) f57 d57)(hc:(sj K C V4=true/\sr K C=true)/\DN K C=true/\az K (.ref C) "__setattr__" = some (some (.builtin "object.__setattr__")))(mc:Dz K C=true)(kc:fL K (.ref C)=true)(na:Al (W7 K C) ["scales","columns","multiples","weights","unit","rights","limits","chosen","full","size","inverse","prices"])(z:Al (λs=>dF K T8 s=some none) ["abs","all","bool","enumerate","int","isinstance","len","list","range","sorted","sum","tuple","zip"])(LC:dF K T8 "NOUGHT" = some (some (.ref nK)))(LA:K.lookup nK=some ⟨.type "tuple",LB,.seq #[(.int 0 EK),(.int 1 EJ)] Lz,Lx⟩)(QZ:dF K T8 "PARTS" = some (some (.ref qh)))(QW:K.lookup qh=some ⟨.type "tuple",QY,.seq #[(.int 0 IG),(.int 1 IF),(.int 2 IE)] QV,QT⟩):
  ∃fd:O0,(∀(s:h8) (v:c8),mE s fd ⟨[v],[]⟩ [("_law_script",v)])/\∀base:Heap,K.In base->base.Ns T8 mg->Z5 l.prog w K mg base pL 9 fa fd ["_law_script"] (B3 K qz):=by
 have e:=hfa.symm.trans (wZ X G a57.a);cases e
 let ad:TZ:=⟨λi=>[f0,f1,f2,f3,f4,f5,f6,f7,f8,f9,f10,f11,f12,f13,f14,f15,f16,f17,f18,f19,f20,f21,f22,f23,f24,f25,f26,f27,f28,f29,f30,f31,f32,f33,f34,f35,f36,f37,f38,f39,f40,f41,f42,f43,f44,f45,f46,f47,f48,f49,f50,f51,f52,f53,f54,f55,f56,fa].getD i fa,λi=>[d0,d1,d2,d3,d4,d5,d6,d7,d8,d9,d10,d11,d12,d13,d14,d15,d16,d17,d18,d19,d20,d21,d22,d23,d24,d25,d26,d27,d28,d29,d30,d31,d32,d33,d34,d35,d36,d37,d38,d39,d40,d41,d42,d43,d44,d45,d46,d47,d48,d49,d50,d51,d52,d53,d54,d55,d56,d57].getD i d57,.ref nK,.ref nK,.ref qh,.ref qh,C⟩
 have g {n:Str} {f:Addr}:=@PySem.W.mg_of K h mg n (.ref f) X G;have T:Txt K mg ad:=⟨p8 a0.r (g a0.a),p8 a1.r (g a1.a),p8 a2.r (g a2.a),p8 a3.r (g a3.a),p8 a4.r (g a4.a),p8 a5.r (g a5.a),p8 a6.r (g a6.a),p8 a7.r (g a7.a),p8 a8.r (g a8.a),p8 a9.r (g a9.a),p8 a10.r (g a10.a),p8 a11.r ⟨mc,a11.a,a11.i,kc⟩,p8 a12.r a12.mt,p8 a13.r a13.mt,p8 a14.r a14.mt,p8 a15.r a15.mt,p8 a16.r a16.mt,p8 a17.r a17.mt,p8 a18.r a18.mt,p8 a19.r a19.mt,p8 a20.r (g a20.a),p8 a21.r (g a21.a),p8 a22.r (g a22.a),p8 a23.r (g a23.a),p8 a24.r (g a24.a),p8 a25.r (g a25.a),p8 a26.r (g a26.a),p8 a27.r (g a27.a),p8 a28.r (g a28.a),p8 a29.r (g a29.a),p8 a30.r (g a30.a),p8 a31.r (g a31.a),p8 a32.r (g a32.a),p8 a33.r (g a33.a),p8 a34.r (g a34.a),p8 a35.r (g a35.a),p8 a36.r (g a36.a),p8 a37.r (g a37.a),p8 a38.r (g a38.a),p8 a39.r (g a39.a),p8 a40.r (g a40.a),p8 a41.r (g a41.a),p8 a42.r (g a42.a),p8 a43.r (g a43.a),p8 a44.r (g a44.a),p8 a45.r (g a45.a),p8 a46.r (g a46.a),p8 a47.r (g a47.a),p8 a48.r (g a48.a),p8 a49.r (g a49.a),p8 a50.r (g a50.a),p8 a51.r (g a51.a),p8 a52.r (g a52.a),p8 a53.r (g a53.a),p8 a54.r (g a54.a),p8 a55.r (g a55.a),p8 a56.r (g a56.a),p8 a57.r (g a57.a),⟨aC,⟨hc.1.1,hc.1.2,hc.2.1,hc.2.2⟩⟩,g aC,λ_ m=>na.at m,λ_ m=>PySem.W.mg_none_of X G (z.at m),zG (vs:=[.int (0),.int (1)]) (wZ X G LC) LA (by simp) (.cons ⟨_,rfl⟩ (.cons ⟨_,rfl⟩ .nil)) λH=>(.cons (.int _) (.cons (.int _) .nil)),zG (vs:=[.int (0),.int (1),.int (2)]) (wZ X G QZ) QW (by simp) (.cons ⟨_,rfl⟩ (.cons ⟨_,rfl⟩ (.cons ⟨_,rfl⟩ .nil))) λH=>(.cons (.int _) (.cons (.int _) (.cons (.int _) .nil)))⟩
 obtain⟨l',c',k'⟩:=a57.r;exact⟨_,λs v=>.of_eq rfl,λbase _ _=>(KY T).h⟩
theorem walk {l:Dx} {q:B1} {XP:(Str->Option c8)->Heap->Prop} {YP:t9->Heap->Prop} {d:DefRec} {K:Params->i5} (hL:∀ns:List Int,ns.length<=63->qz [.list (ns.map .int)]=some (.dat (.bool true))) (hn:l.most=some 63) (hdf:d.params.defaults=[]) (hY:∀(w:t9) (h:Heap),YP w h->(K w.params).In h) (F:∀(w:t9) (mg:Str->Option c8) (fa:Addr) (h:Heap),(K w.params).In h->h.Ns T8 mg->mg d.name=some (.ref fa) ->
   ∃fd:O0,(∀(s:h8) (u:c8),mE s fd ⟨[u],[]⟩ [("_law_script",u)])/\∀base:Heap,(K w.params).In base->base.Ns T8 mg->Z5 l.prog w (K w.params) mg base pL 9 fa fd ["_law_script"] (B3 (K w.params) qz)) :
  PySem.W.WalkO q loose XP YP l.row.toRowW d [] (λf vs=>CK f vs) :=
 L2.Ff (n:=63) (k:=9) (x:="_law_script") (CX:=λ_=>pL) (sp:=λw=>B3 (K w.params) qz) hn (by decide) hdf ⟨rfl,by decide,by decide⟩ hY F (λ_ _ a ns hl _ hS=>⟨[],[.list (ns.map .int)],_,λa h=>absurd h (by simp),.cons (.lst (Ul hS) (Cd ns)) .nil,hL ns hl,λv H' _ r=>VJ r⟩) λ_ _ _ _ _ z=>z
end
end Law
local macro_rules | `(tactic| walk_at "k") => `(tactic| (refine' Law.Rw.mk ?l ?c ?k; (case l => k_is); (case c => k_is); (case k => k_is)))
local macro_rules | `(tactic| walk_at "p") => `(tactic| exact⟨by k_is, by walk_at "k"⟩)
local macro_rules | `(tactic| walk_at "o") => `(tactic| exact⟨by k_is, by k_is, by walk_at "k"⟩)
local macro_rules | `(tactic| walk_at "a") => `(tactic| repeat first|exact .n|refine .c (by show _ = _; k_is) ?_)
structure PySem.W.Fast:Prop where
 (tw5170560533421143501 tw9237732778034102162 tw13029837652467268813 tw5354632757122902039 tw13470824382404220371 tw7499197582071377225 tw15912801456176349199 tw1551972037999187670 tw7085868619936835034 tw6171349604091196636 tw13574017573323482605 tw11565639262158988047 tw5493662186397248002 tw660151434062543164 tw7383929960516711618 tw3778227027904861026 tw6918426140522105289 tw17344501865304160399 tw6862056371434622371 tw17785507054858547612 tw18385915234794025392 tw16458897130631768099 tw14191717109354928251 tw9586636220050902970 tw2088811119242098609 tw17003971114088963002 tw7692180667134402143 tw4675488871662681345 tw13514033959953273328 tw3138353495153219078 tw6194377367282671489 tw16828029393957008179 tw12981780033151081619 tw12189497943716083429 tw4869910697885009145 tw11452077462588755138 tw4420843479375963196 tw6899099149236431260 tw11709305826702898969 tw1263217818582899387 tw18210228859687400039 tw4683073489830539219 tw9469115739469889542 tw15655048105047332261 tw16607172311267255608 tw2891716234281855313 tw5654838759278533024 tw15997149824766635947 tw15344716312924780042 tw9690464337182850078 tw10985220544978484047 tw17139766095998768000 tw7655644012561836524 tw1747330007357871584 tw4481267302568453854 tw10361591477757841372 tw13384953245077254266 tw9079959976310471455 tw4919947226408198590 tw13262801220051738791 tw10338653222175899312 tw16084939455244416068 tw9832851587919752475 tw7508900340692844390 tw12061028600506921071 tw11791632794000607838 tw11279261524131231435 tw9622757659914331662 tw5878404588869643453 tw9085568234036878720 tw4754347785506902625 tw300576017520962743 tw10672694997499170486 tw14207872062272034559 tw5336672437673169206 tw13107072966197645613 tw5088123512855691526 tw17435473558390308455 tw2908783963581394914 tw10482496291920630497 tw6396551684999366305 tw13288429820567430063 tw7109997250443529725 tw9168337491293181742 tw7536367334501932891 tw14395649924783955643 tw17275851532372219746 tw6004968826539416711 tw7918157698118481509 tw9149269152189839618 tw8594730884994189520 tw1023805168253193849 tw3301403288492390652 tw5573025977890678458 tw12168158660342881209 tw2558798006468952630 tw4626219028993565352 tw14966423100187713627 tw7581832034506686858 tw6446136482199624318 tw4940236830821724677 tw557248076075332850 tw4583741638845692287 tw15480729726690783574 tw10175247767346747047 tw8603814344095138839 tw13779092686702810366 tw16875093328396469058 tw8451987365833857087 tw17661643462272489645 tw7267010038532415866 tw12793299095278209679 tw8035155276230185352 tw14009862259455172971 tw2519637566032219245 tw9086875711747991101 tw13281760173232336437 tw4796052149778463484 tw11969014204275871158 tw3764181924523456664 tw2000256541260973742 tw12466869218226169532 tw17159690297648010640 tw3502160422565320880 tw10209828157217089662 tw17672748603841393444 tw13562803808472300327 tw15456664745380021748 tw3113561035602100918 tw18136300460686376577 tw18000047459718140146 tw4927621389802376978 tw8134701106696875583 tw15067079108521063682 tw9943565619084816229 tw14357189059966856999 tw7438879903391757468 tw3163983537162236535 tw16343819272874439245 tw5421323426991951826 tw2023772795915988158 tw8255016392124409242 tw7232047557727167746 tw17289836882674724128 tw16409131061854402595 tw8976540032010645988 tw14209487557730502591 tw3172407156372239442 tw12207946140930470327 tw1735561945981016157 tw15219459789136961004 tw16079262664648696015 tw15081963578507801924 tw15649930076847604400 tw3323033938395604465 tw10348856125807539749 tw18086187749114282125 tw13639473091549013799 tw6648116611503279740 tw15626889631945287270:True)
open PySem PySem.W PyProof.Rows
set_option maxRecDepth 100000 in
set_option maxHeartbeats 0 in
theorem PySem.Challenge.cw_sunstore_k33_whole_solved_and_borne_out_holds : PySem.Challenge.rw_sunstore_k33_whole_solved_and_borne_out.Holds := by
 w_on;o_law;k_head;(case hw=>w_witness2)
 k_fill
 refine Law.walk (l:=PySem.Challenge.rw_sunstore_k33_whole_solved_and_borne_out) Law.QR rfl rfl (λw h Y=>PySem.W.kIn_of Y) ?F
 case F =>
  intro w mg fa h KX G hmg;exact Law.all_mk KX G hmg (by k_is) (by walk_at "p") (by walk_at "p") (by walk_at "p") (by walk_at "p") (by walk_at "p") (by walk_at "p") (by walk_at "p") (by walk_at "p") (by walk_at "p") (by walk_at "p") (by walk_at "p") (by walk_at "o") (by walk_at "o") (by walk_at "o") (by walk_at "o") (by walk_at "o") (by walk_at "o") (by walk_at "o") (by walk_at "o") (by walk_at "o") (by walk_at "p") (by walk_at "p") (by walk_at "p") (by walk_at "p") (by walk_at "p") (by walk_at "p") (by walk_at "p") (by walk_at "p") (by walk_at "p") (by walk_at "p") (by walk_at "p") (by walk_at "p") (by walk_at "p") (by walk_at "p") (by walk_at "p") (by walk_at "p") (by walk_at "p") (by walk_at "p") (by walk_at "p") (by walk_at "p") (by walk_at "p") (by walk_at "p") (by walk_at "p") (by walk_at "p") (by walk_at "p") (by walk_at "p") (by walk_at "p") (by walk_at "p") (by walk_at "p") (by walk_at "p") (by walk_at "p") (by walk_at "p") (by walk_at "p") (by walk_at "p") (by walk_at "p") (by walk_at "p") (by walk_at "p") (by walk_at "p") ⟨⟨by k_is,by k_is⟩,by k_is,by k_is⟩ (by k_is) (by k_is) (by walk_at "a") (by walk_at "a") (by k_is) (by k_is) (by k_is) (by k_is)
