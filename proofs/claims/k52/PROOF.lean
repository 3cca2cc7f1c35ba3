import PyProof.Rows.All
import Wide.All
import OpenK.AllK
import Wide.FinOn
import Lean
import PyProof.EqAt
import PyProof.EqKinds
import PyProof.TupleCall
import PyProof.FactsAll.zip_0
import PyProof.FactsAll.zip_1
import KE.KDictOf
import PySem.Challenge.RW_sunstore_k52_whole_no_plan_costs_less
set_option compiler.extract_closed false
set_option linter.all false
theorem a1n{p:Prop}(h:p:=by rfl):p:=h
def k6:=a1n._auto_1
theorem a1o{p:Prop}(h:p:=by intro _;rfl):p:=h
def Q4:=a1o._auto_1
theorem a0b{p:Prop}(h:p:=by intro _ _;rfl):p:=h
def jO:=a0b._auto_1
theorem a1p{p:Prop}(h:p:=by first|exact .inl rfl|exact .inr rfl|assumption):p:=h
def bC:=a1p._auto_1
theorem f5{p:Prop}(h:p:=by decide):p:=h
def E5:=f5._auto_1
theorem j7{p:Prop}(h:p:=by lia):p:=h
theorem t4{p:Prop}(h:p:=by decide +kernel):p:=h
theorem t7{p:Prop}(h:p:=by simp):p:=h
theorem k8{p:Prop}(h:p:=by assumption):p:=h
def mT:=k8._auto_1
theorem jM{p:Prop}(h:p:=by omega):p:=h
theorem o9{p:Prop}(h:p:=by simp[*]):p:=h
theorem lI{p:Prop}(h:p:=by contradiction):p:=h
theorem B4{p:Prop}(h:p:=by repeat constructor):p:=h
theorem nE{α:Type u}{x:α}{p:Prop}(h:none=some x):p:=nomatch h
theorem nS{α:Type u}{x:α}{p:Prop}(h:some x=none):p:=nomatch h
theorem nT{p:Prop}(h:false=true):p:=nomatch h
theorem nF{p:Prop}(h:true=false):p:=nomatch h
theorem j3{d c:Type}{o:Option d}{f:d->Option c}{b:c}(h:o.bind f=some b):∃a,o=some a/\f a=some b:=Option.bind_eq_some_iff.1 h
theorem D7{p:Prop}[Decidable p]{d:Type}{o:Option d}{b:d}(h:(if p then o else none)=some b):p/\o=some b:=by
 split at h;exact⟨‹_›,h⟩;exact nE h
set_option Elab.async false
set_option maxRecDepth 100000
set_option maxHeartbeats 4000000
set_option backward.match.sparseCases false
set_option bootstrap.genMatcherCode false
set_option compiler.reuse false
set_option tactic.hygienic false
noncomputable section
open PySem renaming PyData->f7,wpAny_bind->l8,Value->j5,starEach->m8,Shared->l5,wpAny_pure->p4,sizeLine->A5,backTo->C6,World->x5,attributeBase->Z2,foldedSetIterable->dw,Program->H9,wpAny_field->V1,mainGlobals->X2,FuncData->P8,wpAny_callSpecial?_slot->lL,compareOp->Z0,swapsWith->ag,keywordEach->dq,wpAny_seqItems->iR,mem_of_lookup->oz,wpAny_mono->aR,bootBuiltins->dM,binaryOp->V6,wpAny_call_entry->jd,wpAny_holding->gx,IsPair->Q5,wpAny_setField_rec->nH,backToKw->aQ,wpAny_newObj_type->nB,cLine->N6,Keyword->aa,rawInt->V5,wpAny_Call_Name_kw->qf,wpAny_passesOwn->nr,Around->X9,assignEach->gr,standAt->bH,cellsFrom->gq,wpAny_truthy_bool->tN,getMethod->iX,call_meets->kL,ZipApart->gp,behindInMarks->pY,sliceBounds->nh,Scope->bG,getItem->gk,wpAny_rule->mZ,sizeLine_eq->pT,wpAny_nextOf_list_item->Fd,swapsWithSole->tq,swappedStores->tm,wpAny_attempt->tj,NameKind->kJ,tupleKind->mY,notedBy->iV,sysModules->pQ,wpAny_execs_nil->yg,IsPart->gj,wpAny_typeOf->sY,wpAny_updateSeq_pair->EV,BindsTo->kH,pushCells->pP,wpAny_onRaise->ya,typeLookup->sT,callerA->mW,codeAny_mono->xZ,concat_meets->xY,noFill_tuple_add->EF,wpAny_isInstance->EC,wpAny_pyIter_zip->EB,PassesOwn->sP,letOwnedTupleGo->Ew,codeAny_builtin->Ep,setItem->pO,pyNext->mV,valueAt->pM,wpAny_nextOf_list_end->NU,isSubtype_stop->Ej,builtinLookup_eq_fast->NS,compEnvC->sO,compPost->sM,natAbs_fdiv_le->NP,wpAny_pyIter_revIter->NL,wpAny_standAt->Ei,seq_tuple_add->Eg,plainId_quiet->Ef,Within->Ec,seqIndex_neg->Ea,call->DJ
open Option renaming some->U,none->J,bind_some->n8,map_some->pZ,map_eq_some_iff->EZ,bind->sU,getD_none->Np
open PySem.W renaming Frag->n6,findIn->ai,keepIn->gA,emptyDict->kR,nsIn->eY,instObj->kQ,fnOf->gw,hasDictIn->tM,plainGet->tJ,kitOne->tD,isFn->sZ,plainGet_of->ES,lookIn->yf,codeIn->ye,callWith_K->EO,plainOver->EI,specialIn->EH,takerIn->Eu,makesIn->Et,OpenLaw->Er,cellsFrom_some->Od,methodCall_KW->NW,mroIn->Eh,mg_of->Ed,handedIn->Nq,takesIn->Nh
open List renaming mem_cons_of_mem->u7,mem_cons_self->v8,getElem?_eq_getElem->F2,mem_append_right->F4,replicate->w5,map_cons->v5,length_map->A6,getElem?_map->L1,mem_append_left->P9,range->A3,size_toArray->R3,length_append->Z4,length_cons->ao,cons_append->ak,map_append->aj,getElem?_append_left->iU,mem_cons->X3,append_nil->aX,nil_append->aW,getElem?_set_ne->gM,getElem?_append_right->oB,not_mem_nil->fB,getD_eq_getElem?_getD->oA,set_cons_zero->iS,range_succ->fA,zip_cons_cons->jW,map_map->ei,getElem?_cons_succ->qT,drop_eq_getElem_cons->qk,mem_of_getElem?->nL,length_nil->jb,mem_append->ja,getElem?_range->nI,length_replicate->qh,lookup->eX,lookup_cons->nt,getElem?_set_self->tQ,length->iY,ext_getElem->qc,getElem_map->qb,map_congr_left->tP,flatMap_append->tO,length_range->tK,getElem?_eq_none->yy,length_take->tH,getElem_mem->tF,filterMap_cons->yw,map_nil->pX,zipWith->pW,getElem?_replicate->Fn,reverse_cons->yo,getElem?_set->ym,flatMap_cons->yl,drop_of_length_le->EY,flatMap_nil->yh,length_singleton->EX,length_reverse->ER,mem_filterMap->EN,set_cons_succ->EK,getElem_range->EJ,length_drop->EE,drop_length->EA,getElem_set->Ez,nodup_range->Ey,getElem?_cons_zero->Og,of_mem_zip->Es,foldl_cons->En,take_of_length_le->NY,getElem?_append->NO,range_eq_range'->NM,mem_of_mem_take->NK,length_zipWith->NG,mem_replicate->NA,reverse->DZ,map_replicate->Nz,findIdx?_cons->Nx,append_assoc->Nu,getElem_inj->Nr,range'_succ->Nm,take_length->Nl,length_set->Ng,forIn_cons->Nf,nodup_cons->Nb,find?_cons->Na
open PySem.Heap renaming get?_push_of_some->F8,lt_size->C3,get?_push_size->U1,size_push->gL,SameBut->nq,get?_update_other->Oa,get?_update_self->NV
open Nat renaming le_trans->p5,lt_of_lt_of_le->J4,ne_of_lt->O2,lt_irrefl->Z3,le_refl->X1,le_of_lt->bF,le_add_right->jV,lt_of_le_of_lt->kS,mul_le_mul_right->nK,ne_of_gt->eZ,lt_of_le_of_ne->nG,lt_succ_of_lt->nC,le_of_not_lt->nu,zero_le->gs,le_of_lt_succ->qe,lt_trans->kN,le_succ_of_le->tL,le_of_eq->nk,lt_succ_self->tI,pow_le_pow_right->yx,add_comm->pV,zero_add->pU,succ_le_succ->yj,coprime_comm->yi,mul_comm->sX,add_le_add_right->EU,add_le_add->yc,mul_le_mul->yb,add_right_comm->EM,min_le_right->ED,lt_add_right->Ex,lt_add_of_pos_right->Oe,not_lt_zero->Eo,Coprime->xV,sub_le->xQ,sub_succ_lt_self->NQ,pow_lt_pow_right->NI,mul_assoc->Ee,lt_of_lt_of_eq->NC,lt_or_ge->DY,pow_succ->DX,pow_pos->DQ,succ_lt_succ->Nn,mul_mod_left->Nk,mod_eq_of_lt->Nj,div_eq_of_lt->Ni
open Nat.le renaming refl->y4
open Int renaming fdiv_eq_ediv_of_nonneg->aq,mul_comm->F1,gcd->u4,mul_pos->F0,mul_assoc->L9,mul_le_mul_of_nonneg_left->fF,le_of_lt->O3,zero_add->O1,mul_zero->Q9,le_trans->Q8,toNat_natCast->ck,mul_le_mul_of_nonneg_right->lM,mul_ediv_cancel_left->iT,mul_nonpos_of_nonneg_of_nonpos->qV,natAbs_mul->cj,one_mul->Z1,zero_mul->bE,gcd_pos_of_ne_zero_right->qU,le_of_dvd->fz,gcd_dvd_right->lK,gcd_dvd_left->jc,lt_or_le->dJ,mul_add->cC,mul_nonneg->gz,natAbs_of_nonneg->nJ,fmod_nonneg_of_pos->qi,eq_of_mul_eq_mul_right->tT,gcd_ediv_gcd_ediv_gcd->tR,dvd_refl->gu,mul_left_comm->ny,dvd_trans->iZ,natCast_nonneg->qg,le_add_of_nonneg_right->yH,eq_of_mul_eq_mul_left->yE,le_of_mul_le_mul_left->yD,mul_neg_of_neg_of_pos->yC,ediv_pos_of_pos_of_dvd->Fs,mul_one->ni,ediv_mul_cancel->yu,fmod_lt_of_pos->yr,lt_of_le_of_lt->yq,mul_le_mul->tw,mul_nonpos_of_nonpos_of_nonneg->OA,le_refl->pR,add_zero->sW,sub_zero->sV,lt_or_eq_of_le->EL,gcd_comm->xW,mul_fdiv_cancel_left->Oj,dvd_mul_of_dvd_left->Of,neg_mul->xU,mul_ediv_cancel->NF,gcd_zero_right->Ny,add_mul->DR,pow_add->DN
open Option.some renaming inj->R1,injEq->Nv
open Bool renaming true->Uf,false->U',false_ne_true->cm,false_eq_true->kT,eq_iff_iff->qa,and_eq_true->tG,false_and->Ek,or_eq_false_iff->NJ,not_eq_true'->Nw,or_eq_true->Nc
open PySem.NameKind renaming cell->aV,free->gK
open PySem.PyData renaming eqv->U0,canLayAll0->fE,int->V0,canLay0->iQ,tuple->nj,list->nc,eqvAll->tc,depthAll->El,strOk->DU,depth->DT
open PySem.SeqAt renaming shaped->ah,canLay_of_shaped->yz,list_indexAt->Ol
open PyProof.Rows renaming callWith_type1->oC,slot_tuple_getitem->yJ,IntsAre->cz,envOfC->eV,AllBare->iW,IsTup->gi,subscriptTail_builtinR->Ob
open Rat renaming mul_pos->dk,intCast_mul->gB,mul_nonneg->gy,le_of_lt->kM,intCast_sub->tE,sub_eq_add_neg->yp,mul_lt_mul_of_pos_right->Ox,intCast_neg->Em,le_refl->xT,zero_mul->DW,div_def->DP
open PySem.Value renaming ref->ae,type->xS,int->xP,str->xO,none->DM,bool->DK
open PySem.F renaming plainAttrs_list->qj,slot_zip_next->kO,slot_tuple_iterator_next->yI,slot_list_index->yA,args_tuple_add_2->Fq,entry_tuple_add->Fj,args_zip_next_1->yn,slot_tuple_add->Fg,entry_zip_next->yk,slot_dict_get->EW,args_tuple_iterator_next_1->Oz,entry_tuple_iterator_next->Oy,args_list_index_2->Ot,slot_list_append->Oq,type_list_append->Oo,entry_list_index->Om,args_dict_get_3->Oi,type_list_index->Oh,entry_dict_get->NZ,slot_enumerate_next->NT
open False renaming elim->cA
open Classical renaming byContradiction->tS,propDecidable->yB,epsilon_spec->NX,epsilon->Nt
open ForInStep renaming yield->kP
open PySem.Builtin.Slice renaming slicePlaces->yG,sliceAdjust->Ou
open PySem.Builtin.SmallTypes renaming nextOf->yF
open PySem.Str renaming empty->kK
open PySem.Calls renaming spliced_cons->yt,callWith_builtin->Ff,Name_function_global->Ow,spliced_nil->EG,evalArgs_plain->NR
open PySem.Builtin.List renaming listTooLong->Fp
open Sum renaming inr->gm,inl->mX
open Array renaming length_toList->ET,append_assoc->ND
open Ne renaming symm->kI
open PySem.Builtin.Tuple renaming tupleItemsOf->Ov
open PySem.Obj renaming mapSeq->sS,data_mapFields->NB
open Nat.succ renaming inj->xX
open True renaming intro->xR
open PySem.Heap.SameBut renaming update->NH
open PySem.Around renaming under->Eb
open List.cons renaming injEq->MZ
open PySem.PassesOwn renaming never->MY
open PyProof.Rows.IsTup renaming new->DI
theorem E6{a b:Int}(h:autoParam (b<a) mT):a≠b:=Int.ne_of_gt h
theorem bx{a b:Int}(h:autoParam (a<b) mT):a<=b:=O3 h
theorem cO{a b:Nat}(h:autoParam (a<b) mT):a<b+1:=nC h
theorem cw{a b:Nat}(h:autoParam (a<b) mT):a<=b:=bF h
theorem ju{a b c:Nat}(h:autoParam (a<=b) mT):a<=c+b:=Nat.le_add_left_of_le h
theorem ph{a b c:Nat}(h:autoParam (a+b<=c) mT):a<=c:=p5 (jV _ _) h
theorem rZ{a b c:Nat}(h:autoParam (b+a<=c) mT):a<=c:=p5 (Nat.le_add_left _ _) h
abbrev j1:=@if_neg
abbrev j2:=@if_pos
abbrev r9:=@congrArg
abbrev S6:=@decide_eq_false
abbrev du:=@decide_eq_true
abbrev Q6:=@if_true
abbrev nA:=@of_decide_eq_true
abbrev dI:=@or_false
open List (mem_range mem_map mem_singleton mem_flatMap)
namespace L2
open PySem PySem.Spec PyProof.Rows
variable{c:l5}{d:List (Addr×Obj)}{e B:Addr}{o Z:Expr}{p R:Pos}{h Y:Heap}{m:Str}{k:Nat}{A:X9}{q:j5->l5->Prop}{y:H9}{D:j5}{z:List j5}{G:List Expr}{L:List Addr}{N:List Str}{O:n6}{a6:x5}{a7:Str->Option j5}{a8:P8}{a9:List Stmt}{b3:Unit->l5->Prop}{b4:j5->j5->Sem j5}{b6:List (Str×j5)}{b7:j5×List j5->l5->Prop}
abbrev hz(s:l5):Nat:=s.heap.objs.size
abbrev Key:=Sum Int Str
def um:Key->j5->Bool
 | .inl k,v=>Value.isInt k v
 | .inr x,v=>Value.isStrOf x v
def a2u(w:x5):Key->Int
 | .inl k=>hashInt k
 | .inr x=>hashStr w x
def W9:∀{k:Key} {v:j5},um k v=Uf->(∃i t,k=mX i/\v=xP i t)\/(∃x t,k=gm x/\v=xO x t)
 | .inl i,v,h=>by obtain⟨t,e⟩:=Value.isInt_shape h;exact .inl ⟨i,t,rfl,e⟩
 | .inr x,v,h=>by obtain⟨t,e⟩:=Value.isStrOf_shape h;exact .inr ⟨x,t,rfl,e⟩
def Mg(i:Int)(t:Tok):um (.inl i) (.int i t)=Uf:=by simp[um,Value.isInt]
def Mf(x:Str)(t:Tok):um (.inr x) (.str x t)=Uf:=by simp[um,Value.isStrOf]
def Zw(a b:Int):decide ((mX a:Key)=mX b)=(a==b):=by
 by_cases e:a=b;subst e;simp;have h:¬(mX a:Key)=mX b:=λq=>e (Sum.inl.inj q);rw[S6 h];exact(beq_eq_false_iff_ne.mpr e).symm
def Zt(a b:Str):decide ((gm a:Key)=gm b)=decide (a=b):=by
 by_cases e:a=b;subst e;simp;have h:¬(gm a:Key)=gm b:=λq=>e (Sum.inr.inj q);rw[S6 h,S6 e]
def Zv(a:Int)(b:Str):decide ((mX a:Key)=gm b)=U':=S6 (λq=>nomatch q)
def Zu(a:Str)(b:Int):decide ((gm a:Key)=mX b)=U':=S6 (λq=>nomatch q)
def Y6(prog:H9)(w:x5):PySem.KeyKind prog w Key where
 is:=um
 hash:=a2u w
 inj:=λv a b ha hb=>by
  rcases W9 ha with ⟨i,t,rfl,rfl⟩|⟨x,t,rfl,rfl⟩
  . rcases W9 hb with ⟨j,u,rfl,e⟩|⟨y,u,rfl,e⟩
    . injection e with e1 _;rw[e1]
    exact nomatch e
  . rcases W9 hb with ⟨j,u,rfl,e⟩|⟨y,u,rfl,e⟩
    exact nomatch e
    . injection e with e1 _;rw[e1]
 byValue:=λk v h=>by rcases W9 h with ⟨i,t,rfl,rfl⟩|⟨x,t,rfl,rfl⟩<;>rfl
 pyHash:=λhv h=>by
  rcases W9 hv with ⟨i,t,rfl,rfl⟩|⟨x,t,rfl,rfl⟩
  exact wpAny_pyHash_int h;exact wpAny_pyHash_str h
 eqBool:=λhu hv h=>by
  rcases W9 hu with ⟨i,t,rfl,rfl⟩|⟨x,t,rfl,rfl⟩
  . rcases W9 hv with ⟨j,u,rfl,rfl⟩|⟨y,u,rfl,rfl⟩
    rw[Zw]at h;exact wpAny_eqBool_int h;rw[Zv]at h;exact SeqAt.EqAt.int_str i t y u _ _ _ _ h
  . rcases W9 hv with ⟨j,u,rfl,rfl⟩|⟨y,u,rfl,rfl⟩
    rw[Zu]at h;exact SeqAt.EqAt.str_int x t j u _ _ _ _ h;rw[Zt]at h;exact wpAny_eqBool_str h
 «strs»:=λk x t v h=>by
  rcases W9 h with ⟨i,u,rfl,e⟩|⟨y,u,rfl,e⟩
  exact nomatch e
  . injection e with e1 _
    subst e1;cases v<;>rfl
def FY(prog:H9)(w:x5)(i:Int)(t:Tok):(Y6 prog w).is (.inl i) (.int i t)=Uf:=Mg i t
def FX(prog:H9)(w:x5)(x:Str)(t:Tok):(Y6 prog w).is (.inr x) (.str x t)=Uf:=Mf x t
inductive V where
 |non|bl (b:Bool)|int (i:Int)|str (x:Str)|byt (b:Array UInt8)|flt (b:UInt64)|ref (a:Addr)|ty (n:String)
 deriving DecidableEq
variable{l:List (Option V)}{r:List V}{M:V}{b5:List (Str×V)}
def RelV:V->j5->Prop
 | .non,u=>u=DM
 | .bl b,u=>u=DK b
 | .int i,u=>∃t,u=xP i t
 | .str x,u=>∃t,u=xO x t
 | .byt b,u=>∃t,u=Value.bytes b t
 | .flt b,u=>∃t,u=Value.float b t
 | .ref a,u=>u=ae a
 | .ty n,u=>u=xS n
abbrev Vals:List V->List j5->Prop:=Paired RelV
theorem Vals.length(a:Vals r z):r.length=z.length:=Paired.length a
theorem Vals.get:∀{xs:List V} {us:List j5} {i:Nat} {x:V},Vals xs us->xs[i]? = U x->∃u,us[i]? = U u/\RelV x u
 |_,_,_,_,.nil,e=>by simp at e
 |_,_,0,_,.cons r _,e=>by simp at e;subst e;exact⟨_,rfl,r⟩
 |_,_,i+1,x,.cons _ t,e=>by
  obtain⟨u,b,a⟩:=Vals.get t (by simpa using e);exact⟨u,by simpa using b,a⟩
theorem Vals.set{x:V}{u:j5}(r:RelV x u):∀{xs:List V} {us:List j5} (i:Nat),Vals xs us->Vals (xs.set i x) (us.set i u)
 |_,_,_,.nil=>.nil
 |_,_,0,.cons _ t=>.cons r t
 |_,_,i+1,.cons q t=>.cons q (Vals.set r i t)
def Vals.append{ys:List V}{ws:List j5}(h:Vals r z)(s:Vals ys ws):Vals (r++ys) (z++ws):=by
 induction h with
 |nil=>exact s
 |cons a t i=>exact .cons a i
theorem Vals.take:∀{xs:List V} {us:List j5} (n:Nat),Vals xs us->Vals (xs.take n) (us.take n)
 |_,_,0,_=>.nil
 |_,_,_+1,.nil=>.nil
 |_,_,n+1,.cons r t=>.cons r (Vals.take n t)
theorem Vals.drop:∀{xs:List V} {us:List j5} (n:Nat),Vals xs us->Vals (xs.drop n) (us.drop n)
 |_,_,0,r=>r
 |_,_,_+1,.nil=>.nil
 |_,_,n+1,.cons _ t=>Vals.drop n t
def fU:Option V->Option j5->Prop
 |some v,U u=>RelV v u
 |none,J=>True
 |_,_=>False
def KV{κ:Type}:List (κ×V)->List (κ×j5)->Prop:=Paired λ(p:κ×V) (q:κ×j5)=>p.1=q.1/\RelV p.2 q.2
noncomputable def kV:Key->V
 | .inl i=>.int i
 | .inr x=>.str x
inductive HO where
 |lst (xs:List V)
 |tup (xs:List V)
 |dK (kvs:List (Key×V))|dT (kvs:List (List Key×V))
 |set (S:Int->Bool) (n:Nat)
 |ins (C dx:Addr) (fs:List (Str×V))
 |own (x:Addr)
 |xd (fs:List (Str×V))
 |met (f x:Addr)
 |rng (lo hi:Int)
 |dG (o:Obj) (u:HO)
 |tbl (ps:Array j5)
 |ext (φ:Heap->Prop)
variable{I:HO}
abbrev Hp:=Addr->Option HO
variable{a:Hp}
def upd(H:Hp)(a:Addr)(o:HO):Hp:=λb=>if b=a then U o else H b
def J8:upd a e I e=U I:=by delta upd;rw[j2 rfl]
def E3(h:B≠e):upd a e I B=a B:=by delta upd;rw[j1 h]
def W8(h:a e=U I)(h':a B=J):e≠B:=by intro H;subst H;rw[h]at h';exact nS h'
section
variable(P:H9)(w:x5)
def X0(H:Hp)(h:Heap)(a:Addr):HO->Prop
 | .lst xs=>xs.length<=A5/\∃(its:List j5) (n:Nat),Vals xs its/\h.get? a=U {cls:=.type "list",data:=.seq its.toArray n}
 | .tup xs=>xs.length<=A5/\∃its:List j5,Vals xs its/\gi h a its.toArray
 | .dK kvs=>kvs.length<=A5/\(a==pQ)=U'/\∃vs,KV kvs vs/\h.DictOf (Y6 P w) a vs
 | .dT kvs=>kvs.length<=A5/\(a==pQ)=U'/\∃xs:List (List Key×Addr×j5),
   Paired (λ(p:List Key×V) (q:List Key×Addr×j5)=>p.1=q.1/\H q.2.1=U (.tup (p.1.map kV))/\RelV p.2 q.2.2) kvs xs /\
   ∃o es ep,h.get? a=U o/\o.ExactDict/\o.data=.dict es ep/\es.toList=xs.map (entryOfKey (mY (Y6 P w)))/\(xs.map (·.1)).Nodup
 | .set S n=>h.SetOf (intKind P w) a S n
 | .ins C dx fs=>H dx=U (.own a)/\fs.length<=1000/\dx≠a/\h.get? a=U (kQ C dx) /\
   ∃mA,h.Ns1 dx mA/\(∀f,fU (fs.lookup f) (mA f))/\Ec mA (fs.map (·.1))
 | .own _=>∃o,h.get? a=U o
 | .xd fs=>∃mA,h.Ns1 a mA/\∀f,fU (fs.lookup f) (mA f)
 | .rng lo hi=>∃t u v,h.get? a=U {cls:=.type "range",data:=.fields #[.int lo t,.int hi u,.int 1 v]}
 | .dG o u=>h.get? a=U o/\X0 H h a u
 | .tbl ps=>h.get? a=U {cls:=.none,data:=.fields ps}
 | .met f x=>h.get? a=U (PySem.W.methodObj (.ref f) (.ref x))
 | .ext φ=>φ h/\(∃o,h.get? a=U o)/\∀h1 h2:Heap,φ h1->(∀o,h1.get? a=U o->h2.get? a=U o)->φ h2
def C5(H:Hp)(h:Heap):Prop:=∀a o,H a=U o->X0 P w H h a o
end
section
variable{w:x5}
theorem X0.lt{P:H9}{H:Hp}{h:Heap}{a:Addr}{o:HO}(x:X0 P w H h a o):a<h.objs.size:=by
 cases o with
 |lst c=>obtain⟨_,_,_,_,e⟩:=x;exact C3 e
 |tup c=>obtain⟨_,_,_,p⟩:=x;exact p.lt
 |dK b=>obtain⟨_,_,_,_,o,_,_,e,_⟩:=x;exact C3 e
 |dT b=>obtain⟨_,_,_,_,o,_,_,e,_⟩:=x;exact C3 e
 |set S n=>obtain⟨o,_,_,_,e,_⟩:=x;exact C3 e
 |ins C k fs=>obtain⟨_,_,_,e,_⟩:=x;exact C3 e
 |own y=>obtain⟨_,e⟩:=x;exact C3 e
 |xd fs=>obtain⟨_,⟨_,_,_,e,_⟩,_⟩:=x;exact C3 e
 |rng j d=>obtain⟨_,_,_,e⟩:=x;exact C3 e
 |dG i u=>obtain⟨e,_⟩:=x;exact C3 e
 |tbl g=>exact C3 (show h.get? a=U _ from x)
 |met f y=>exact C3 (show h.get? a=U _ from x)
 |ext φ=>obtain⟨_,⟨_,e⟩,_⟩:=x;exact C3 e
def Paired.a2s{d e:Type}{F G:d->e->Prop}{c:List d}{l:List e}(h:Paired F c l)(f:∀a b,F a b->G a b):Paired G c l:=by
 induction h with
 |nil=>exact .nil
 |cons r t i=>exact .cons (f _ _ r) i
def X0.vw{H':Hp}(x:X0 y w a h e I)(k:∀b u,(b=e\/a b=U (.own e))->h.get? b=U u->Y.get? b=U u)(F:∀b,a b=U (.own e)->H' b=U (.own e))(E:∀b xs,a b=U (.tup xs)->H' b=U (.tup xs)):X0 y w H' Y e I:=by
 induction I with
 |lst xs=>obtain⟨z,l,n,r,H⟩:=x;exact⟨z,l,n,r,k _ _ (.inl rfl) H⟩
 |tup xs=>obtain⟨z,l,r,g,H,c⟩:=x;exact⟨z,l,r,g,k _ _ (.inl rfl) H,c⟩
 |dK A=>obtain⟨z,P,G,r,g,i,j,H,c⟩:=x;exact⟨z,P,G,r,g,i,j,k _ _ (.inl rfl) H,c⟩
 |dT A =>
  obtain⟨z,P,xs,r,g,i,j,H,c⟩:=x;exact⟨z,P,xs,Paired.a2s r λp q z=>⟨z.1,E _ _ z.2.1,z.2.2⟩,g,i,j,k _ _ (.inl rfl) H,c⟩
 |set S n=>obtain⟨g,i,j,t,H,c⟩:=x;exact⟨g,i,j,t,k _ _ (.inl rfl) H,c⟩
 |ins C N fs =>
  obtain⟨d,z,ne,H,m,⟨s,i,j,o,c⟩,r⟩:=x;exact⟨F _ d,z,ne,k _ _ (.inl rfl) H,m,⟨s,i,j,k _ _ (.inr d) o,c⟩,r⟩
 |own P=>obtain⟨g,H⟩:=x;exact⟨g,k _ _ (.inl rfl) H⟩
 |xd fs=>obtain⟨m,⟨s,i,j,H,c⟩,r⟩:=x;exact⟨m,⟨s,i,j,k _ _ (.inl rfl) H,c⟩,r⟩
 |rng M K=>obtain⟨t,u,v,H⟩:=x;exact⟨t,u,v,k _ _ (.inl rfl) H⟩
 |dG g u D=>obtain⟨H,q⟩:=x;exact⟨k _ _ (.inl rfl) H,D q⟩
 |tbl L =>
  have H:=x;exact k e _ (.inl rfl) H
 |met f P =>
  have H:=x;exact k e _ (.inl rfl) H
 |ext φ=>obtain⟨p,⟨I,H⟩,B⟩:=x;exact⟨B _ _ p λI q=>k _ _ (.inl rfl) q,⟨I,k _ _ (.inl rfl) H⟩,B⟩
theorem C5.lt(x:C5 y w a h)(P:a e=U I):e<h.objs.size:=(x e I P).lt
def C5.fresh(x:C5 y w a h)(P:h.objs.size<=e):a e=J:=by
 cases q:a e with
 |none=>rfl
 |some u=>exact absurd (J4 (x.lt q) P) (Z3 _)
def C5.kept(x:C5 y w a h)(k:∀b u,h.get? b=U u->Y.get? b=U u):C5 y w a Y:=λP o e =>
 (x P o e).vw (λb u _ q=>k b u q) (λ_ q=>q) λ_ _ q=>q
def C5.laid{o:HO}(x:C5 y w a h)(k:∀b u,h.get? b=U u->Y.get? b=U u)(g:h.objs.size<=e)(new:X0 y w (upd a e o) Y e o):C5 y w (upd a e o) Y:=λb u P=>by
 have d:=x.fresh g;by_cases f:b=e;subst f;rw[J8]at P;cases P;exact new
 . rw[E3 f]at P;exact(x b u P).vw (λc v _ q=>k c v q) (λc q=>by rw[E3 (W8 q d)];exact q) λc i q=>by rw[E3 (W8 q d)];exact q
end
def Rd(H:Hp)(a:Addr)(u:HO):Prop:=H a=U u\/∃o,H a=U (.dG o u)
def Rd.ok(r:Rd a e I)(x:C5 y a6 a h):X0 y a6 a h e I:=by
 rcases r with r|⟨o,r⟩
 exact x e I r;obtain⟨_,q⟩:=x e _ r;exact q
def Uj:Option HO->Prop
 |some (.lst _)=>True
 |some (.dK _)=>True
 |some (.dT _)=>True
 |some (.set _ _)=>True
 |some (.ins _ _ _)=>True
 |some (.ext _)=>True
 |_=>False
section
variable{w:x5}
def C5.write(ok:C5 y w a h)(mu:Uj (a B))(m:e=B\/a e=U (.own B))(k:∀b u,b≠e->h.get? b=U u->Y.get? b=U u)(l:∃u,Y.get? e=U u)(new:X0 y w (upd a B I) Y B I):C5 y w (upd a B I) Y:=λb u q=>by
 have d:∀c P,a c=U (.own P)->c≠B:=λc P r z=>by subst z;rw[r]at mu;exact mu
 have f:∀c g,a c=U (.tup g)->c≠B:=λc g r z=>by subst z;rw[r]at mu;exact mu
 by_cases j:b=B;subst j;rw[J8]at q;cases q;exact new
 . rw[E3 j]at q;by_cases H:b=e
   . have n:a b=U (.own B):=by
       rcases m with z|z
       exact absurd (H.trans z) j;rw[H];exact z
     rw[q]at n;cases n;obtain⟨v,o⟩:=l;exact⟨v,by rw[H];exact o⟩
   . refine(ok b u q).vw (λc v i r=>k c v ?_ r) (λc r=>by rw[E3 (d c b r)];exact r) λc g r=>by rw[E3 (f c g r)];exact r
     rcases i with rfl|i
     exact H
     . rintro rfl;rcases m with z|z
       exact d c b i z;rw[i]at z;cases z;exact j rfl
end
structure Un(fs ex:List Addr)(H H':Hp)(h h':Heap):Prop where
 keep:∀b o,h.get? b=U o->H b=J->b∉fs->b∉ex->h'.get? b=U o
 slot:∀b o,h.get? b=U o->H b=J->b∈fs->b∉ex->∃sl,h'.get? b=U {o with slots:=sl}
 free:∀b o,h.get? b=U o->H b=J->b∉ex->H' b=J
 there:∀b o,h.get? b=U o->b∉ex->∃o',h'.get? b=U o'
 mm:∀b xs,H b=U (.tup xs)->H' b=U (.tup xs)
 ll:∀b o u,H b=U (.dG o u)->H' b=U (.dG o u)
 mw:∀b ps,H b=U (.tbl ps)->∃more,H' b=U (.tbl (ps++more))
def Un.any{ex:List Addr}{H1:Hp}(u:Un L ex a H1 h Y){ob:Obj}(q:h.get? e=U ob)(n:a e=J)(c:e∉ex):∃d,Y.get? e=U {ob with slots:=d}:=by
 by_cases H:e∈L;exact u.slot e ob q n H c;exact⟨ob.slots,u.keep e ob q n H c⟩
def Un.trans{ex:List Addr}{H1 H2:Hp}{h2:Heap}(H:Un L ex a H1 h Y)(b:Un L ex H1 H2 Y h2):Un L ex a H2 h h2 where
 keep:=λc e q n i d=>b.keep c e (H.keep c e q n i d) (H.free c e q n d) i d
 slot:=λc e q n i d=>by obtain⟨p,f⟩:=H.slot c e q n i d;obtain⟨j,k⟩:=b.slot c _ f (H.free c e q n d) i d;exact⟨j,k⟩
 free:=λc e q n d=>by obtain⟨l,f⟩:=H.there c e q d;exact b.free c l f (H.free c e q n d) d
 there:=λc e q d=>by obtain⟨l,f⟩:=H.there c e q d;exact b.there c l f d
 mm:=λc g q=>b.mm c g (H.mm c g q)
 ll:=λc e g q=>b.ll c e g (H.ll c e g q)
 mw:=λc m q=>by obtain⟨m1,f⟩:=H.mw c m q;obtain⟨o,k⟩:=b.mw c _ f;exact⟨m1++o,by rw[k,ND]⟩
def Un.kept{ex:List Addr}(k:∀b u,h.get? b=U u->Y.get? b=U u):Un L ex a a h Y :=
 ⟨λb H q _ _ _=>k b H q,λb H q _ _ _=>⟨H.slots,k b H q⟩,λ_ _ _ n _=>n,λb H q _=>⟨H,k b H q⟩,λ_ _ q=>q,λ_ _ _ q=>q,λ_ c q=>⟨#[],by rw[q];simp⟩⟩
def Un.refl{ex:List Addr}:Un L ex a a h h:=Un.kept λ_ _ q=>q
def Un.laid{ex:List Addr}{o:HO}(k:∀b u,h.get? b=U u->Y.get? b=U u)(H:h.objs.size<=e)(c:a e=J):Un L ex a (upd a e o) h Y where
 keep:=λb u q _ _ _=>k b u q
 slot:=λb u q _ _ _=>⟨u.slots,k b u q⟩
 free:=λb u q n _=>by rw[E3 (O2 (J4 (C3 q) H))];exact n
 there:=λb u q _=>⟨u,k b u q⟩
 mm:=λb d q=>by rw[E3 (W8 q c)];exact q
 ll:=λb u d q=>by rw[E3 (W8 q c)];exact q
 mw:=λb f q=>⟨#[],by rw[E3 (W8 q c),q];simp⟩
def Un.write{ex:List Addr}(mu:Uj (a B))(i:e=B\/a e=U (.own B))(k:∀b u,b≠e->h.get? b=U u->Y.get? b=U u)(d:∃u,Y.get? e=U u):Un L ex a (upd a B I) h Y:=by
 have f:∀b,a b=J->b≠B:=λb n z=>by subst z;rw[n]at mu;exact mu
 have g:∀b,a b=J->b≠e:=λb n z=>by
  subst z;rcases i with r|r
  exact f b n r;rw[n]at r;exact nE r
 have c:∀b u,a b=U u->¬Uj (U u)->b≠B:=λb u q j z=>by subst z;rw[q]at mu;exact j mu
 refine⟨λb u q n _ _=>k b u (g b n) q,λb u q n _ _=>⟨u.slots,k b u (g b n) q⟩,λb u q n _=>by rw[E3 (f b n)];exact n,λb u q _=>?_,
  λb l q=>by rw[E3 (c b _ q λz=>z)];exact q,λb u l q=>by rw[E3 (c b _ q λz=>z)];exact q,λb m q=>⟨#[],by rw[E3 (c b _ q λz=>z),q];simp⟩⟩
 by_cases H:b=e;subst H;exact d;exact⟨u,k b u H q⟩
def SV(h:Heap)(H:Hp):List Addr:=(A3 h.objs.size).filter λa=>(H a).isSome
def sv(h:Heap)(H:Hp):Heap:=PySem.W.hideAll h (SV h H)
def Mp(h:Heap)(H:Hp):(sv h H).objs.size=h.objs.size:=PySem.W.hideAll_size _ _
def Ry{o:Obj}(b:h.get? e=U o)(n:a e=J):(sv h a).get? e=U o :=
 PySem.W.hideAll_get _ b λH=>by have q:=(List.mem_filter.mp H).2;rw[n]at q;simp at q
def VW{o:Obj}(b:(sv h a).get? e=U o):h.get? e=U o/\a e=J:=by
 have H:=PySem.W.of_hideAll (SV h a) b;refine⟨H,?_⟩;cases q:a e with
 |none=>rfl
 |some x =>
  have c:e∈SV h a:=List.mem_filter.mpr ⟨mem_range.mpr (C3 H),by simp[q]⟩;have z:(sv h a).get? e=J:=PySem.W.hideAll_none (SV h a) c;rw[z]at b;exact nE b
def WJ(g h:Heap)(L:Addr):List (Addr×Obj):=(A3 h.objs.size).filterMap λa=>if a=L\/(g.get? a).isSome=Uf then J else(h.get? a).map λo=>(a,o)
def rest(g h:Heap)(L d:Addr):List (Addr×Obj):=(WJ g h L).filter λp=>decide (p.1≠d)
structure Mod(K:n6)(mg:Str->Option j5)(base:Heap):Prop where
 Hi:K.In base
 glob:base.Ns X2 mg
 blt:∃mb,base.Ns builtinsNs mb/\∀x:Str,x ≠ "__name__"->mb x=dM x
 nolimit:base.NoLimit
structure Cx where
 prog:H9
 w:x5
 K:n6
 mg:Str->Option j5
 base:Heap
 A:X9
 N:List Str
 R5:l5
 u3:Hp
 env:Env
 outer:List Env
 stack:List Env
 ex:List Addr
 fn:Str->Bool
 calm:Bool
 pn:List (Addr×Obj)
 xe:j5->l5->Prop
variable{X:Cx}
def oo(l:List Env):List Addr:=l.filterMap (·.frame)
abbrev Cx.fs(X:Cx):List Addr:=oo X.outer
def Ug(sc:bG)(x:Str):Prop:=sc.names.lookup x=U .local\/sc.names.lookup x=U .cell\/sc.names.lookup x=U .free
def Loc(sc:bG)(x:Str):Prop:=sc.names.lookup x=U .local\/sc.names.lookup x=U .cell
def Look(env:Env)(h:Heap)(m:Str->Option j5)(x:Str)(u:j5):Prop :=
 (env.kindOf x=U .local/\m x=U u)\/((env.kindOf x=U .cell\/env.kindOf x=U .free)/\∃c,env.cells.lookup x=U c/\h.IsCell c (U u))
structure Cx.Ok(X:Cx):Prop where
 mod:Mod X.K X.mg X.base
 kind:X.env.scope.kind=.function
 glob:X.env.globals=X2
 blt:X.env.builtins=builtinsNs
 above:X.R5.heap.objs.size<=X.env.locals
 inj:∀x y c,X.env.cells.lookup x=U c->X.env.cells.lookup y=U c->x=y
 has:∀x,(X.env.kindOf x=U .cell\/X.env.kindOf x=U .free)->∃c,X.env.cells.lookup x=U c
 HJ:∀x c,X.fn x=Uf->X.env.cells.lookup x=U c->X.R5.heap.objs.size<=c
 hd:X.calm=Uf->X.A.handled=J
 frames:X.A.frames=U X.stack
 Ko:X.stack=X.outer\/(X.stack=X.env::X.outer/\X.env.frame=U X.env.locals)
 TM:∀b∈X.ex,b≠X.env.locals/\∀x c,X.env.cells.lookup x=U c->c≠b
 bs:∀b o,X.base.get? b=U o->X.R5.heap.get? b=U o/\X.u3 b=J
 ro:X.base.objs.size<=X.R5.heap.objs.size
 vK:∀b o,X.base.get? b=U o->b∉X.ex
 zU:∀b∈X.ex,b∉X.fs
 jG:X.R5.heap.FunFrames X.base X.outer
 AJ:∀b∈X.fs,X.u3 b=J
structure Inv(X:Cx)(pins:List (Addr×Obj))(σ:List (Option V))(H:Hp)(s:l5):Prop where
 ok:X.Ok
 os:s.os=X.R5.os
 bare:iW s.gens
 base:Un X.fs X.ex X.u3 H X.R5.heap s.heap
 loc:∃m,s.heap.Ns X.env.locals m/\∀(i:Nat) (x:Str) (v:V),X.N[i]? = U x->σ[i]? = U (U v)->Ug X.env.scope x->∃u,RelV v u/\Look X.env s.heap m x u
 cell:∀x c,X.env.cells.lookup x=U c->∃v,s.heap.IsCell c v
 free:H X.env.locals=J
 iJ:∀x c,X.env.cells.lookup x=U c->H c=J
 pin:∀p∈X.pn++pins,s.heap.get? p.1=U p.2/\H p.1=J/\p.1≠X.env.locals/\p.1∉X.fs/\∀v,p.2.data≠.cell v
 E7:C5 X.prog X.w H s.heap
 len:σ.length=X.N.length
def Cx.Ok.a2p(ok:X.Ok){o:Obj}(b:X.base.get? e=U o):e∉X.fs:=λa=>by have:=(ok.jG.mem a).1;rw[b]at this;exact nS this
theorem Inv.bs(I:Inv X d l a c):∀b o,X.base.get? b=U o->c.heap.get? b=U o/\a b=J:=λb o e =>
 ⟨I.base.keep b o (I.ok.bs b o e).1 (I.ok.bs b o e).2 (I.ok.a2p e) (I.ok.vK b o e),I.base.free b o (I.ok.bs b o e).1 (I.ok.bs b o e).2 (I.ok.vK b o e)⟩
def Inv.bk(I:Inv X d l a c):∀b o,X.base.get? b=U o->c.heap.get? b=U o:=λb o e=>(I.bs b o e).1
theorem Inv.mod(I:Inv X d l a c):Mod X.K X.mg X.base:=I.ok.mod
def Inv.oh(I:Inv X d l a c):X.K.In c.heap:=I.ok.mod.Hi.keeps I.bk
def Inv.fr(I:Inv X d l a c):∃m,Fr X.base X.env.locals c.heap m :=
 let ⟨m,σ,_⟩:=I.loc
 ⟨m,σ,I.bk,p5 I.ok.ro I.ok.above⟩
theorem Inv.lt(I:Inv X d l a c):X.env.locals<(hz c):=let ⟨_,σ,_⟩:=I.loc;σ.lt
def Inv.sz(I:Inv X d l a c):X.R5.heap.objs.size<=(hz c):=p5 I.ok.above (bF I.lt)
def Inv.QZ(I:Inv X d l a c)(h:(hz c)<=e):e∉X.fs:=λb=>by obtain⟨_,o,σ,_⟩:=I.ok.jG.mem b;exact absurd (J4 (C3 σ) (p5 I.sz h)) (Z3 _)
def Inv.Du(I:Inv X d l a c):∀x s,X.env.cells.lookup x=U s->s≠X.env.locals:=λx s e z=>by obtain⟨v,o,f,σ⟩:=I.cell x s e;obtain⟨m,⟨i,g,h,H,b,_⟩,_⟩:=I.loc;rw[z,H]at f;cases f;rw[b]at σ;cases σ
theorem Inv.jG{X:Cx}{pins:List (Addr×Obj)}{σ:List (Option V)}{H:Hp}{s:l5}(I:Inv X pins σ H s):s.heap.FunFrames X.base X.outer:=by
 have all:∀l,(∀b∈oo l,b∈X.fs)->X.R5.heap.FunFrames X.base l->s.heap.FunFrames X.base l:=by
  intro l;induction l with
  |nil=>intro _ _;trivial
  |cons j r i =>
   intro f n;obtain⟨p,⟨L,o,d,h,k,g⟩,m⟩:=n;have a:=f L (by delta oo;rw[yw,d];exact v8);obtain⟨q,e⟩:=I.base.slot L o k (I.ok.AJ L a) a λz=>I.ok.zU L z a;exact⟨p,⟨L,_,d,h,e,g⟩,i (λb c=>f b (by delta oo;rw[yw,d];exact u7 _ c)) m⟩
 exact all X.outer (λ_ c=>c) I.ok.jG
theorem Inv.stack(I:Inv X d l a c):c.heap.FunFrames X.base X.stack:=by
 rcases I.ok.Ko with e|⟨e,σ⟩
 rw[e];exact I.jG;rw[e];obtain⟨m,b,_⟩:=I.loc;refine .cons (by rw[I.ok.kind];decide) σ b ?_ I.jG;exact Heap.get?_none_of_le (p5 I.ok.ro I.ok.above)
def Inv.rM(I:Inv X d l a c):∀b∈oo X.stack,b∈X.env.locals::X.fs:=λb σ=>by
 rcases I.ok.Ko with e|⟨e,H⟩
 rw[e]at σ;exact u7 _ σ;rw[e]at σ;unfold oo at σ;rw[yw,H]at σ;exact σ
def Inv.Gr(I:Inv X d l a c):∀b∈oo X.stack,a b=J:=λb σ=>by
 rcases List.mem_cons.mp (I.rM b σ)with e | σ
 rw[e];exact I.free;obtain⟨_,o,H,_⟩:=I.ok.jG.mem σ;exact I.base.free b o H (I.ok.AJ b σ) λz=>I.ok.zU b z σ
def Inv.step{H':Hp}{g':Array GenState}{t':Nat}{d':Drawn}{ch:List Addr}(I:Inv X d l a c)(g:∀b∈ch,(b∈X.ex\/X.R5.heap.objs.size<=b)/\b≠X.env.locals/\(∀x w,X.env.cells.lookup x=U w->w≠b)/\∀p∈X.pn++d,p.1≠b)(keep:∀b o,b≠X.env.locals->b∉X.fs->b∉ch->c.heap.get? b=U o->a b=J->h.get? b=U o)(slot:∀b o,b≠X.env.locals->b∈X.fs->b∉ch->c.heap.get? b=U o->a b=J->∃L,h.get? b=U {o with slots:=L})(free:∀b o,b∉ch->c.heap.get? b=U o->a b=J->H' b=J)(there:∀b o,b∉ch->c.heap.get? b=U o->∃D,h.get? b=U D)(mm:∀b xs,a b=U (.tup xs)->H' b=U (.tup xs))(ll:∀b o u,a b=U (.dG o u)->H' b=U (.dG o u))(mw:∀b E,a b=U (.tbl E)->∃more,H' b=U (.tbl (E++more)))(ns:∀m,c.heap.Ns X.env.locals m->h.Ns X.env.locals m)(K:C5 X.prog X.w H' h)(Q:iW g'):
  Inv X d l H' {c with heap:=h,gens:=g',drawn:=d',toks:=t'}:=by
 have B:∀b o,X.R5.heap.get? b=U o->b≠X.env.locals:=λb o e=>O2 (J4 (C3 e) I.ok.above)
 have j:∀b o,X.R5.heap.get? b=U o->b∉X.ex->b∉ch:=λb o e s y=>by
  rcases(g b y).1 with z|z
  exact s z;exact absurd (J4 (C3 e) z) (Z3 _)
 have W:∀x w,X.env.cells.lookup x=U w->∀v,c.heap.IsCell w v->h.IsCell w v:=λx w e v ⟨o,A,F⟩=>by
  have f:=λz=>(g w z).2.2.1 x w e rfl;by_cases O:w∈X.fs;obtain⟨L,q⟩:=slot w o (I.Du x w e) O f A (I.iJ x w e);exact⟨_,q,F⟩;exact⟨o,keep w o (I.Du x w e) O f A (I.iJ x w e),F⟩
 refine⟨I.ok,I.os,Q,⟨λb o e n y s=>?_,λb o e n y s=>?_,λb o e n s=>?_,λb o e s=>?_,λb xs e=>mm b xs (I.base.mm b xs e),λb o xs e=>ll b o xs (I.base.ll b o xs e),λb E e=>?_⟩,?_,λx w e=>?_,?_,λx w e=>?_,λp N=>?_,K,I.len⟩;exact keep b o (B b o e) y (j b o e s) (I.base.keep b o e n y s) (I.base.free b o e n s);obtain⟨L,t⟩:=I.base.slot b o e n y s;obtain⟨G,C⟩:=slot b _ (B b o e) y (j b o e s) t (I.base.free b o e n s);exact⟨G,C⟩;obtain⟨D,t⟩:=I.base.there b o e s;exact free b D (j b o e s) t (I.base.free b o e n s);obtain⟨D,t⟩:=I.base.there b o e s;exact there b D (j b o e s) t;obtain⟨m1,t⟩:=I.base.mw b E e;obtain⟨T,C⟩:=mw b _ t;exact⟨m1++T,by rw[C,ND]⟩
 . obtain⟨m,S,P⟩:=I.loc;refine⟨m,ns m S,λi x v t C R=>?_⟩
   obtain⟨u,r,H⟩:=P i x v t C R;refine⟨u,r,?_⟩;rcases H with H|⟨k,w,e,z⟩
   exact .inl H;exact .inr ⟨k,w,e,W x w e _ z⟩
 obtain⟨v,z⟩:=I.cell x w e;exact⟨v,W x w e v z⟩;obtain⟨m,⟨o,_,_,A,_⟩,_⟩:=I.loc;exact free _ o (λz=>(g _ z).2.1 rfl) A I.free;obtain⟨v,o,A,F⟩:=I.cell x w e;exact free w o (λz=>(g w z).2.2.1 x w e rfl) A (I.iJ x w e);obtain⟨e,n,ne,M,σ⟩:=I.pin p N;have f:=λz=>(g p.1 z).2.2.2 p N rfl;exact⟨keep p.1 p.2 ne M f e n,free p.1 p.2 f e n,ne,M,σ⟩
def Inv.un{H':Hp}(I:Inv X d l a c)(u:Un X.fs [] a H' c.heap h)(w:C5 X.prog X.w H' h):Inv X d l H' {c with heap:=h,toks:=k}:=by
 obtain⟨m,⟨o,H,t,x,r⟩,_⟩:=id I.loc;obtain⟨p,y⟩:=u.any x I.free t7;exact I.step (ch:=[]) (λ_ z=>nomatch z) (λb o _ g _ e n=>u.keep b o e n g t7) (λb o _ g _ e n=>u.slot b o e n g t7) (λb o _ e n=>u.free b o e n t7) (λb o _ e=>u.there b o e t7) u.mm u.ll u.mw (λq i=>by obtain⟨v,σ,f,s,j⟩:=i;rw[x]at s;cases s;exact⟨_,σ,f,y,j⟩) w I.bare
def Inv.call{H':Hp}{g':Array GenState}{d':Drawn}(I:Inv X d l a c)(u:Un (oo X.stack) L a H' c.heap h)(E:C5 X.prog X.w H' h)(v:iW g')(f:∀b∈L,(b∈X.ex\/X.R5.heap.objs.size<=b)/\b≠X.env.locals/\(∀x w,X.env.cells.lookup x=U w->w≠b)/\∀p∈X.pn++d,p.1≠b):
  Inv X d l H' {c with heap:=h,gens:=g',drawn:=d',toks:=k}:=by
 obtain⟨m,⟨o,y,B,F,r⟩,_⟩:=id I.loc;obtain⟨A,g⟩:=u.any F I.free λz=>(f _ z).2.1 rfl;exact I.step f (λb o g H s e n=>u.keep b o e n (λz=>(List.mem_cons.mp (I.rM b z)).elim g H) s) (λb o _ _ s e n=>u.any e n s) (λb o s e n=>u.free b o e n s) (λb o s e=>u.there b o e s) u.mm u.ll u.mw (λC q=>by obtain⟨D,j,i,σ,t⟩:=q;rw[F]at σ;cases σ;exact⟨_,j,i,g,t⟩) E v
def Inv.turned{s:l5}(I:Inv X d l a s)(E:∀b o,b≠e->s.heap.get? b=U o->h.get? b=U o)(g:a e=J)(f:e≠X.env.locals)(y:e∈X.ex\/X.R5.heap.objs.size<=e)(j:∀x c,X.env.cells.lookup x=U c->c≠e)(H:∀p∈X.pn++d,p.1≠e):Inv X d l a {s with heap:=h,toks:=k}:=by
 have σ:∀b u,a b=U u->b≠e:=λb u F z=>by rw[z,g]at F;exact nE F
 refine I.step (ch:=[e]) (λb A=>?_) (λb o _ _ C F _=>E b o (λz=>C (by simp[z])) F) (λb o _ _ C F _=>⟨o.slots,E b o (λz=>C (by simp[z])) F⟩) (λ_ _ _ _ n=>n)
  (λb o C F=>⟨o,E b o (λz=>C (by simp[z])) F⟩) (λ_ _ F=>F) (λ_ _ _ F=>F) (λb B F=>⟨#[],by rw[F];simp⟩) (λm w=>?_) (λb u F=>?_) I.bare
 . have F:b=e:=by simpa using A
   subst F;exact⟨y,f,j,H⟩
 obtain⟨o,D,t,i,r⟩:=w;exact⟨o,D,t,E _ o (kI f) i,r⟩
 . refine(I.E7 b u F).vw (λc v C q=>E c v ?_ q) (λ_ q=>q) λ_ _ q=>q
   rcases C with z|z
   rw[z];exact σ b u F;exact σ c _ z
def Inv.tok(I:Inv X d l a c)(t:Nat):Inv X d l a {c with toks:=t}:=I.un Un.refl I.E7
theorem Inv.kept(I:Inv X d l a c)(σ:∀b u,c.heap.get? b=U u->h.get? b=U u):Inv X d l a {c with heap:=h,toks:=k}:=I.un (Un.kept σ) (I.E7.kept σ)
theorem Inv.laid{o:HO}{t':Nat}(I:Inv X d l a c)(k:∀b u,c.heap.get? b=U u->h.get? b=U u)(σ:(hz c)<=e)(new:X0 X.prog X.w (upd a e o) h e o):
  Inv X d l (upd a e o) {c with heap:=h,toks:=t'}:=I.un (Un.laid k σ (I.E7.fresh σ)) (I.E7.laid k σ new)
theorem Inv.write(s:Inv X d l a c)(mu:Uj (a B))(H:e=B\/a e=U (.own B))(x:∀b u,b≠e->c.heap.get? b=U u->h.get? b=U u)(σ:∃u,h.get? e=U u)(new:X0 X.prog X.w (upd a B I) h B I):Inv X d l (upd a B I) {c with heap:=h,toks:=k}:=s.un (Un.write mu H x σ) (s.E7.write mu H x σ new)
def Inv.weak{H:List (Option V)}(I:Inv X d l a c)(g:H.length=l.length)(w:∀(i:Nat) v,H[i]? = U (U v)->l[i]? = U (U v)):Inv X d H a c :=
 ⟨I.ok,I.os,I.bare,I.base,let ⟨m,s,b⟩:=I.loc;⟨m,s,λi x v e f σ=>b i x v e (w i v f) σ⟩,I.cell,I.free,I.iJ,I.pin,I.E7,g.trans I.len⟩
def Inv.jD{σ:List (Addr×Obj)}(I:Inv X d l a c)(h:∀p∈σ,c.heap.get? p.1=U p.2/\a p.1=J/\p.1≠X.env.locals/\p.1∉X.fs/\∀v,p.2.data≠.cell v):Inv X σ l a c :=
 ⟨I.ok,I.os,I.bare,I.base,I.loc,I.cell,I.free,I.iJ,λp b=>(List.mem_append.mp b).elim (λz=>I.pin p (P9 _ z)) (h p),I.E7,I.len⟩
def Cr(d:N.Nodup){j:Nat}(a:N[k]? = U m)(b:N[j]? = U m):k=j:=by obtain⟨g,c⟩:=List.getElem?_eq_some_iff.mp a;obtain⟨f,e⟩:=List.getElem?_eq_some_iff.mp b;exact(Nr d).mp (c.trans e.symm)
def Km{v:Model}(I:Inv X d l a c)(hN:X.N.Nodup)(hi:X.N[k]? = U m)(hx:Loc X.env.scope m)(r:RelV M D)(h:∀s',Inv X d (l.set k (U M)) a s'->(∃H,nq H c.heap s'.heap/\(H=X.env.locals\/X.env.cells.lookup m=U H))->b3 () s')(hf:autoParam (X.fn m=Uf\/X.env.scope.names.lookup m=U .local) bC):wpAny v A (storeName X.env m D) b3 q c:=by
 obtain⟨x,hn,hl⟩:=id I.loc;have hcls:(X.env.scope.kind==.class||(X.env.scope.kind==.module&&X.env.locals != X.env.globals))=U':=by rw[I.ok.kind];rfl
 have hiσ:k<l.length:=by rw[I.len];exact(List.getElem?_eq_some_iff.mp hi).1
 have Du:=I.Du;have tracked:∀{H:Addr} {h':Heap},(∃o,c.heap.get? H=U o/\a H=J)->nq H c.heap h'->C5 X.prog X.w a h':=λ{H h'} ha hs b ob e=>by
  obtain⟨_,_,hfree⟩:=ha;refine(I.E7 b ob e).vw (λs w' hc E=>(hs.2 s ?_).trans E) (λ_ E=>E) λ_ _ E=>E
  rintro rfl;rcases hc with rfl|hc
  rw[hfree]at e;exact nE e;rw[hfree]at hc;exact nE hc
 rcases hx with hk|hk
 . refine wpAny_storeName_local hk hn (λh' hn' hs=>?_) hcls;obtain⟨oL,_,_,hoL,_⟩:=id hn;refine h _ ⟨I.ok,I.os,I.bare,⟨λb o e n hb hx=>?_,λb o e n hb hx=>?_,I.base.free,λb o e hx=>?_,I.base.mm,I.base.ll,I.base.mw⟩,⟨_,hn',λj y v' e1 e2 e3=>?_⟩,λy s e=>?_,I.free,I.iJ,λp hp=>?_,tracked ⟨oL,hoL,I.free⟩ hs,by simpa using I.len⟩ ⟨_,hs,.inl rfl⟩;exact(hs.2 b (O2 (J4 (C3 e) I.ok.above))).trans (I.base.keep b o e n hb hx);obtain⟨sl,e1⟩:=I.base.slot b o e n hb hx;exact⟨sl,(hs.2 b (O2 (J4 (C3 e) I.ok.above))).trans e1⟩;obtain⟨o',e1⟩:=I.base.there b o e hx;exact⟨o',(hs.2 b (O2 (J4 (C3 e) I.ok.above))).trans e1⟩
   . by_cases hj:j=k;subst hj;rw[hi]at e1;cases e1;rw[tQ hiσ]at e2;cases e2;exact⟨D,r,.inl ⟨hk,by simp⟩⟩
     . rw[gM (kI hj)]at e2;obtain⟨u',r',E⟩:=hl j y v' e1 e2 e3;refine⟨u',r',?_⟩;rcases E with ⟨i,e⟩|⟨i,s,e,z⟩
       refine .inl ⟨i,?_⟩;have:y≠m:=λe=>hj (Cr hN e1 (e▸hi));simp[this,e];exact .inr ⟨i,s,e,z.sameBut hs (Du y s e)⟩
   obtain⟨w',z⟩:=I.cell y s e;exact⟨w',z.sameBut hs (Du y s e)⟩;obtain⟨e,n,ne,nf,σ⟩:=I.pin p hp;exact⟨(hs.2 p.1 ne).trans e,n,ne,nf,σ⟩
 . have hfn:X.fn m=Uf:=by
     rcases hf with z|z
     exact z;rw[z]at hk;cases hk
   obtain⟨s,hc⟩:=I.ok.has m (.inl hk);obtain⟨w',z⟩:=I.cell m s hc;refine wpAny_storeName_cell I.ok.kind hk hc z (λh' hc' hs=>?_);obtain⟨oc,hoc,hocd⟩:=id z;refine h {c with heap:=h'} ⟨I.ok,I.os,I.bare,⟨λb o e n hb hx=>?_,λb o e n hb hx=>?_,I.base.free,λb o e hx=>?_,I.base.mm,I.base.ll,I.base.mw⟩,⟨x,hn.sameBut hs (kI (Du m s hc)),λj y v' e1 e2 e3=>?_⟩,λy c' e=>?_,I.free,I.iJ,λp hp=>?_,tracked ⟨oc,hoc,I.iJ m s hc⟩ hs,by simpa using I.len⟩ ⟨s,hs,.inr hc⟩;exact(hs.2 b (O2 (J4 (C3 e) (I.ok.HJ m s hfn hc)))).trans (I.base.keep b o e n hb hx);obtain⟨sl,e1⟩:=I.base.slot b o e n hb hx;exact⟨sl,(hs.2 b (O2 (J4 (C3 e) (I.ok.HJ m s hfn hc)))).trans e1⟩;obtain⟨o',e1⟩:=I.base.there b o e hx;exact⟨o',(hs.2 b (O2 (J4 (C3 e) (I.ok.HJ m s hfn hc)))).trans e1⟩
   . by_cases hj:j=k;subst hj;rw[hi]at e1;cases e1;rw[tQ hiσ]at e2;cases e2;exact⟨D,r,.inr ⟨.inl hk,s,hc,hc'⟩⟩
     . rw[gM (kI hj)]at e2;obtain⟨u',r',E⟩:=hl j y v' e1 e2 e3;refine⟨u',r',?_⟩;rcases E with E|⟨i,c',e,z'⟩
       exact .inl E;refine .inr ⟨i,c',e,z'.sameBut hs ?_⟩;rintro rfl;exact hj (Cr hN e1 (I.ok.inj _ _ _ e hc▸hi))
   by_cases hcc:c'=s;subst hcc;exact⟨_,hc'⟩;obtain⟨w2,z2⟩:=I.cell y c' e;exact⟨w2,z2.sameBut hs hcc⟩;obtain⟨e,n,ne,nf,σ⟩:=I.pin p hp;refine⟨(hs.2 p.1 ?_).trans e,n,ne,nf,σ⟩;intro E;rw[E,hoc]at e;exact σ w' (by rw[<-(R1 e)];exact hocd)
def BK{E:Model}(I:Inv X d l a c)(s:X.N.Nodup)(H:X.N[k]? = U m)(b:Loc X.env.scope m)(r:RelV M D)(h:∀s',Inv X d (l.set k (U M)) a s'->b3 () s')(e:autoParam (X.fn m=Uf\/X.env.scope.names.lookup m=U .local) bC):wpAny E A (storeName X.env m D) b3 q c :=
 Km I s H b r (λs' σ _=>h s' σ) e
def Inv.a1l{H':Hp}{s':l5}(I:Inv X d l a c)(f:s'.os=c.os)(u:Un (oo X.stack) L a H' c.heap s'.heap)(σ:C5 X.prog X.w H' s'.heap)(e:iW s'.gens)(H:∀b∈L,(b∈X.ex\/X.R5.heap.objs.size<=b)/\b≠X.env.locals/\(∀x s,X.env.cells.lookup x=U s->s≠b)/\∀p∈X.pn++d,p.1≠b):Inv X d l H' s':=by obtain⟨j,h,i,g,k⟩:=s';subst f;exact I.call u σ e H
abbrev XK:=j5->Option Addr->Hp->Prop
abbrev St:=List (Option V)
variable{n:St}
abbrev VK:=V->Hp->Prop
variable{b8:List V->Hp->VK->Prop}
abbrev TE:=St->Hp->VK->Prop
variable{t:TE}
abbrev TT:=St->Hp->(Bool->Hp->Prop)->Prop
abbrev TA:=St->Hp->(List V->Hp->Prop)->Prop
variable{S:TA}
structure Ends where
 nx:St->Hp->Prop
 rt:VK
 bk:St->Hp->Prop:=λ_ _=>False
 ct:St->Hp->Prop:=λ_ _=>False
abbrev TS:=Ends->St->Hp->Prop
def EP(X:Cx)(pins:List (Addr×Obj))(σ:St)(Q:VK)(u:j5)(s':l5):Prop:=∃v H',Inv X pins σ H' s'/\RelV v u/\Q v H'
def TP(X:Cx)(pins:List (Addr×Obj))(σ:St)(Q:Bool->Hp->Prop)(b:Bool)(s':l5):Prop:=∃H',Inv X pins σ H' s'/\Q b H'
def AP(X:Cx)(pins:List (Addr×Obj))(σ:St)(Q:List V->Hp->Prop)(us:List j5)(s':l5):Prop:=∃vs H',Inv X pins σ H' s'/\Vals vs us/\Q vs H'
def SP(X:Cx)(pins:List (Addr×Obj))(D:Ends)(f:Flow)(s':l5):Prop :=
 match f with
 | .next=>∃σ' H',Inv X pins σ' H' s'/\D.nx σ' H'
 | .brk=>∃σ' H',Inv X pins σ' H' s'/\D.bk σ' H'
 | .cont=>∃σ' H',Inv X pins σ' H' s'/\D.ct σ' H'
 | .ret u=>∃v σ' H',Inv X pins σ' H' s'/\RelV v u/\D.rt v H'
def PE(X:Cx)(e:Expr)(t:TE):Prop :=
 ∀(pins:List (Addr×Obj)) (s:l5) (σ:St) (H:Hp) (Q:VK),Inv X pins σ H s->t σ H Q->wpAny (model X.prog X.w) X.A (eval e X.env) (EP X pins σ Q) X.xe s
def PT(X:Cx)(e:Expr)(t:TT):Prop :=
 ∀(pins:List (Addr×Obj)) (s:l5) (σ:St) (H:Hp) (Q:Bool->Hp->Prop),Inv X pins σ H s->t σ H Q->wpAny (model X.prog X.w) X.A (isTrue e X.env (eval e X.env)) (TP X pins σ Q) X.xe s
def PW(X:Cx)(e:Expr)(t:TT):Prop :=
 ∀(whole:Sem j5) (pins:List (Addr×Obj)) (s:l5) (σ:St) (H:Hp) (Q:Bool->Hp->Prop),Inv X pins σ H s->t σ H Q->wpAny (model X.prog X.w) X.A (isTrue e X.env whole) (TP X pins σ Q) X.xe s
def PW.pt{t:TT}(h:PW X o t):PT X o t:=h _
def PA(X:Cx)(es:List Expr)(t:TA):Prop :=
 ∀(pos:Pos) (pins:List (Addr×Obj)) (s:l5) (σ:St) (H:Hp) (Q:List V->Hp->Prop),Inv X pins σ H s->t σ H Q->wpAny (model X.prog X.w) X.A (spliced (C6 pos (m8 es X.env))) (AP X pins σ Q) X.xe s
def PS(X:Cx)(st:Stmt)(t:TS):Prop :=
 ∀(pins:List (Addr×Obj)) (s:l5) (σ:St) (H:Hp) (D:Ends),Inv X pins σ H s->t D σ H->wpAny (model X.prog X.w) X.A (exec st X.env) (SP X pins D) X.xe s
def oy(X:Cx)(st:List Stmt)(t:TS):Prop :=
 ∀(pins:List (Addr×Obj)) (s:l5) (σ:St) (H:Hp) (D:Ends),Inv X pins σ H s->t D σ H->wpAny (model X.prog X.w) X.A (execs st X.env) (SP X pins D) X.xe s
def C4{b:Type}{t:Sem b}{Q E:b->l5->Prop}{M:Model}(h:wpAny M A t Q q c)(d:∀a c,Q a c->E a c):wpAny M A t E q c:=aR h d λ_ _ x=>x
def G4(i:Nat):TE:=λσ H Q=>∃v,σ[i]? = U (U v)/\Q v H
def tC(v:V):TE:=λ_ H Q=>Q v H
def Yy(w:X.N[k]? = U m)(o:Ug X.env.scope m)(hd:autoParam ((m==("__debug__" : Str))=U') E5)(g:autoParam ((m==("__classdict__" : Str))=U') E5):PE X (.Name m p) (G4 k):=by
 intro f s t H Q I h;obtain⟨v,e,h⟩:=h;obtain⟨x,i,q⟩:=I.loc;obtain⟨u,r,l⟩:=q k m v w e o;have d:EP X f t Q u s:=⟨v,H,I,r,h⟩;rcases l with ⟨b,n⟩|⟨b,c,j,a⟩
 exact wpAny_Name (wpAny_loadName_local I.ok.kind b i n d) hd
 . rcases b with b|b
   exact wpAny_Name (wpAny_loadName_cell I.ok.kind b j a d) hd;exact wpAny_Name (wpAny_loadName_free I.ok.kind b j a d g) hd
def YF{i j pos}:PE X (.Constant (.int i) j pos) (tC (.int i)):=λ_ _ _ H _ I h=>wpAny_Constant_int ⟨.int i,H,I.tok _,⟨_,rfl⟩,h⟩
def a0Q{b j pos}:PE X (.Constant (.bool b) j pos) (tC (.bl b)):=λ_ _ _ H _ I h=>Constant_bool ⟨.bl b,H,I,rfl,h⟩
def YD{j pos}:PE X (.Constant .none j pos) (tC .non):=λ_ _ _ H _ I h=>Constant_none ⟨.non,H,I,rfl,h⟩
def Yz{x j pos}:PE X (.Constant (.str x) j pos) (tC (.str x)):=λ_ _ _ H _ I h=>Calls.Constant_str ⟨.str x,H,I.tok _,⟨_,rfl⟩,h⟩
def Gl(X:Cx)(x:Str):Prop:=X.env.kindOf x=U .globalImplicit
def zE{H:Hp}{Q:j5->l5->Prop}(I:Inv X d n H c)(E:Gl X m)(b:X.mg m=U D)(h:Q D c)(hd:autoParam ((m==("__debug__" : Str))=U') E5):wpAny (model X.prog X.w) X.A (eval (.Name m p) X.env) Q q c :=
 Ow I.ok.kind E (Calls.loadGlobal_global (by rw[I.ok.glob];exact I.mod.glob.keeps I.bk) b h) hd
def iF{Q:j5->l5->Prop}(I:Inv X d n a c)(f:Gl X m)(s:X.mg m=J)(E:dM m=U D)(h:Q D c)(b:autoParam (m ≠ "__name__") E5)(hd:autoParam ((m==("__debug__" : Str))=U') E5):wpAny (model X.prog X.w) X.A (eval (.Name m p) X.env) Q q c:=by obtain⟨i,g,e⟩:=I.mod.blt;exact Ow I.ok.kind f (Calls.loadGlobal_builtin (by rw[I.ok.glob];exact I.mod.glob.keeps I.bk) s (by rw[I.ok.blt];exact g.keeps I.bk) ((e m b).trans E) h) hd
def VG(b:Gl X m)(a:X.mg m=U D)(r:RelV M D)(hd:autoParam ((m==("__debug__" : Str))=U') E5):PE X (.Name m p) (tC M) :=
 λ_ _ _ H _ I h=>zE I b a ⟨M,H,I,r,h⟩ hd
def PC(X:Cx)(op:CmpOp)(a b:Expr)(t:TE):Prop :=
 ∀(pins:List (Addr×Obj)) (s:l5) (σ:St) (H:Hp) (Q:VK),Inv X pins σ H s->t σ H Q ->
  wpAny (model X.prog X.w) X.A (eval a X.env) (λv s₁=>wpAny (model X.prog X.w) X.A (eval b X.env) (λu s₂=>wpAny (model X.prog X.w) X.A (Z0 op v u) (EP X pins σ Q) X.xe s₂) X.xe s₁) X.xe s
def tB(t:TE):TT:=λσ H Q=>t σ H λx H1=>∃c,x=.bl c/\Q c H1
def Yo(h:PE X o t)(f:autoParam (∀a,isTrue o X.env a=(do let v <- a;bH o.pos;holding [v] (truthy v))) Q4):PT X o (tB t):=by
 intro b s i H Q I c;refine isTrue_plain (C4 (h b s i H _ I c) λv m ⟨x,j,k,g,l⟩=>?_) (f _);obtain⟨d,rfl,q⟩:=l;cases g;exact tN ⟨j,k,q⟩
def Pd(t u:TT):TT:=λσ H Q=>t σ H λc H1=>if c=Uf then u σ H1 Q else Q U' H1
def Xt(t u:TT):TT:=λσ H Q=>t σ H λc H1=>if c=Uf then Q Uf H1 else u σ H1 Q
def Pa(t:TT):TT:=λσ H Q=>t σ H λc H1=>Q (!c) H1
def pw_and1{tA:TT}(f:PT X o tA):PW X (.BoolOp .And [o] p) tA:=by
 intro wh b s d H Q I h;refine isTrue_and (C4 (f b s d H Q I h) λc g e=>?_)
 cases c with
 |true=>exact isTrue_and_nil e
 |false=>exact e
def pw_or1{tA:TT}(f:PT X o tA):PW X (.BoolOp .Or [o] p) tA:=by
 intro wh b s d H Q I h;refine isTrue_or (C4 (f b s d H Q I h) λc g e=>?_)
 cases c with
 |false=>exact isTrue_or_nil e
 |true=>exact e
def pw_and{tA tB':TT}(l:PT X o tA)(k:PW X (.BoolOp .And (Z::G) p) tB'):PW X (.BoolOp .And (o::Z::G) p) (Pd tA tB'):=by
 intro wh d s e H Q I h;refine isTrue_and (C4 (l d s e H _ I h) λc j ⟨f,g,i⟩=>?_)
 cases c with
 |true=>exact k wh d j e f Q g i
 |false=>exact⟨f,g,i⟩
def pw_or{tA tB':TT}(l:PT X o tA)(k:PW X (.BoolOp .Or (Z::G) p) tB'):PW X (.BoolOp .Or (o::Z::G) p) (Xt tA tB'):=by
 intro wh d s e H Q I h;refine isTrue_or (C4 (l d s e H _ I h) λc j ⟨f,g,i⟩=>?_)
 cases c with
 |true=>exact⟨f,g,i⟩
 |false=>exact k wh d j e f Q g i
def Yp{tA:TT}(f:PT X o tA):PT X (.UnaryOp .Not o p) (Pa tA):=by exact λb s d H Q I h=>isTrue_not (f b s d H (λc e=>Q (!c) e) I h)
def Tg(ta tb:TE):TE:=λσ H Q=>ta σ H λx H1=>∃c,x=.bl c/\if c=Uf then tb σ H1 Q else Q (.bl U') H1
def Xs(ta tb:TE):TE:=λσ H Q=>ta σ H λx H1=>∃c,x=.bl c/\if c=Uf then Q (.bl Uf) H1 else tb σ H1 Q
def Tc(ta:TE):TE:=λσ H Q=>ta σ H λx H1=>∃c,x=.bl c/\Q (.bl (!c)) H1
def YA{op}(h:PE X o t):PE X (.BoolOp op [o] p) t:=λb s c H Q I d=>BoolOp_one (h b s c H Q I d)
def YH{tb:TE}(m:PE X o t)(l:PE X (.BoolOp .And (Z::G) p) tb):PE X (.BoolOp .And (o::Z::G) p) (Tg t tb):=by
 intro d s f H Q I h;refine BoolOp_and (C4 (m d s f H _ I h) λv k ⟨x,g,i,j,e⟩=>?_)
 obtain⟨c,rfl,e⟩:=e;cases j;refine tN ?_;cases c with
 |true=>exact l d k f g Q i e
 |false=>exact⟨.bl U',g,i,rfl,e⟩
def a0O{tb:TE}(m:PE X o t)(l:PE X (.BoolOp .Or (Z::G) p) tb):PE X (.BoolOp .Or (o::Z::G) p) (Xs t tb):=by
 intro d s f H Q I h;refine BoolOp_or (C4 (m d s f H _ I h) λv k ⟨x,g,i,j,e⟩=>?_)
 obtain⟨c,rfl,e⟩:=e;cases j;refine tN ?_;cases c with
 |false=>exact l d k f g Q i e
 |true=>exact⟨.bl Uf,g,i,rfl,e⟩
def YC(j:PE X o t):PE X (.UnaryOp .Not o p) (Tc t):=by
 intro b s f H Q I h;refine UnaryOp_ (C4 (j b s f H _ I h) λv k ⟨x,g,i,e,d⟩=>?_);obtain⟨c,rfl,d⟩:=d;cases e;exact not_of (tN ⟨.bl (!c),g,i,rfl,d⟩)
def tIf(t:TT)(ta tb:TE):TE:=λσ H Q=>t σ H λc H1=>if c=Uf then ta σ H1 Q else tb σ H1 Q
def QD{tb:TE}{tA:TT}{c:Expr}(l:PT X c tA)(n:PE X o t)(m:PE X Z tb):PE X (.IfExp c o Z p) (tIf tA t tb):=by
 intro e s f H Q I h;refine wpAny_IfExp (C4 (l e s f H _ I h) λd g ⟨i,j,k⟩=>?_)
 cases d with
 |true=>exact n e g f i Q j k
 |false=>exact m e g f i Q j k
def K6(K:n6)(H:Hp)(a:Addr)(xs:List V):Prop :=
 Rd H a (.lst xs) \/
  ∃(o:Obj) (its:Array j5) (n:Nat),K.lookup a=U o/\o.cls=.type "list"/\o.dict=J/\o.data=.seq its n/\its.size<=A5/\Vals xs its.toList
def T9(K:n6)(H:Hp)(a:Addr)(xs:List V):Prop :=
 Rd H a (.tup xs) \/
  ∃(o:Obj) (its:Array j5) (n:Nat),K.lookup a=U o/\o.cls=.type "tuple"/\o.data=.seq its n/\its.size<=A5/\Vals xs its.toList
noncomputable def a2A:j5->Option V
 | .none=>U .non
 | .bool b=>U (.bl b)
 | .int i _=>U (.int i)
 | .str x _=>U (.str x)
 | .bytes b _=>U (.byt b)
 | .float b _=>U (.flt b)
 | .ref a=>U (.ref a)
 | .type n=>U (.ty n)
 |_=>J
def RelV.abs(r:RelV M D):a2A D=U M:=by
 cases M with
 |non=>cases r;rfl
 |bl _=>cases r;rfl
 |int _=>obtain⟨t,rfl⟩:=r;rfl
 |str _=>obtain⟨t,rfl⟩:=r;rfl
 |byt _=>obtain⟨t,rfl⟩:=r;rfl
 |flt _=>obtain⟨t,rfl⟩:=r;rfl
 |ref _=>cases r;rfl
 |ty _=>cases r;rfl
def RelV.inj{y:V}(r:RelV M D)(q:RelV y D):M=y:=R1 (r.abs.symm.trans q.abs)
theorem Vals.inj{xs ys:List V}{us:List j5}(h:Vals xs us):Vals ys us->xs=ys:=by
 induction h generalizing ys with
 |nil=>intro k;cases k;rfl
 |cons r t i=>intro k;cases k with
  |cons q s=>rw[r.inj q,i s]
def K6.of(h:a e=U (.lst r)):K6 O a e r:=.inl (.inl h)
def T9.of(h:a e=U (.tup r)):T9 O a e r:=.inl (.inl h)
def Inv.list(I:Inv X d n a c)(h:K6 X.K a e r):∃b:List j5,Vals r b/\PlainL c.heap e b.toArray/\r.length<=A5:=by
 rcases h with h|⟨o,b,H,g,f,s,σ,i,k⟩
 obtain⟨z,b,H,k,j⟩:=h.ok I.E7;exact⟨b,k,⟨_,H,j,rfl,rfl,rfl⟩,z⟩;refine⟨b.toList,k,⟨o,H,I.oh e o g,f,s,by simpa using σ⟩,?_⟩;have j:=k.length;simp only[ET]at j;simp[*]
def Inv.tuple(I:Inv X d n a c)(h:T9 X.K a e r):∃b:List j5,Vals r b/\gi c.heap e b.toArray/\r.length<=A5:=by
 rcases h with h|⟨o,b,H,f,σ,s,g,j⟩
 obtain⟨z,b,j,p⟩:=h.ok I.E7;exact⟨b,j,p,z⟩;refine⟨b.toList,j,⟨o,I.oh e o f,σ,H,by simpa using s⟩,?_⟩;have i:=j.length;simp only[ET]at i;simp[*]
def Inv.vL{ys:List V}(I:Inv X d n a c)(h:K6 X.K a e r)(h':K6 X.K a e ys):r=ys:=by
 obtain⟨s,m,⟨o,H,l,_,_,σ⟩,_⟩:=I.list h;obtain⟨b,i,⟨k,j,g,_,_,f⟩,_⟩:=I.list h';rw[l]at g;cases g;rw[σ]at f;injection f with d1 _
 have:s=b:=by simpa using r9 Array.toList d1
 subst this;exact m.inj i
def Inv.Aj{ys:List V}(I:Inv X d n a c)(h:T9 X.K a e r)(h':T9 X.K a e ys):r=ys:=by
 obtain⟨s,m,⟨o,l,_,H,σ⟩,_⟩:=I.tuple h;obtain⟨b,i,⟨k,g,_,j,f⟩,_⟩:=I.tuple h';rw[l]at g;cases g;rw[σ]at f;injection f with d1 _
 have:s=b:=by simpa using r9 Array.toList d1
 subst this;exact m.inj i
abbrev Cx.oH(X:Cx)(E:j5->l5->Prop):Cx:={X with xe:=E}
abbrev Cx.Au(X:Cx):Cx:=X.oH λ_ _=>False
theorem Cx.Ok.oH(ok:X.Ok)(E:j5->l5->Prop):(X.oH E).Ok :=
 ⟨ok.mod,ok.kind,ok.glob,ok.blt,ok.above,ok.inj,ok.has,ok.HJ,ok.hd,ok.frames,ok.Ko,ok.TM,ok.bs,ok.ro,ok.vK,ok.zU,ok.jG,ok.AJ⟩
def Cx.Ok.kn(ok:(X.oH q).Ok):X.Ok :=
 ⟨ok.mod,ok.kind,ok.glob,ok.blt,ok.above,ok.inj,ok.has,ok.HJ,ok.hd,ok.frames,ok.Ko,ok.TM,ok.bs,ok.ro,ok.vK,ok.zU,ok.jG,ok.AJ⟩
theorem Inv.oH(I:Inv X d n a c)(E:j5->l5->Prop):Inv (X.oH E) d n a c:=⟨I.ok.oH E,I.os,I.bare,I.base,I.loc,I.cell,I.free,I.iJ,I.pin,I.E7,I.len⟩
theorem Inv.kn(I:Inv (X.oH q) d n a c):Inv X d n a c:=⟨I.ok.kn,I.os,I.bare,I.base,I.loc,I.cell,I.free,I.iJ,I.pin,I.E7,I.len⟩
theorem SP.kn{X:Cx}{pins:List (Addr×Obj)}{E:j5->l5->Prop}{D:Ends}{f:Flow}{s':l5}(h:SP (X.oH E) pins D f s'):SP X pins D f s':=by
 cases f with
 |next=>obtain⟨a,b,I,q⟩:=h;exact⟨a,b,I.kn,q⟩
 |brk=>obtain⟨a,b,I,q⟩:=h;exact⟨a,b,I.kn,q⟩
 |cont=>obtain⟨a,b,I,q⟩:=h;exact⟨a,b,I.kn,q⟩
 |ret u=>obtain⟨v,a,b,I,r,q⟩:=h;exact⟨v,a,b,I.kn,r,q⟩
theorem oy.Au{t:TS}(h:oy X.Au a9 t):oy X a9 t:=λa s c H D I d =>
 aR (h a s c H D (I.oH _) d) (λ_ _ q=>q.kn) λ_ _ z=>cA z
def Td:TS:=λD σ H=>D.nx σ H
def Xr(t u:TS):TS:=λD σ H=>t {D with nx:=u D} σ H
def Vv:oy X [] Td:=λ_ _ a H _ I h=>yg ⟨a,H,I,h⟩
def Qn{st:Stmt}{t u:TS}(i:PS X st t)(d:oy X a9 u):oy X (st::a9) (Xr t u):=by
 intro a s c H D I h;refine wpAny_execs_cons (C4 (i a s c H {D with nx:=u D} I h) λf g q=>?_)
 cases f with
 |next =>
  obtain⟨b,j,e,q⟩:=q;exact d a g b j D e q
 |ret v=>exact q
 |brk=>exact q
 |cont=>exact q
def Vu{st:Stmt}{t:TS}(c:PS X st t):oy X [st] t:=by
 intro a s b H D I h;refine wpAny_execs_cons (C4 (c a s b H D I h) λf d q=>?_)
 cases f with
 |next=>exact yg q
 |ret v=>exact q
 |brk=>exact q
 |cont=>exact q
def Inv.quiet{H:Hp}(I:Inv X d n H c):interactive X.env=U':=by simp[interactive,I.ok.kind]
def ub(te:TE):TS:=λD σ H=>te σ H λ_ H1=>D.nx σ H1
def oY(c:PE X o t)(hs:autoParam (ag o J p.line X.env=pure U') k6):PS X (.Expr o p) (ub t):=by exact λa s b H D I h=>wpAny_Expr_any (C4 (c a s b H _ I h) λv j ⟨x,d,f,i,g⟩=>⟨b,d,f,g⟩) I.quiet hs
def HZ(te:TE):TS:=λD σ H=>te σ H D.rt
def Ca(f:PE X o t):PS X (.Return (U o) p) (HZ t):=by exact λa s b H D I h=>wpAny_Return_some (C4 (f a s b H _ I h) λv j ⟨x,c,d,i,g⟩=>⟨x,b,c,d,i,g⟩)
def SY:TS:=λD _ H=>D.rt .non H
def Vw:PS X (.Return J p) SY:=λ_ _ a H _ I h=>wpAny_Return_none ⟨.non,a,H,I,rfl,h⟩
def Xv(c:TT)(t u:TS):TS:=λD σ H=>c σ H λb H1=>if b=Uf then t D σ H1 else u D σ H1
def a0M{t u:TS}{b:List Stmt}{l:TT}(m:PT X o l)(c:oy X a9 t)(n:oy X b u):PS X (.If o a9 b p) (Xv l t u):=by
 intro e s f H D I h;refine wpAny_If (C4 (m e s f H _ I h) λd g ⟨i,j,k⟩=>?_)
 cases d with
 |true=>exact c e g f i D j k
 |false=>exact n e g f i D j k
def Ki:TS:=λ_ _ _=>False
def Qp{st:Stmt}:PS X st Ki:=λ_ _ _ _ _ _ h=>h.elim
abbrev TG:=V->St->Hp->(St->Hp->Prop)->Prop
abbrev pK:=List V->St->Hp->(St->Hp->Prop)->Prop
def PG(X:Cx)(target:Expr)(t:TG):Prop :=
 ∀(pins:List (Addr×Obj)) (s:l5) (σ:St) (H:Hp) (v:V) (u:j5) (Q:St->Hp->Prop),Inv X pins σ H s->RelV v u->t v σ H Q ->
  wpAny (model X.prog X.w) X.A (assign target X.env u) (λ_ s'=>∃σ' H',Inv X pins σ' H' s'/\Q σ' H') X.xe s
def MX(X:Cx)(ts:List Expr)(t:pK):Prop :=
 ∀(pins:List (Addr×Obj)) (s:l5) (σ:St) (H:Hp) (vs:List V) (us:List j5) (Q:St->Hp->Prop),Inv X pins σ H s->Vals vs us->t vs σ H Q ->
  wpAny (model X.prog X.w) X.A (assignInOrder ((gr ts X.env).map (·.2)) us) (λ_ s'=>∃σ' H',Inv X pins σ' H' s'/\Q σ' H') X.xe s
abbrev SA:=V->V->V->Hp->(Hp->Prop)->Prop
def a0l(X:Cx)(t:SA):Prop :=
 ∀(pins:List (Addr×Obj)) (s:l5) (σ:St) (H:Hp) (o i v:V) (ov iv u:j5) (Q:Hp->Prop),Inv X pins σ H s->RelV o ov->RelV i iv->RelV v u->t o i v H Q ->
  wpAny (model X.prog X.w) X.A (pO ov iv u) (λ_ s'=>∃H',Inv X pins σ H' s'/\Q H') X.xe s
def Y9(i:Nat):TG:=λv σ H Q=>Q (σ.set i (U v)) H
def GH(d:X.N.Nodup)(b:X.N[k]? = U m)(c:Loc X.env.scope m)(f:autoParam (X.fn m=Uf\/X.env.scope.names.lookup m=U .local) bC):PG X (.Name m p) (Y9 k):=by exact λa s g H v u Q I r h=>wpAny_assign_Name (BK I d b c r (λj e=>⟨_,H,e,h⟩) f)
def Jq:pK:=λvs σ H Q=>vs=[]/\Q σ H
def uD(t:TG)(u:pK):pK:=λvs σ H Q=>∃v r,vs=v::r/\t v σ H λσ' H'=>u r σ' H' Q
def VE:MX X [] Jq:=by intro a s b H d c Q I r h;obtain⟨e,h⟩:=h;subst e;cases r;exact assignInOrder_nil ⟨b,H,I,h⟩
def QA{t:TG}{u:pK}(i:PG X o t)(d:MX X G u)(hs:autoParam ((gr (o::G) X.env).map (·.2)=assign o X.env::(gr G X.env).map (·.2)) k6):MX X (o::G) (uD t u):=by
 intro a s f H e p Q I r h;obtain⟨v,n,j,h⟩:=h;subst j;cases r with
 |cons r c =>
  rw[hs];refine assignInOrder_cons (C4 (i a s f H _ _ _ I r h) λ_ g ⟨b,k,l,m⟩=>?_);exact d a g b k _ _ Q l c m
def CQ(K:n6)(n:Nat)(t:pK):TG:=λv σ H Q=>∃a xs,v=.ref a/\T9 K H a xs/\xs.length=n/\t xs σ H Q
def Yx{t:pK}{n:Nat}(z:X.calm=Uf)(h:MX X G t)(j:autoParam ((gr G X.env).length=n) k6)(d:autoParam ((gr G X.env).findIdx? (·.1)=J) k6):PG X (.Tuple G k p) (CQ X.K n t):=by
 intro c s g H v u Q I r f;obtain⟨a,x,y,hq,C,f⟩:=f;subst y;cases r;obtain⟨A,i,l,B⟩:=I.tuple hq;refine assign_Tuple_tuple (I.ok.hd z) l (by simp[j,<-C,i.length]) d λw m=>?_;have q:Inv X c g H {s with heap:=w}:=I.kept λb o e=>m b o (O2 (C3 e)) e;exact h c _ g H x _ Q q (by simpa using i) f
def CS(to ti:TE)(t:SA):TG:=λv σ H Q=>to σ H λo H1=>ti σ H1 λi H2=>t o i v H2 λH3=>Q σ H3
def wM {f:TE} {e:SA} (j:PE X o t) (g:PE X Z f) (hs:a0l X e) (F:autoParam (∀v,assign (.Subscript o Z p) X.env v=(do
   let b <- holding [v] (eval o X.env)
   let c <- holding [v,b] (eval Z X.env)
   bH p
   holding [v,b,c] (pO b c v)
   release [v,b,c] [])) Q4):PG X (.Subscript o Z p) (CS t f e):=by
 intro a s d H v u Q I r h;refine l8 (gx (C4 (j a s d H _ I h) λb m ⟨x,B,n,z,C⟩=>?_));refine l8 (gx (C4 (g a m d B _ n C) λc w ⟨y,q,l,i,q2⟩=>?_));refine l8 (Ei (l8 (gx (C4 (hs a w d q x y v b c u _ l z i r q2) λ_ E ⟨A,D,k⟩=>?_))));exact wpAny_release ⟨d,A,D,k⟩
def fO(te:TE)(g:TG):TS:=λD σ H=>te σ H λx H1=>g x σ H1 D.nx
def wK{g:TG}(f:PE X Z t)(j:PG X o g)(hs:autoParam (tq [o] Z p.line X.env=pure U') k6)(d:autoParam (tm [o] Z X.env=pure J) k6)(l:autoParam ((gr [o] X.env).map (·.2)=[assign o X.env]) k6):PS X (.Assign [o] Z p) (fO t g):=by
 intro a s c H D I h;refine wpAny_Assign_stores (C4 (f a s c H _ I h) λv k ⟨x,m,n,i,e⟩=>?_) hs d;rw[l];exact C4 (j a k c m x v _ n i e) λ_ b q=>q
def BZ(g:X.N.Nodup)(c:X.N[k]? = U m)(f:Loc X.env.scope m)(d:PE X o t)(hs:autoParam (ag o (U (.Name m R)) p.line X.env=pure U') k6)(n:autoParam (X.fn m=Uf\/X.env.scope.names.lookup m=U .local) bC):
  PS X (.Assign [.Name m R] o p) (fO t (Y9 k)):=by
 intro b s l H D I h;refine wpAny_Assign_Name (C4 (d b s l H _ I h) λv r ⟨y,e,a,x,i⟩=>?_) hs;exact BK a g c f x (λq j=>⟨_,e,j,i⟩) n
def Kh(c:TT)(tb:TS):TS:=λD σ H=>∃W:Nat->St->Hp->Prop,(∃m,W m σ H)/\∀m σ H,W m σ H ->
 c σ H λb H1=>if b=Uf then ∃N:St->Hp->Prop,(∀σ' H',N σ' H'->∃m',m'<m/\W m' σ' H')/\tb {D with nx:=N,ct:=N,bk:=D.nx} σ H1 else D.nx σ H1
def Qo{B:TT}{x:TS}(t:sP (model X.prog X.w) X.A X.env X.xe)(P:PT X o B)(Q:oy X a9 x):PS X (.While o a9 [] p) (Kh B x):=by
 intro d s E H D I h;obtain⟨W,⟨m0,F⟩,turn⟩:=h;refine wpAny_While (codeAny_whileLoop (λn O=>∃i C,Inv X d i C O/\W n i C) ?_ m0 ⟨E,H,I,F⟩);rintro n G ⟨e,z,K,L⟩;refine nr t (C4 (P d G e z _ K (turn n e z L)) λb M ⟨u,r,q2⟩=>?_)
 cases b with
 |true =>
  obtain⟨N,y,q2⟩:=q2;refine nr t (C4 (Q d M e u _ r q2) λf R k=>?_)
  cases f with
  |next =>
   obtain⟨a,j,q,l⟩:=k;obtain⟨c,g,m⟩:=y a j l;exact⟨c,g,a,j,q,m⟩
  |cont =>
   obtain⟨a,j,q,l⟩:=k;obtain⟨c,g,m⟩:=y a j l;exact⟨c,g,a,j,q,m⟩
  |brk=>exact k
  |ret v=>exact k
 |false =>
  exact yg ⟨e,u,r,q2⟩
structure It where
 go:Nat->Hp->Prop
 SM:Nat->Hp->V->Hp->Prop
 stop:Nat->Hp->Prop
def lx(X:Cx)(pins:List (Addr×Obj))(H:Hp)(b:Addr):Prop :=
 H b=J/\b≠X.env.locals/\b∉X.fs/\(b∈X.ex\/X.R5.heap.objs.size<=b)/\(∀x c,X.env.cells.lookup x=U c->c≠b)/\∀p∈X.pn++pins,p.1≠b
def Inv.zQ{H':Hp}(I:Inv X d n a c)(H:(hz c)<=e)(f:H' e=J):lx X d H' e:=by
 refine⟨f,eZ (J4 I.lt H),I.QZ H,.inr (p5 I.sz H),λx s b z=>?_,λp g z=>?_⟩;obtain⟨v,q⟩:=I.cell x s b;exact absurd (J4 q.lt (by rw[z];exact H)) (Z3 _);exact absurd (J4 (C3 (I.pin p g).1) (by rw[z];exact H)) (Z3 _)
structure Turn(P:H9)(w:x5)(K:n6)(tg:Expr)(Jff:It)(fp:List Addr)(it:Addr)(tn:Nat->Heap->Prop):Prop where
 mem:it∈fp
 obj:∀i h,tn i h->∀b∈fp,∃o,h.get? b=U o/\∀v,o.data≠.cell v
 keep:∀i h h',tn i h->(∀b∈fp,∀o,h.get? b=U o->h'.get? b=U o)->tn i h'
 item:∀(X:Cx),X.prog=P->X.w=w->X.K=K->X.calm=Uf->∀(i:Nat) (pins:List (Addr×Obj)) (s:l5) (σ:St) (H:Hp) (E:j5->l5->Prop),Inv X pins σ H s->(∀b∈fp,lx X pins H b)->tn i s.heap->Jff.go i H ->
  wpAny (model P w) X.A (mV (.ref it)) (λr s1=>∃u,r=U u /\
   wpAny (model P w) X.A (Ew tg (.ref it) u) (λ_ s2=>∃x H',Inv X pins σ H' s2/\RelV x u/\Jff.SM i H x H'/\tn (i+1) s2.heap/\∀b∈fp,H' b=J) E s1) E s
 done:∀(X:Cx),X.prog=P->X.w=w->X.K=K->X.calm=Uf->∀(i:Nat) (pins:List (Addr×Obj)) (s:l5) (σ:St) (H:Hp) (E:j5->l5->Prop),Inv X pins σ H s->(∀b∈fp,lx X pins H b)->tn i s.heap->Jff.stop i H ->
  wpAny (model P w) X.A (mV (.ref it)) (λr s1=>r=J/\Inv X pins σ H s1) E s
 self:∀(A:X9) (i:Nat) (s:l5) (Q:j5->l5->Prop) (E:j5->l5->Prop),tn i s.heap->Q (.ref it) s->wpAny (model P w) A (pyIter (.ref it)) Q E s
abbrev TI:=St->Hp->(It->Hp->Prop)->Prop
def PIE(X:Cx)(pins:List (Addr×Obj))(σ:St)(tg:Expr)(R:It->Hp->Prop)(itv:j5)(s2:l5):Prop :=
 ∃(it:Addr) (fp:List Addr) (tn:Nat->Heap->Prop) (Jff:It) (H':Hp),itv=.ref it/\Inv X pins σ H' s2/\Turn X.prog X.w X.K tg Jff fp it tn/\tn 0 s2.heap/\(∀b∈fp,lx X pins H' b)/\R Jff H'
def PI(X:Cx)(tg iter:Expr)(wi:TI):Prop :=
 ∀(pins:List (Addr×Obj)) (s:l5) (σ:St) (H:Hp) (R:It->Hp->Prop),Inv X pins σ H s->wi σ H R ->
  wpAny (model X.prog X.w) X.A (eval iter X.env) (λv s1=>wpAny (model X.prog X.w) X.A (pyIter v) (PIE X pins σ tg R) X.xe s1) X.xe s
def Bs{M:Model}{s:Obj}{n:String}{vs:Array j5}(d:c.heap.get? e=U s)(b:s.cls=.type n)(hd:s.data=.fields vs)(E:["enumerate","zip","dict_itemiterator","dict_reverseitemiterator","odict_iterator","itertools.zip_longest","itertools.pairwise"].contains n=U')(a:b3 () c):wpAny M A (Ew o (.ref e) D) b3 q c:=by
 cases o<;>first
  |exact p4 a
  |(cases D<;>first
    |exact p4 a
    | (refine l8 (wpAny_load d ?_)
       rw[b,hd];show wpAny M A (if (["enumerate","zip","dict_itemiterator","dict_reverseitemiterator","odict_iterator","itertools.zip_longest","itertools.pairwise"].contains n&&vs[0]?==U (V5 _))=Uf then _ else _) b3 q c;rw[j1 (by intro h;rw[E,Ek]at h;exact nT h)]
       exact p4 a))
def Itl(K:n6)(a:Addr):It :=
 ⟨λi H=>∃xs x,K6 K H a xs/\xs[i]? = U x,λi H x H'=>H'=H/\∀xs,K6 K H a xs->xs[i]? = U x,λi H=>∃xs,K6 K H a xs/\xs.length<=i⟩
def Itt(K:n6)(a:Addr):It :=
 ⟨λi H=>∃xs x,T9 K H a xs/\xs[i]? = U x,λi H x H'=>H'=H/\∀xs,T9 K H a xs->xs[i]? = U x,λi H=>∃xs,T9 K H a xs/\xs.length<=i⟩
def OC(lo:Int)(n:Nat):It:=⟨λi _=>i<n,λi H x H'=>H'=H/\x=.int (lo+i),λi _=>n<=i⟩
def Kc(a it:Addr):Turn y a6 O Z (Itl O a) [it] it (λi h=>h.IsListIter it a i) where
 mem:=B4
 obj:=λi h f b j=>by
  have e:b=it:=by simpa using j
  subst e;obtain⟨o,e,c,d⟩:=f;exact⟨o,e,λv z=>by rw[d]at z;cases z⟩
 keep:=λi h C f k=>f.at λo e=>k it B4 o e
 item:=by
  intro X n B t w i g s N H E I m f G;subst n B t;obtain⟨xs,x,hq,q⟩:=G;obtain⟨L,F,p,Q⟩:=I.list hq;obtain⟨u,Y,T⟩:=F.get q;obtain⟨P,M,f2,D,r,A⟩:=m it B4;refine wpAny_pyNext_list_item f p.isList (by simpa using Y) λC l R=>?_;have S:Inv X g N H {s with heap:=C}:=I.turned (λb o j e=>(R.2 b j).trans e) P M D r A;obtain⟨o,e,c,d⟩:=id l;exact⟨u,rfl,Bs e c d f5 ⟨x,H,S,T,⟨rfl,λys hy=>by rw[I.vL hy hq];exact q⟩,l,λb j=>(m b j).1⟩⟩
 done:=by intro X n B t w i g s N H E I m f G;subst n B t;obtain⟨xs,hq,q⟩:=G;obtain⟨L,F,p,Q⟩:=I.list hq;obtain⟨P,M,f2,D,r,A⟩:=m it B4;have:=F.length;exact wpAny_pyNext_list_end (I.ok.hd w) f p.isList (by simp;simp_all) λC V=>⟨rfl,I.turned (λb o j e=>V b o j e) P M D r A⟩
 self:=λ_ _ _ _ _ f h=>wpAny_pyIter_listiter f h
def HV(a it:Addr):Turn y a6 O Z (Itt O a) [it] it (λi h=>h.IsTupleIter it a i) where
 mem:=B4
 obj:=λi h f b j=>by
  have e:b=it:=by simpa using j
  subst e;obtain⟨o,e,c,d⟩:=f;exact⟨o,e,λv z=>by rw[d]at z;cases z⟩
 keep:=λi h D f k=>f.at λo e=>k it B4 o e
 item:=by
  intro X q C P w i g s N H E I n f L;subst q C P;obtain⟨xs,x,hq,r⟩:=L;obtain⟨l,G,p,Q⟩:=I.tuple hq;obtain⟨u,Y,T⟩:=G.get r;obtain⟨A,M,f2,F,t,B⟩:=n it B4;refine wpAny_pyNext_tuple_item f (show s.heap.IsTuple a l.toArray from p) (by simpa using Y) λD m R=>?_;have S:Inv X g N H {s with heap:=D}:=I.turned (λb o j e=>(R.2 b j).trans e) A M F t B;obtain⟨o,e,c,d⟩:=id m;exact⟨u,rfl,Bs e c d f5 ⟨x,H,S,T,⟨rfl,λys hy=>by rw[I.Aj hy hq];exact r⟩,m,λb j=>(n b j).1⟩⟩
 done:=by intro X q C P w i g s N H E I n f L;subst q C P;obtain⟨xs,hq,r⟩:=L;obtain⟨l,G,p,Q⟩:=I.tuple hq;obtain⟨A,M,f2,F,t,B⟩:=n it B4;have:=G.length;exact wpAny_pyNext_tuple_end (I.ok.hd w) f (show s.heap.IsTuple a l.toArray from p) (by simp;simp_all) λD V=>⟨rfl,I.turned (λb o j e=>V b o j e) A M F t B⟩
 self:=λ_ _ _ _ _ f h=>wpAny_pyIter_tupleiter f h
def HW(it:Addr)(lo:Int)(n:Nat):Turn y a6 O o (OC lo n) [it] it (λi h=>IsRangeIter h it (lo+(i:Nat)*1) ((n:Int)-(i:Nat)) 1) where
 mem:=B4
 obj:=λi h a b d=>by
  have e:b=it:=by simpa using d
  subst e;exact⟨_,a,λv z=>by cases z⟩
 keep:=λi h q a k=>k it B4 _ a
 item:=by
  intro X P C A x i c s B H E I g a u;obtain⟨l,p,w,r,j,m⟩:=g it B4;refine(Walks.range (I.ok.hd x) it lo 1 n).item i s _ _ u a λv q D M f N=>?_;obtain⟨t,rfl⟩:=M;have F:Inv X c B H {s with heap:=q,toks:=D}:=I.turned (λb K d e=>N b K (by simpa using d) e) l p r j m;refine⟨_,rfl,Bs f rfl rfl f5 ⟨.int (lo+i),H,F,⟨t,?_⟩,⟨rfl,rfl⟩,f,λb d=>(g b d).1⟩⟩;rw[ni]
 done:=by intro X P C A x i c s B H E I g a u;obtain⟨l,p,w,r,j,m⟩:=g it B4;exact wpAny_pyNext_range_end (I.ok.hd x) a (by have:n<=i:=u;lia) λq G=>⟨rfl,I.turned (λb K d e=>G b K d e) l p r j m⟩
 self:=λ_ _ _ _ _ a h=>wpAny_pyIter_rangeiter a h
def BV{s:l5}{R:It->Hp->Prop}{lo E:Int}{t u v:Tok}(I:Inv X d n a s)(p : -(2 ^ 62)<=lo)(i:lo<2 ^ 62)(j : -(2 ^ 62)<=E)(g:E<2 ^ 62)(f:R (OC lo (E-lo).toNat) a):wpAny (model X.prog X.w) X.A (pyIter (.ref (hz s))) (PIE X d n o R) q {s with heap:=s.heap.push {cls:=.type "range",data:=.fields #[.int lo t,.int E u,.int 1 v]},toks:=k}:=by
 refine wpAny_pyIter_range (IsRange.new ..) (small_one p i j g) ?_;have H:Inv X d n a {s with heap:=s.heap.push {cls:=.type "range",data:=.fields #[.int lo t,.int E u,.int 1 v]},toks:=k}:=I.kept λb c e=>F8 _ e
 refine⟨(s.heap.push {cls:=.type "range",data:=.fields #[.int lo t,.int E u,.int 1 v]}).objs.size,[(s.heap.push {cls:=.type "range",data:=.fields #[.int lo t,.int E u,.int 1 v]}).objs.size],_,_,a,rfl,
  H.kept λb c e=>F8 _ e,HW _ lo (E-lo).toNat,?_,λb m=>?_,f⟩
 . have l:lo+((0:Nat))*1=lo:=by simp
   have h:(((E-lo).toNat))-((0:Nat))=Builtin.Range.rangeSize lo E 1:=by rw[rangeSize_one];split<;>lia
   rw[l,h];exact U1 _ rfl
 . have e:b=(s.heap.push {cls:=.type "range",data:=.fields #[.int lo t,.int E u,.int 1 v]}).objs.size:=by simpa using m
   subst e;exact H.zQ y4 (H.E7.fresh y4)
def TF(ta:TA):TI:=λσ H R=>ta σ H λvs H1=>∃j:Int,vs=[.int j]/\-(2 ^ 62)<=j/\j<2 ^ 62/\R (OC 0 j.toNat) H1
def TC(ta:TA):TI:=λσ H R=>ta σ H λvs H1=>∃i j:Int,vs=[.int i,.int j]/\(-(2 ^ 62)<=i/\i<2 ^ 62/\-(2 ^ 62)<=j/\j<2 ^ 62)/\R (OC i (j-i).toNat) H1
def Lg(l:Gl X "range")(f:X.mg "range" = J)(n:PA X [Z] S)(hs:autoParam (m8 [Z] X.env=[(U',eval Z X.env)]) k6):PI X o (.Call (.Name "range" p) [Z] [] R) (TF S):=by
 intro b s k H d I h;refine Call_ (iF I l f boot_range (oC (C4 (n R b s k H _ I h) λv u ⟨a,w,m,i,c⟩=>?_) hs rfl))
 obtain⟨j,e,c,q2,q⟩:=c;subst e;cases i with
 |cons r g =>
  cases g;obtain⟨t,rfl⟩:=r;exact call_range_1 (BV m o9 o9 c q2 (by simpa using q))
def Lf{b:Expr}(x:Gl X "range")(a:X.mg "range" = J)(y:PA X [Z,b] S)(hs:autoParam (m8 [Z,b] X.env=[(U',eval Z X.env),(U',eval b X.env)]) k6)(c:autoParam (m8 [b] X.env=[(U',eval b X.env)]) k6):
  PI X o (.Call (.Name "range" p) [Z,b] [] R) (TC S):=by
 intro d s m H k I h;refine Call_ (iF I x a boot_range (oC (C4 (y R d s m H _ I h) λC B ⟨z,D,n,w,g⟩=>?_) (by rw[hs,c]) (by rw[c];rfl)))
 obtain⟨i,j,e,⟨g,q2,l,v⟩,q⟩:=g;subst e;cases w with
 |cons r f =>
  cases f with
  |cons u f =>
   cases f;obtain⟨t,rfl⟩:=r;obtain⟨A,rfl⟩:=u;exact call_range_2 (BV n g q2 l v q)
def Pc(wi:TI)(g:TG)(tb:TS):TS:=λD σ H=>wi σ H λJff H1=>∃W:Nat->Nat->St->Hp->Prop,(∃m,W 0 m σ H1)/\∀i m σ H,W i m σ H ->
 (Jff.stop i H/\D.nx σ H)\/(Jff.go i H/\∃N:St->Hp->Prop,(∀σ' H',N σ' H'->∃m',m'<m/\W (i+1) m' σ' H')/\∀x H',Jff.SM i H x H'->g x σ H' λσ2 H2=>tb {D with nx:=N,ct:=N,bk:=D.nx} σ2 H2)
def rS(fp:List Addr)(h:Heap):List (Addr×Obj):=fp.filterMap λb=>(h.get? b).map λo=>(b,o)
def lG{o:Obj}(a:e∈L)(b:h.get? e=U o):(e,o)∈rS L h:=List.mem_filterMap.mpr ⟨e,a,by rw[b];rfl⟩
def LD{p:Addr×Obj}(a:p∈rS L h):p.1∈L/\h.get? p.1=U p.2:=by
 obtain⟨b,d,e⟩:=List.mem_filterMap.mp a;cases q:h.get? b with
 |none=>rw[q]at e;exact nE e
 |some o =>
  rw[q]at e;have c:=R1 e;subst c;exact⟨d,q⟩
def Inv.pinned{H:Hp}(I:Inv X d n H c)(h:∀b∈L,lx X d H b)(g:∀b∈L,∃o,c.heap.get? b=U o/\∀v,o.data≠.cell v):Inv X (d++rS L c.heap) n H c :=
 I.jD λp i=>(List.mem_append.mp i).elim (λz=>I.pin p (F4 _ z)) λz=>by obtain⟨f,e⟩:=LD z;obtain⟨j,l,k,_⟩:=h p.1 f;obtain⟨o,s,a⟩:=g p.1 f;rw[e]at s;cases s;exact⟨e,j,l,k,a⟩
def Inv.vr{pl:List (Addr×Obj)}{H:Hp}(I:Inv X (d++pl) n H c):Inv X d n H c:=I.jD λp b=>I.pin p (F4 _ (P9 _ b))
def Yr{wi:TI}{g:TG}{tb:TS}(hp:sP (model X.prog X.w) X.A X.env X.xe)(hc:X.calm=Uf)(hi:PI X o Z wi)(hg:PG X o g)(hb:oy X a9 tb)(hs:autoParam (∀x,dw Z X.env x=pure x) Q4):PS X (.For o Z a9 [] p) (Pc wi g tb):=by
 intro pins s σ H D I h;refine wpAny_For (C4 (hi pins s σ H _ I h) λv s1 h1=>C4 h1 λitv s2 h2=>?_) hs;obtain⟨it,fp,tn,Jff,H2,e,I2,T,st2,f2,W,⟨m0,w0⟩,turn⟩:=h2;subst e;have stat:∀{H':Hp},(∀b∈fp,H' b=J)->∀b∈fp,lx X pins H' b:=λhn b hb=>⟨hn b hb,(f2 b hb).2⟩;refine codeAny_forLoop_any (λn s'=>∃i σ' H',Inv X pins σ' H' s'/\tn i s'.heap/\(∀b∈fp,H' b=J)/\W i n σ' H') ?_ m0 ⟨0,σ,H2,I2,st2,λb hb=>(f2 b hb).1,w0⟩
 rintro n s3 ⟨i,σ3,H3,I3,st3,fr3,w3⟩;rcases turn i n σ3 H3 w3 with ⟨stop,qn⟩|⟨go,N,hN,step⟩
 refine nr hp (C4 (T.done X rfl rfl rfl hc i pins s3 σ3 H3 X.xe I3 (stat fr3) st3 stop) λr s4 ⟨hr,I4⟩=>?_);subst hr;exact yg ⟨σ3,H3,I4,qn⟩
 . refine nr hp (C4 (T.item X rfl rfl rfl hc i pins s3 σ3 H3 X.xe I3 (stat fr3) st3 go) λr s4 ⟨u,hr,h4⟩=>?_);subst hr;refine nr hp (C4 h4 λ_ s5 ⟨x,H5,I5,r5,y5,st5,fr5⟩=>?_);have I5':=I5.pinned (stat fr5) (T.obj _ _ st5);refine nr hp (C4 (hg _ s5 σ3 H5 x u _ I5' r5 (step x H5 y5)) λ_ s6 ⟨σ6,H6,I6,q6⟩=>?_);refine nr hp (C4 (hb _ s6 σ6 H6 _ I6 q6) λf s7 q7=>?_)
   have again:∀{σ7:St} {H7:Hp},Inv X (pins++rS fp s5.heap) σ7 H7 s7->N σ7 H7->∃m,m<n/\∃i σ' H',Inv X pins σ' H' s7/\tn i s7.heap/\(∀b∈fp,H' b=J)/\W i m σ' H':=λ{σ7 H7} I7 n7=>by
    obtain⟨m',hm,w7⟩:=hN σ7 H7 n7;refine⟨m',hm,i+1,σ7,H7,I7.vr,T.keep _ _ _ st5 λb hb a e=>(I7.pin (b,a) (F4 _ (F4 _ (lG hb e)))).1,λb hb=>?_,w7⟩;obtain⟨a,e,d⟩:=T.obj _ _ st5 b hb;exact(I7.pin (b,a) (F4 _ (F4 _ (lG hb e)))).2.1
   cases f with
   |next=>obtain⟨σ7,H7,I7,n7⟩:=q7;exact again I7 n7
   |cont=>obtain⟨σ7,H7,I7,n7⟩:=q7;exact again I7 n7
   |brk=>obtain⟨σ7,H7,I7,q7⟩:=q7;exact⟨σ7,H7,I7.vr,q7⟩
   |ret v=>obtain⟨x7,σ7,H7,I7,r7,q7⟩:=q7;exact⟨x7,σ7,H7,I7.vr,r7,q7⟩
abbrev R2:=V->V->Hp->VK->Prop
def S8(X:Cx)(f:j5->j5->Sem j5)(r:R2):Prop :=
 ∀(pins:List (Addr×Obj)) (s:l5) (σ:St) (H:Hp) (x y:V) (v u:j5) (Q:VK),Inv X pins σ H s->RelV x v->RelV y u->r x y H Q ->
  wpAny (model X.prog X.w) X.A (f v u) (EP X pins σ Q) X.xe s
def Uh(X:Cx)(f:j5->Sem j5)(r:V->Hp->VK->Prop):Prop :=
 ∀(pins:List (Addr×Obj)) (s:l5) (σ:St) (H:Hp) (x:V) (v:j5) (Q:VK),Inv X pins σ H s->RelV x v->r x H Q ->
  wpAny (model X.prog X.w) X.A (f v) (EP X pins σ Q) X.xe s
def dB(X:Cx)(f:j5)(r:List V->Hp->VK->Prop):Prop :=
 ∀(pins:List (Addr×Obj)) (s:l5) (σ:St) (H:Hp) (xs:List V) (us:List j5) (Q:VK),Inv X pins σ H s->Vals xs us->r xs H Q ->
  wpAny (model X.prog X.w) X.A (call f us) (EP X pins σ Q) X.xe s
def my(r:R2)(ta tb:TE):TE:=λσ H Q=>ta σ H λx H1=>tb σ H1 λy H2=>r x y H2 Q
def tUn(r:V->Hp->VK->Prop)(ta:TE):TE:=λσ H Q=>ta σ H λx H1=>r x H1 Q
def rI(C:Int->Int->Prop)(g:Int->Int->V):R2:=λx y H Q=>∃i j,x=.int i/\y=.int j/\C i j/\Q (g i j) H
def lz(g:Int->Int->V):R2:=λx y H Q=>∃i j,x=.int i/\y=.int j/\Q (g i j) H
def rU(g:Int->V):V->Hp->VK->Prop:=λx H Q=>∃i,x=.int i/\Q (g i) H
def Sq{tb:TE}(a:PE X o t)(s:PE X Z tb){H:Hp}{R:V->V->Hp->Prop}(I:Inv X d n H c)(h:t n H λx b=>tb n b λy H2=>R x y H2)(k:∀v u s2 x y H2,Inv X d n H2 s2->RelV x v->RelV y u->R x y H2->wpAny (model X.prog X.w) X.A (b4 v u) q X.xe s2):
  wpAny (model X.prog X.w) X.A (eval o X.env) (λv s₁=>wpAny (model X.prog X.w) X.A (eval Z X.env) (λu s₂=>wpAny (model X.prog X.w) X.A (b4 v u) q X.xe s₂) X.xe s₁) X.xe c:=by
 refine C4 (a d c n H _ I h) λv j ⟨x,b,l,i,m⟩=>?_;refine C4 (s d j n b _ l m) λu s2 ⟨y,H2,g,e,q2⟩=>?_;exact k v u s2 x y H2 g i e q2
def a0P{tb:TE}{op:Operator}{r:R2}(e:S8 X (V6 op) r)(m:PE X o t)(l:PE X Z tb):PE X (.BinOp o op Z p) (my r t tb):=by exact λc s j H Q I h=>wpAny_BinOp (Sq m l I h λv u f x y d g k i q=>e c f j d x y v u Q g k i q)
def a0N{op:UnaryOp}{r:V->Hp->VK->Prop}(d:Uh X (unaryOp op) r)(k:PE X o t):PE X (.UnaryOp op o p) (tUn r t):=by exact λb s c H Q I h=>UnaryOp_ (C4 (k b s c H _ I h) λv f ⟨x,g,i,e,j⟩=>d b f c g x v Q i e j)
def Ln{C:Int->Int->Prop}{g:Int->Int->Int}(a:∀(i j:Int) (t u:Tok) (s:l5) (Q:j5->l5->Prop) (E:j5->l5->Prop),C i j->Q (.int (g i j) s.toks) {s with toks:=s.toks+1}->wpAny (model X.prog X.w) X.A (b4 (.int i t) (.int j u)) Q E s):
  S8 X b4 (rI C λi j=>.int (g i j)):=by intro b s l H x y v u Q I e c h;obtain⟨i,j,rfl,rfl,k,q⟩:=h;obtain⟨t,rfl⟩:=e;obtain⟨d,rfl⟩:=c;exact a i j t d s _ _ k ⟨.int (g i j),H,I.tok _,⟨_,rfl⟩,q⟩
def YV{g:Int->Int->Int}(a:∀(i j:Int) (t u:Tok) (s:l5) (Q:j5->l5->Prop) (E:j5->l5->Prop),Q (.int (g i j) s.toks) {s with toks:=s.toks+1}->wpAny (model X.prog X.w) X.A (b4 (.int i t) (.int j u)) Q E s):
  S8 X b4 (lz λi j=>.int (g i j)):=by intro b s k H x y v u Q I e c h;obtain⟨i,j,rfl,rfl,q⟩:=h;obtain⟨t,rfl⟩:=e;obtain⟨d,rfl⟩:=c;exact a i j t d s _ _ ⟨.int (g i j),H,I.tok _,⟨_,rfl⟩,q⟩
def IC{g:Int->Int->Bool}(a:∀(i j:Int) (t u:Tok) (s:l5) (Q:j5->l5->Prop) (E:j5->l5->Prop),Q (.bool (g i j)) s->wpAny (model X.prog X.w) X.A (b4 (.int i t) (.int j u)) Q E s):
  S8 X b4 (lz λi j=>.bl (g i j)):=by intro b s k H x y v u Q I e c h;obtain⟨i,j,rfl,rfl,q⟩:=h;obtain⟨t,rfl⟩:=e;obtain⟨d,rfl⟩:=c;exact a i j t d s _ _ ⟨.bl (g i j),H,I,rfl,q⟩
def Ac(i j:Int):Prop:=0<=j/\j<=1000000/\i.natAbs<2 ^ 64
def HU(k:Nat):(0:Int)<=2 ^ k:=by exact qg _
def YU:S8 X (V6 .Add) (lz λi j=>.int (i+j)):=YV λ_ _ _ _ _ _ _ q=>add_int q
def YK:S8 X (V6 .Sub) (lz λi j=>.int (i-j)):=YV λ_ _ _ _ _ _ _ q=>sub_int q
def VO:S8 X (V6 .Mod) (rI (λ_ j=>j≠0) λi j=>.int (i.fmod j)):=Ln λ_ _ _ _ _ _ _ a q=>mod_int' a q
def YM:S8 X (V6 .Pow) (rI Ac λi j=>.int (i ^ j.toNat)):=Ln λ_ _ _ _ _ _ _ a q=>pow_int_small a.1 a.2.1 a.2.2 q
def YL:S8 X (V6 .RShift) (rI (λ_ j=>0<=j) λi j=>.int (i/2 ^ j.toNat)):=Ln λi j _ _ _ _ _ a q =>
 rshift_int a (by rw[aq i (HU _)];exact q)
def unI{f:j5->Sem j5}{g:Int->Int}(a:∀(i:Int) (t:Tok) (s:l5) (Q:j5->l5->Prop) (E:j5->l5->Prop),Q (.int (g i) s.toks) {s with toks:=s.toks+1}->wpAny (model X.prog X.w) X.A (f (.int i t)) Q E s):
  Uh X f (rU λi=>.int (g i)):=by intro b s d H x v Q I c h;obtain⟨i,rfl,q⟩:=h;obtain⟨t,rfl⟩:=c;exact a i t s _ _ ⟨.int (g i),H,I.tok _,⟨_,rfl⟩,q⟩
def Xi:Uh X (unaryOp .USub) (rU λi=>.int (-i)):=unI λ_ _ _ _ _ q=>neg_int q
noncomputable def XC:V->V->Bool
 | .non,.non=>Uf | .non,.int _=>Uf | .int _,.non=>Uf | .non,.bl _=>Uf | .bl _,.non=>Uf | .non,.str _=>Uf | .str _,.non=>Uf
 | .int _,.int _=>Uf | .bl _,.bl _=>Uf | .str _,.str _=>Uf | .byt _,.byt _=>Uf
 | .int _,.str _=>Uf | .str _,.int _=>Uf | .bl _,.str _=>Uf | .str _,.bl _=>Uf
 |_,_=>U'
def rEq:R2:=λx y H Q=>XC x y=Uf/\Q (.bl (decide (x=y))) H
def rNe:R2:=λx y H Q=>XC x y=Uf/\Q (.bl (!decide (x=y))) H
def HF{i j:Int}:decide (V.int i=V.int j)=(i==j):=by rw[qa];simp
def MD{i j:Bool}:decide (V.bl i=V.bl j)=(i==j):=by rw[qa];simp
def HE{j:Str}:decide (V.str m=V.str j)=(m==j):=by rw[qa];simp
def HG{i j:Array UInt8}:decide (V.byt i=V.byt j)=(i.toList==j.toList):=by rw[qa];cases i;cases j;simp
def F3{H:Hp}{Q:VK}{k k':Bool}(I:Inv X d n H c)(q:Q (.bl k) H)(e:k=k'):EP X d n Q (.bool k') c:=by subst e;exact⟨.bl k,H,I,rfl,q⟩
def a0X:S8 X (Z0 .Eq) rEq:=by
 intro e s f H x y v u Q I d a h;obtain⟨c,q⟩:=h;cases x with
 |non =>
  cases d;cases y with
  |non=>cases a;exact PySem.EqNone.eq_none_none (F3 I q rfl)
  |bl j=>cases a;exact PySem.EqNone.eq_none_bool (F3 I q rfl)
  |int j=>obtain⟨b,rfl⟩:=a;exact PySem.EqNone.eq_none_int (F3 I q rfl)
  |str j=>obtain⟨b,rfl⟩:=a;exact PySem.EqNone.eq_none_str (F3 I q rfl)
  |_=>exact absurd (show U'=Uf from c) cm
 |bl i =>
  cases d;cases y with
  |non=>cases a;exact PySem.EqNone.eq_bool_none (F3 I q rfl)
  |bl j=>cases a;exact eq_bool (F3 I q MD)
  |str j=>obtain⟨b,rfl⟩:=a;exact PySem.EqMixed.eq_bool_str (F3 I q rfl)
  |_=>exact absurd (show U'=Uf from c) cm
 |int i =>
  obtain⟨t,rfl⟩:=d;cases y with
  |non=>cases a;exact PySem.EqNone.eq_int_none (F3 I q rfl)
  |int j=>obtain⟨b,rfl⟩:=a;exact eq_int (F3 I q HF)
  |str j=>obtain⟨b,rfl⟩:=a;exact PySem.EqMixed.eq_int_str (F3 I q rfl)
  |_=>exact absurd (show U'=Uf from c) cm
 |str i =>
  obtain⟨t,rfl⟩:=d;cases y with
  |non=>cases a;exact PySem.EqNone.eq_str_none (F3 I q rfl)
  |bl j=>cases a;exact PySem.EqMixed.eq_str_bool (F3 I q rfl)
  |int j=>obtain⟨b,rfl⟩:=a;exact PySem.EqMixed.eq_str_int (F3 I q rfl)
  |str j=>obtain⟨b,rfl⟩:=a;exact eq_str (F3 I q HE)
  |_=>exact absurd (show U'=Uf from c) cm
 |byt i =>
  obtain⟨t,rfl⟩:=d;cases y with
  |byt j=>obtain⟨b,rfl⟩:=a;exact PySem.W.eq_bytes (F3 I q HG)
  |_=>exact absurd (show U'=Uf from c) cm
 |_=>cases y<;>exact absurd (show U'=Uf from c) cm
def a0T:S8 X (Z0 .NotEq) rNe:=by
 intro e s f H x y v u Q I d a h;obtain⟨c,q⟩:=h;cases x with
 |non =>
  cases d;cases y with
  |non=>cases a;exact PySem.EqNone.ne_none_none (F3 I q rfl)
  |bl j=>cases a;exact PySem.EqNone.ne_none_bool (F3 I q rfl)
  |int j=>obtain⟨b,rfl⟩:=a;exact PySem.EqNone.ne_none_int (F3 I q rfl)
  |str j=>obtain⟨b,rfl⟩:=a;exact PySem.EqNone.ne_none_str (F3 I q rfl)
  |_=>exact absurd (show U'=Uf from c) cm
 |bl i =>
  cases d;cases y with
  |non=>cases a;exact PySem.EqNone.ne_bool_none (F3 I q rfl)
  |bl j=>cases a;exact ne_bool (F3 I q (r9 not MD))
  |str j=>obtain⟨b,rfl⟩:=a;exact PySem.EqMixed.ne_bool_str (F3 I q rfl)
  |_=>exact absurd (show U'=Uf from c) cm
 |int i =>
  obtain⟨t,rfl⟩:=d;cases y with
  |non=>cases a;exact PySem.EqNone.ne_int_none (F3 I q rfl)
  |int j=>obtain⟨b,rfl⟩:=a;exact ne_int (F3 I q (r9 not HF))
  |str j=>obtain⟨b,rfl⟩:=a;exact PySem.EqMixed.ne_int_str (F3 I q rfl)
  |_=>exact absurd (show U'=Uf from c) cm
 |str i =>
  obtain⟨t,rfl⟩:=d;cases y with
  |non=>cases a;exact PySem.EqNone.ne_str_none (F3 I q rfl)
  |bl j=>cases a;exact PySem.EqMixed.ne_str_bool (F3 I q rfl)
  |int j=>obtain⟨b,rfl⟩:=a;exact PySem.EqMixed.ne_str_int (F3 I q rfl)
  |str j=>obtain⟨b,rfl⟩:=a;exact ne_str (F3 I q (r9 not HE))
  |_=>exact absurd (show U'=Uf from c) cm
 |byt i =>
  obtain⟨t,rfl⟩:=d;cases y with
  |byt j=>obtain⟨b,rfl⟩:=a;exact PySem.W.ne_bytes (F3 I q (r9 not HG))
  |_=>exact absurd (show U'=Uf from c) cm
 |_=>cases y<;>exact absurd (show U'=Uf from c) cm
def IA:S8 X (Z0 .Lt) (lz λi j=>.bl (decide (i<j))):=IC λ_ _ _ _ _ _ _ q=>lt_int q
def a0U:S8 X (Z0 .LtE) (lz λi j=>.bl (decide (i<=j))):=IC λ_ _ _ _ _ _ _ q=>le_int q
def a0V:S8 X (Z0 .Gt) (lz λi j=>.bl (decide (j<i))):=IC λ_ _ _ _ _ _ _ q=>gt_int q
def a0W:S8 X (Z0 .GtE) (lz λi j=>.bl (decide (j<=i))):=IC λ_ _ _ _ _ _ _ q=>ge_int q
def YS:S8 X (Z0 .Is) (λx y H Q=>y=.non/\Q (.bl (decide (x=.non))) H):=by
 intro b s d H x y v u Q I a c h;obtain⟨rfl,q⟩:=h;cases c;refine is_none_gen (F3 I q ?_);cases x<;>first
  |(cases a;rfl)
  |(obtain⟨t,rfl⟩:=a;rfl)
def VL:S8 X (Z0 .IsNot) (λx y H Q=>y=.non/\Q (.bl (!decide (x=.non))) H):=by
 intro b s d H x y v u Q I a c h;obtain⟨rfl,q⟩:=h;cases c;refine isnot_none_gen (F3 I q ?_);cases x<;>first
  |(cases a;rfl)
  |(obtain⟨t,rfl⟩:=a;rfl)
def S8.or{r b:R2}(h:S8 X b4 r)(h':S8 X b4 b):S8 X b4 (λx y H Q=>r x y H Q\/b x y H Q):=by
 intro a s d H x y v u Q I e c q;rcases q with q|q
 exact h a s d H x y v u Q I e c q;exact h' a s d H x y v u Q I e c q
def eI(b:Expr){op:CmpOp}(h:autoParam (op≠.In) E5)(a:autoParam (op≠.NotIn) E5):pY op b=U':=by
 have d:(op==CmpOp.In)=U':=by cases op<;>first|rfl|exact absurd rfl h
 have c:(op==CmpOp.NotIn)=U':=by cases op<;>first|rfl|exact absurd rfl a
 cases b<;>simp[pY,d,c]
def VI{tb:TE}{op:CmpOp}{r:R2}(f:S8 X (Z0 op) r)(n:PE X o t)(m:PE X Z tb)(d:pY op Z=U'):PE X (.Compare o [op] [Z] p) (my r t tb):=by exact λc s k H Q I h=>wpAny_Compare1 (Sq n m I h λv u g x y e i l j q=>f c g k e x y v u Q i l j q) d
def SX(t:TE):TT:=λσ H Q=>t σ H λx H'=>∃k,x=.bl k/\Q k H'
def Vo{tb:TE}{op:CmpOp}{r:R2}(g:S8 X (Z0 op) r)(E:PE X o t)(D:PE X Z tb)(a:pY op Z=U'):PT X (.Compare o [op] [Z] p) (SX (my r t tb)):=by
 intro d s f H Q I h;refine wpAny_isTrue_Compare1 (C4 (E d s f H _ I h) λv l ⟨x,B,m,b,C⟩=>C4 (D d l f B _ m C) λu q ⟨y,K,j,n,q2⟩ =>
  C4 (g d q f K x y v u _ j b n q2) λc G ⟨z,w,F,A,k,e,i⟩=>?_) a
 subst e;cases A;exact tN ⟨w,F,i⟩
def px:(A5:Nat)<2 ^ 63:=by rw[pT];decide
def IB:S8 X (V6 .Add) (λx y H Q=>∃i j,x=.str i/\y=.str j/\i.length+j.length<=A5/\Q (.str (i++j)) H):=by intro a s g H x y v u Q I e c h;obtain⟨i,j,rfl,rfl,b,q⟩:=h;obtain⟨t,rfl⟩:=e;obtain⟨d,rfl⟩:=c;exact add_str (λd f=>⟨.str (i++j),H,I.tok _,⟨_,rfl⟩,q⟩) b
def vals1(r:Vals [M] z):∃u,z=[u]/\RelV M u:=by
 cases r with
 |cons b a=>cases a;exact⟨_,rfl,b⟩
def vals2{y:V}(r:Vals [M,y] z):∃u w',z=[u,w']/\RelV M u/\RelV y w':=by
 cases r with
 |cons c a =>
  cases a with
  |cons b d=>cases d;exact⟨_,_,rfl,c,b⟩
def Sn:dB X (.builtin "abs") (λxs H Q=>∃i,xs=[.int i]/\Q (.int (if i<0 then -i else i)) H):=by intro a s c H xs d Q I r h;obtain⟨i,rfl,q⟩:=h;obtain⟨u,rfl,t,rfl⟩:=vals1 r;exact call_abs_int λu b=>⟨.int (if i<0 then -i else i),H,I.tok _,⟨_,rfl⟩,q⟩
structure wa(h:Heap)(x dx C:Addr)(mA:Str->Option j5):Prop where
 obj:h.get? x=U (kQ C dx)
 ns:h.Ns1 dx mA
 ne:dx≠x
set_option tactic.hygienic true in
def LU(n:h.Ns1 e a7):∃od,h.get? e=U od/\∀name,yf name od=U (a7 name):=by
 obtain⟨o,c,p,j,g,m,_,i⟩:=n;refine⟨o,j,λname=>?_⟩;have f:=i name;unfold nsFind findBy at f;rw[<-Array.find?_toList]at f;delta yf;rw[g];dsimp only;split;rename_i y q;rw[q]at f;exact r9 U f
 . rename_i q;rw[q]at f;have a:c.toList.any (·.refKey)=U':=by rw[List.any_eq_false];intro y k;obtain⟨z,t,b⟩:=m y (Array.mem_toList_iff.mp k);simp[DictEntry.refKey,b]
   have l:¬c.toList.any (·.refKey)=Uf:=by rw[a];exact cm
   rw[j1 l];exact r9 U f
def wa.look{C:Addr}(I:wa h e B C a7):∃od,PySem.W.InstAt h e (kQ C B) C (U od)/\∀name,yf name od=U (a7 name) :=
 let ⟨od,c,d⟩:=LU I.ns
 ⟨od,⟨I.obj,rfl,rfl,c⟩,d⟩
section
variable{prog:H9}{w:x5}{K:n6}
def get_map{C:Addr}{a:Bool}{Q:j5->l5->Prop}(X:K.In c.heap)(I:wa c.heap e B C a7)(d:tJ K C m=Uf)(E:tM K C=Uf)(g:ai K (.ref C) m=U J)(f:a7 m=U D)(b:Nq D=Uf)(h:Q D {c with toks:=c.toks+1}):
  wpAny (model prog w) A (getAttr (.ref e) m a) Q q c:=by obtain⟨i,Jff,s⟩:=I.look;exact PySem.W.get_value X Jff (ES d).1 (PySem.W.findObj_own E g rfl (by rw[s,f])) b h
def RA{C f:Addr}{pl:Sem Bool}(X:K.In c.heap)(I:wa c.heap e B C a7)(a:tJ K C m=Uf)(d:ai K (.ref C) m=U (U (.ref f)))(b:sZ K (.ref f)=Uf)(E:a7 m=J)(h:b7 (.ref f,[.ref e]) c):
  wpAny (model prog w) A (iX (.ref e) m pl) b7 q c:=by obtain⟨s,Jff,g⟩:=I.look;exact PySem.W.method_fn X Jff (ES a).1 (ES a).2 d (beq_iff_eq.mp b) (by show(yf m s).map (·.isSome)=U U';rw[g,E];rfl) h
def UQ{C:Addr}(X:K.In c.heap)(I:wa c.heap e B C a7)(hs:ai K (.ref C) "__setattr__" = U (U (.builtin "object.__setattr__")))(p:EI K C=Uf)(j:Eu K C m=U J)(o:tM K C=Uf)(l:Ec a7 N)(hsz:N.length<=A5)(h:∀h',wa h' e B C (λy=>if y=m then U D else a7 y)->nq B c.heap h'->b3 () {c with heap:=h',toks:=c.toks+2}):
  wpAny (model prog w) A (setAttr (.ref e) m D) b3 q c:=by
 obtain⟨t,Jff,u⟩:=I.look;refine PySem.W.set_plain X Jff hs (PySem.W.osa_open X Jff p j λb=>?_);obtain⟨v,E,x⟩:=PySem.W.any_some o;refine l8 (p4 (l8 (l8 (wpAny_loadPart I.obj (l8 (PySem.W.Looks.here (PySem.W.looks_clsIn X E) ?_))))));rw[x];refine p4 (l8 (p4 (l8 ?_)));refine wpAny_nsSet1 I.ns λh' d s=>?_;obtain⟨z,n,k,g,i,f⟩:=d.count (PySem.Within.cons m D l);refine l8 (wpAny_lookBehind g (by rw[i];exact pastItsLine_dict (p5 f (by rw[ao];simp[*]))) ?_);exact p4 (h _ ⟨(s.2 _ (kI I.ne)).trans I.obj,d,I.ne⟩ s)
def Ro {R:Result->l5->Prop} (X:K.In c.heap) (s:Et K e=Uf) (C:ai K (.ref e) "__init__" = U (U (.ref B))) (i:PySem.W.typeIn K (.ref B)=U (.type "function")) (h:codeAny (model prog w) (A.under (.builtin "type.__call__" ⟨.ref e::z,b6⟩)) (.call (.ref B) ⟨.ref ((hz c) + 1)::z,b6⟩) (PySem.W.InitBack ((hz c) + 1) R)
   {c with heap:=(c.heap.push kR).push (kQ e (hz c))}) :
  codeAny (model prog w) A (.call (.ref e) ⟨z,b6⟩) R c:=by obtain⟨j,g,d,t,k⟩:=c;exact PySem.W.make_core (PySem.W.makes_of X s) (PySem.W.looks_findIn X C) (λa=>PySem.W.bind_fn X a i) (.inl rfl) h
end
noncomputable def bN(f:Str)(v:V):List (Str×V)->List (Str×V)
 | []=>[(f,v)]
 |(g,x)::r=>if g=f then(g,v)::r else(g,x)::bN f v r
theorem uV(f g:Str)(v:V):∀fs:List (Str×V),(bN f v fs).lookup g=if g=f then U v else fs.lookup g
 | []=>by
  show eX g [(f,v)]=_;by_cases h:g=f;have a:=beq_iff_eq.mpr h;simp only[eX,a,j2 h];have a:=beq_eq_false_iff_ne.mpr h;simp only[eX,a,j1 h]
 |(k,x)::r=>by
  rw[show bN f v ((k,x)::r)=(if k=f then(k,v)::r else(k,x)::bN f v r)from rfl];by_cases b:k=f;rw[j2 b];by_cases h:g=k;have a:=beq_iff_eq.mpr h;simp only[eX,a,j2 (h.trans b)];have a:=beq_eq_false_iff_ne.mpr h;simp only[eX,a,j1 (λe:g=f=>h (e.trans b.symm))];rw[j1 b];by_cases h:g=k;have a:=beq_iff_eq.mpr h;simp only[eX,a,j1 (λe:g=f=>b (h.symm.trans e))];have a:=beq_eq_false_iff_ne.mpr h;simp only[eX,a];exact(uV f g v r)
theorem sq(f:Str)(v:V):∀fs:List (Str×V),f∈(bN f v fs).map (·.1)/\∀g,g∈fs.map (·.1)->g∈(bN f v fs).map (·.1)
 | []=>⟨by simp[bN],λg h=>by simp at h⟩
 |(k,x)::r=>by
  obtain⟨b,c⟩:=sq f v r;rw[show bN f v ((k,x)::r)=(if k=f then(k,v)::r else(k,x)::bN f v r)from rfl];by_cases a:k=f;rw[j2 a];subst a;exact⟨B4,λg h=>by simpa using h⟩
  . rw[j1 a];refine⟨?_,λg h=>?_⟩;rw[v5];exact u7 _ b
    . rw[v5]at h ⊢;rcases List.mem_cons.mp h with e|e
      exact List.mem_cons.mpr (.inl e);exact u7 _ (c g e)
theorem uX(f:Str)(v:V):∀fs:List (Str×V),(bN f v fs).length<=fs.length+1
 | []=>by simp[bN]
 |(k,x)::r=>by
  have:=uX f v r;rw[show bN f v ((k,x)::r)=(if k=f then(k,v)::r else(k,x)::bN f v r)from rfl];by_cases a:k=f;rw[j2 a,ao,ao];simp[*];rw[j1 a,ao,ao];simp[*]
def fU.some_of{o:Option j5}(r:fU (U M) o):∃u,o=U u/\RelV M u:=by
 cases o with
 |none=>exact(show False from r).elim
 |some u=>exact⟨u,rfl,r⟩
def fU.none_of{o:Option j5}(r:fU J o):o=J:=by
 cases o with
 |none=>rfl
 |some u=>exact(show False from r).elim
def Mq(r:RelV M D):Nq D=Uf:=by
 cases M with
 |non=>cases(show D=DM from r);rfl
 |bl b=>cases(show D=DK b from r);rfl
 |int i=>obtain⟨t,e⟩:=(show ∃t,D=xP i t from r);cases e;rfl
 |str x=>obtain⟨t,e⟩:=(show ∃t,D=xO x t from r);cases e;rfl
 |byt b=>obtain⟨t,e⟩:=(show ∃t,D=Value.bytes b t from r);cases e;rfl
 |flt b=>obtain⟨t,e⟩:=(show ∃t,D=Value.float b t from r);cases e;rfl
 |ref a=>cases(show D=ae a from r);rfl
 |ty n=>cases(show D=xS n from r);rfl
section
variable{w:x5}
def zF{dx:Addr}(c:C5 y w a h)(P:a e=U (.ins B dx b5)):∃b,wa h e dx B b/\(∀f,fU (b5.lookup f) (b f))/\Ec b (b5.map (·.1))/\b5.length<=1000/\a dx=U (.own e):=by
 obtain⟨d,z,ne,g,b,n,r,q⟩:=(show X0 y w a h e (.ins B dx b5)from c e _ P);exact⟨b,⟨g,n,ne⟩,r,q,z,d⟩
end
structure tX(K:n6)(C:Addr):Prop where
 pg:tJ K C kK=Uf
 hd:tM K C=Uf
 po:EI K C=Uf
 sa:ai K (.ref C) "__setattr__" = U (U (.builtin "object.__setattr__"))
def tX.get(c:tX O e)(f:Str):tJ O e f=Uf:=c.pg
def X8(K:n6)(C:Addr)(f:Str):Prop:=ai K (.ref C) f=U J
def X8.a0C(n:X8 O e m):Eu O e m=U J:=by
 delta Eu;rw[show ai O (.ref e) m=U J from n];rfl
structure Con(K:n6)(C:Addr)(f:Str)(v:V)(u:j5):Prop where
 at_:ai K (.ref C) f=U (U u)
 rel:RelV v u
 get:EH K u "__get__" = U J
 cp:PySem.W.copiedNames.contains f=U'
structure Meth(K:n6)(C:Addr)(m:Str)(f:Addr):Prop where
 at_:ai K (.ref C) m=U (U (.ref f))
 fn:sZ K (.ref f)=Uf
 kp:gA K (.ref f)=Uf
def Jo{dx:Addr}{b:Bool}{Q:j5->l5->Prop}(I:Inv X d n a c)(C:a e=U (.ins B dx b5))(s:tX X.K B)(H:X8 X.K B m)(l:b5.lookup m=U M)(h:∀u s',Inv X d n a s'->RelV M u->Q u s'):wpAny (model X.prog X.w) A (getAttr (.ref e) m b) Q q c:=by
 obtain⟨i,O,r,_,_,_⟩:=zF I.E7 C;obtain⟨u,g,σ⟩:=fU.some_of (by rw[<-l];exact r m);exact get_map I.oh O (s.get m) s.hd H g (Mq σ) (h u _ (I.tok _) σ)
def xn{dx:Addr}{g:Addr}{pl:Sem Bool}(I:Inv X d n a c)(H:a e=U (.ins B dx b5))(σ:tX X.K B)(k:Meth X.K B m g)(l:b5.lookup m=J)(h:b7 (.ref g,[.ref e]) c):wpAny (model X.prog X.w) A (iX (.ref e) m pl) b7 q c:=by
 obtain⟨mA,O,r,_,_,_⟩:=zF I.E7 H;have hn:mA m=J:=fU.none_of (by rw[<-l];exact r m);exact RA I.oh O (σ.get m) k.at_ k.fn hn h
def Ic{dx:Addr}(I:Inv X d n a c)(C:a e=U (.ins B dx b5))(s:tX X.K B)(H:X8 X.K B m)(G:b5.length<1000)(t:RelV M D)(h:∀s',Inv X d n (upd a e (.ins B dx (bN m M b5))) s'->b3 () s'):wpAny (model X.prog X.w) A (setAttr (.ref e) m D) b3 q c:=by
 obtain⟨i,O,r,k,_,j⟩:=zF I.E7 C;have p:(b5.map (·.1)).length<=A5:=by rw[A6,pT];exact ju
 refine UQ I.oh O s.sa s.po H.a0C s.hd k p λE σ f=>h _ ?_
 have l:∃o,E.get? dx=U o:=let ⟨o,_,_,u,_⟩:=σ.ns;⟨o,u⟩;refine I.write (by rw[C];exact xR) (.inr j) (λb y F z=>(f.2 b F).trans z) l ?_
 refine⟨by rw[E3 O.ne];exact j,?_,O.ne,σ.obj,_,σ.ns,λg=>?_,λg v=>?_⟩;have:=uX m M b5;exact p5 k8 k8;show fU ((bN m M b5).lookup g) (if g=m then U D else i g);rw[uV];by_cases y:g=m;rw[j2 y,j2 y];exact t;rw[j1 y,j1 y];exact r g;by_cases y:g=m;rw[y];exact(sq m M b5).1;refine(sq m M b5).2 g (k g λz=>v ?_);show(if g=m then U D else i g)=J;rw[j1 y];exact z
def Inv.made{C:Addr}(I:Inv X d n a c):Inv X d n (upd (upd a (hz c) (.own ((hz c)+1))) ((hz c)+1) (.ins C (hz c) []))
  {c with heap:=(c.heap.push kR).push (kQ C (hz c))}:=by
 have H:(c.heap.push kR).get? (hz c)=U kR:=U1 c.heap rfl;have g:((c.heap.push kR).push (kQ C (hz c))).get? ((hz c)+1)=U (kQ C (hz c)):=by
  have:=U1 (c.heap.push kR) (o:=kQ C (hz c)) rfl
  rwa [gL]at this
 have s:(c.heap.push kR).Ns (hz c) (λ_=>J):=⟨kR,#[],_,H,rfl,(λe f=>absurd f (λh=>nomatch h)),λ_=>rfl⟩;have σ:=I.laid (o:=.own ((hz c)+1)) (t':=c.toks) (λb u q=>F8 _ q) y4 ⟨_,H⟩;refine σ.laid (λb u q=>F8 _ q) (nk (gL _ _)) ?_;have ne:(hz c)≠(hz c)+1:=O2 (tI _);refine⟨by rw[E3 ne,J8],gs _,ne,g,λ_=>J,(Heap.Ns1.of_empty s).at λo q=>F8 _ q,λ_=>xR,λy h=>absurd rfl h⟩
def WH{env:Env}{Q:j5->l5->Prop}(a:Z2 o m env (eval o env)=eval o env)(h:wpAny (model y a6) A (eval o env) (λE s₁=>wpAny (model y a6) A (getAttr E m Uf) Q q s₁) q c):wpAny (model y a6) A (eval (.Attribute o m p) env) Q q c :=
 Attribute_any_ h (by rw[arm_eval_Attribute,a])
def qt(K:n6)(ta:TE)(f:Str):TE:=λσ H Q=>ta σ H λx H1=>∃a C dx fs v,x=.ref a/\H1 a=U (.ins C dx fs)/\tX K C/\X8 K C f/\fs.lookup f=U v/\Q v H1
def XE(K:n6)(ta tv:TE)(f:Str):TS:=λD σ H=>tv σ H λy H1=>ta σ H1 λx H2=>∃a C dx fs,x=.ref a/\H2 a=U (.ins C dx fs)/\tX K C/\X8 K C f/\fs.length<1000 /\
 D.nx σ (upd H2 a (.ins C dx (bN f y fs)))
def rT(g:PE X o t)(r:Z2 o m X.env (eval o X.env)=eval o X.env):PE X (.Attribute o m p) (qt X.K t m):=by
 intro b s j H Q I h;refine WH r (C4 (g b s j H _ I h) λu y ⟨x,f,e,k,a,C,z,fs,v,D,d,c,n,l,q⟩=>?_);subst D;obtain rfl:=k;exact Jo e d c n l λA w i B=>⟨v,f,i,B,q⟩
def Ys{tv:TE}(w:PE X o t)(r:PE X Z tv)(hs:ag Z (U (.Attribute o m R)) p.line X.env=pure U'):PS X (.Assign [.Attribute o m R] Z p) (XE X.K t tv m):=by
 intro b s d H D I h;refine plainObj_wpAny_Assign_Attribute (C4 (r b s d H _ I h) λu j ⟨y,v,f,K,q⟩=>C4 (w b j d v _ f q) λk E ⟨x,B,g,i,a,C,F,fs,G,e,c,n,l,q2⟩=>?_) hs;subst G;obtain rfl:=i;exact Ic g e c n l K λA z=>⟨d,_,z,q2⟩
section
variable{H:Hp}{Q:j5->l5->Prop}
inductive mU(K:n6)(H:Hp):V->j5->Prop where
 |non:mU K H .non (.type "NoneType")
 |bl (x:Bool):mU K H (.bl x) (.type "bool")
 |int (i:Int):mU K H (.int i) (.type "int")
 |str (x:Str):mU K H (.str x) (.type "str")
 |flt (x:UInt64):mU K H (.flt x) (.type "float")
 |lst {a:Addr} {xs:List V} (e:H a=U (.lst xs)):mU K H (.ref a) (.type "list")
 |dG {a:Addr} {o:Obj} {xs:List V} (e:H a=U (.dG o (.lst xs))):mU K H (.ref a) (.type "list")
 |tup {a:Addr} {xs:List V} (e:H a=U (.tup xs)):mU K H (.ref a) (.type "tuple")
 |dK {a:Addr} {kvs:List (Key×V)} (e:H a=U (.dK kvs)):mU K H (.ref a) (.type "dict")
 |dT {a:Addr} {kvs:List (List Key×V)} (e:H a=U (.dT kvs)):mU K H (.ref a) (.type "dict")
 |ins {a C dx:Addr} {fs:List (Str×V)} (e:H a=U (.ins C dx fs)) (cl:tX K C) (ha:ai K (.ref C) "__class__" = U (U (.builtin "object.__class__")))
   (hn:EH K (.builtin "object.__class__") "__get__" = U (U (.builtin "getset_descriptor.__get__"))) (htk:Nh K (.builtin "object.__class__")=U Uf)
   (hm:Eh K C (.type "object")=U Uf):mU K H (.ref a) (.ref C)
end
structure K7(k:Nat)(A:X9):Prop where
 hd:A.handled=J
 dp:A.depth+3*k+5<recursionLimit
 un:A.units+16*k+200<N6
def K7.mono{j:Nat}(r:K7 k A)(h:j<=k):K7 j A:=⟨r.hd,by have:=r.dp;lia,by have:=r.un;lia⟩
theorem K7.deeper(r:K7 (k+1) A)(env:Env):K7 k (A.deeper env) :=
 ⟨r.hd,by have:=r.dp;show A.depth+1+3*k+5<_;lia,by have:=r.un;show A.units+3+16*k+200<_;lia⟩
def Jb:(A.under (.builtin "type.__call__" ⟨.ref e::z,b6⟩)).depth=A.depth+1:=by first|rfl|simp[Eb]
def Ja:(A.under (.builtin "type.__call__" ⟨.ref e::z,b6⟩)).units=A.units+1:=by first|rfl|simp[Eb]
def K7.make(r:K7 (k+1) A)(C:Addr)(us:List j5)(a:List (Str×j5)):K7 k (A.under (.builtin "type.__call__" ⟨.ref C::us,a⟩)) :=
 ⟨r.hd,by have:=r.dp;rw[Jb];lia,by have:=r.un;rw[Ja];lia⟩
theorem K7.depth(r:K7 k A):A.depth<recursionLimit:=by have:=r.dp;lia
theorem K7.units(r:K7 k A):A.units+64<N6:=by have:=r.un;lia
def qs:TA:=λ_ H Q=>Q [] H
def qu(ta:TE)(tr:TA):TA:=λσ H Q=>ta σ H λx H1=>tr σ H1 λxs H2=>Q (x::xs) H2
def rV:PA X [] qs:=λ_ _ _ _ H Q I h=>EG ⟨[],H,I,.nil,h⟩
def lW(e:PE X o t)(f:PA X G S)(hs:autoParam (m8 (o::G) X.env=(U',eval o X.env)::m8 G X.env) k6):PA X (o::G) (qu t S):=by
 intro pos a s b H Q I h;rw[hs];refine yt (C4 (e a s b H _ I h) λu k ⟨x,l,m,i,n⟩=>?_);exact C4 (f pos a k b l _ m n) λq p ⟨j,d,g,c,q2⟩=>⟨x::j,d,g,.cons i c,q2⟩
def OZ(t:TA):TE:=λσ H Q=>t σ H λxs H1=>xs.length<=A5/\∀p,H1 p=J->Q (.ref p) (upd H1 p (.tup xs))
def Xu(t:TA):TE:=λσ H Q=>t σ H λxs H1=>xs.length<=A5/\∀p,H1 p=J->Q (.ref p) (upd H1 p (.lst xs))
def Lh{x1}(h:PA X G S):PE X (.Tuple G x1 p) (OZ S):=by
 intro pins s σ H Q I hq;refine wpAny_Tuple_spliced (C4 (h p pins s σ H _ I hq) λus s1 ⟨xs,H1,I1,r,z,q⟩=>⟨by rw[<-r.length];exact z,?_⟩);have hf:H1 s1.heap.objs.size=J:=I1.E7.fresh y4;refine⟨.ref s1.heap.objs.size,upd H1 s1.heap.objs.size (.tup xs),I1.laid (t':=s1.toks) (λb u e=>F8 _ e) y4 ?_,rfl,q _ hf⟩;exact⟨z,us,r,⟨_,U1 _ rfl,rfl,_,rfl⟩⟩
def YE(h:PA X G S):PE X (.List G p) (Xu S):=by
 intro pins s σ H Q I hq;refine wpAny_List_spliced (C4 (h p pins s σ H _ I hq) λus s1 ⟨xs,H1,I1,r,z,q⟩=>⟨by rw[<-r.length];exact z,?_⟩);have hf:H1 s1.heap.objs.size=J:=I1.E7.fresh y4;refine⟨.ref s1.heap.objs.size,upd H1 s1.heap.objs.size (.lst xs),I1.laid (t':=s1.toks) (λb u e=>F8 _ e) y4 ?_,rfl,q _ hf⟩;exact⟨z,us,0,r,U1 _ rfl⟩
abbrev Sp:=List V->Hp->VK->XK->Prop
abbrev nQ:=List Env->Hp->l5->XK->j5->l5->Prop
structure wc(P:H9)(w:x5)(K:n6)(mg:Str->Option j5)(base:Heap)(A:X9)(outer:List Env)(s:l5)(H:Hp):Prop where
 frames:A.frames=U outer
 mod:Mod K mg base
 bs:∀b o,base.get? b=U o->s.heap.get? b=U o/\H b=J
 ro:base.objs.size<=s.heap.objs.size
 jG:s.heap.FunFrames base outer
 AJ:∀b∈oo outer,H b=J
 E7:C5 P w H s.heap
 bare:iW s.gens
def CE(outer:List Env)(P:H9)(w:x5)(H:Hp)(s:l5)(Q:VK)(u:j5)(s':l5):Prop :=
 ∃v H',s'.os=s.os/\iW s'.gens/\Un (oo outer) [] H H' s.heap s'.heap/\C5 P w H' s'.heap/\RelV v u/\Q v H'
def CR(CX:nQ)(outer:List Env)(P:H9)(w:x5)(H:Hp)(s:l5)(Q:VK)(E:XK)(r:Result)(s':l5):Prop :=
 match r with
 | .ok (.ret u)=>CE outer P w H s Q u s'
 | .ok _=>False
 | .error e=>CX outer H s E e s'
structure ar(P:H9)(w:x5)(K:n6)(mg:Str->Option j5)(base:Heap)(CX:nQ)(k:Nat)(f:Addr)(fd:P8)(ps:List Str)(sp:Sp):Prop where
 len:∀vs H Q E,sp vs H Q E->vs.length=ps.length
 run:∀(A:X9) (outer:List Env) (s:l5) (H:Hp) (args:Args) (us:List j5) (vs:List V) (Q:VK) (E:XK),K7 k A->wc P w K mg base A outer s H->kH s fd args (ps.zip us)->Vals vs us->sp vs H Q E ->
  codeAny (model P w) A (.call (.ref f) args) (CR CX outer P w H s Q E) s
def wc.make{outer:List Env}(e:wc y a6 O a7 h A outer c a)(C:Addr)(us:List j5)(P:List (Str×j5)):
  wc y a6 O a7 h (A.under (.builtin "type.__call__" ⟨.ref C::us,P⟩)) outer c a:=⟨by first|exact e.frames|(simpa [Eb,Code.envs,Code.isFrame,pushEnvs]using e.frames),e.mod,e.bs,e.ro,e.jG,e.AJ,e.E7,e.bare⟩
def Inv.ZV(I:Inv X d n a c):wc X.prog X.w X.K X.mg X.base X.A X.stack c a :=
 ⟨I.ok.frames,I.ok.mod,I.bs,p5 I.ok.ro I.sz,I.stack,I.Gr,I.E7,I.bare⟩
def Inv.after{s':l5}{Q:VK}(I:Inv X d n a c)(h:CE X.stack X.prog X.w a c Q D s'):EP X d n Q D s':=by obtain⟨v,i,f,H,un,s,r,q⟩:=h;obtain⟨j,g,σ,t,e⟩:=s';obtain rfl:=f;exact⟨v,i,I.call un s H (λb z=>absurd z t7),r,q⟩
def qv(sp:Sp)(dvs:List V)(E:XK)(t:TA):TE:=λσ H Q=>t σ H λvs H1=>sp (vs++dvs) H1 Q E
def lD(C:Addr)(m:Str)(sp:Sp)(dvs:List V)(E:XK)(ta:TE)(t:TA):TE:=λσ H Q=>ta σ H λx H1=>∃a dx fs,x=.ref a/\H1 a=U (.ins C dx fs)/\fs.lookup m=J /\
 t σ H1 λvs H2=>sp (x::(vs++dvs)) H2 Q E
def Te(C:Addr)(sp:Sp)(dvs:List V)(E:XK)(t:TA):TE:=λσ H Q=>t σ H λvs H1=>∀x dx,H1 x=J->H1 dx=J->dx≠x ->
 sp (.ref x::(vs++dvs)) (upd (upd H1 dx (.own x)) x (.ins C dx [])) (λv H2=>v=.non/\Q (.ref x) H2) E
def Binds(K:n6)(fd:P8)(ps:List Str)(ds:List j5):Prop :=
 ∀(s:l5) (us:List j5),K.In s.heap->(us++ds).length=ps.length->kH s fd ⟨us,[]⟩ (ps.zip (us++ds))
def Binds.all(h:∀us:List j5,us.length=N.length->bindArgs a8 ⟨us,[]⟩=pure (N.zip us)):Binds O a8 N []:=λs us _ b=>by rw[aX]at b ⊢;exact .of_eq (h us b)
def Passes(CX:nQ)(X:Cx)(E:XK):Prop:=∀(pins:List (Addr×Obj)) (σ:St) (H:Hp) (s:l5) (e:j5) (s':l5),Inv X pins σ H s->CX X.stack H s E e s'->X.xe e s'
section
variable{f C:Addr}
def BP{CX:nQ}{sp:Sp}{E:XK}{H:Hp}{Q:VK}{us:List j5}{vs:List V}(F:ar X.prog X.w X.K X.mg X.base CX k f a8 N sp)(g:K7 k X.A)(l:Binds X.K a8 N z)(hd:Vals r z)(s:Passes CX X E)(I:Inv X d n H c)(a:Vals vs us)(h:sp (vs++r) H Q E):wpAny (model X.prog X.w) X.A (call (.ref f) us) (EP X d n Q) X.xe c:=by
 have b:=a.append hd;have i:(us++z).length=N.length:=by rw[<-b.length];exact F.len _ _ _ _ h
 refine wpAny_call (xZ (F.run X.A X.stack c H ⟨us,[]⟩ (us++z) (vs++r) Q E g I.ZV (l c us I.oh i) b h) λa j hq=>?_)
 cases a with
 |error e=>exact s d n H c e j I hq
 |ok m =>
  cases m with
  |ret u=>exact I.after hq
  |next=>exact cA hq
  |brk=>exact cA hq
  |cont=>exact cA hq
def GK{CX:nQ}{sp:Sp}{E:XK}(F:ar X.prog X.w X.K X.mg X.base CX k f a8 N sp)(l:K7 k X.A)(n:Gl X m)(g:X.mg m=U (.ref f))(u:gA X.K (.ref f)=Uf)(w:Binds X.K a8 N z)(hd:Vals r z)(j:Passes CX X E)(v:PA X (o::G) S)(b:autoParam ((m==("__debug__" : Str))=U') E5)(i:autoParam (m8 (o::G) X.env=(U',eval o X.env)::m8 G X.env) k6)(c:autoParam ((C6 R (m8 G X.env)).any (·.1)=U') k6):
  PE X (.Call (.Name m p) (o::G) [] R) (qv sp r E S):=by
 intro a s t H Q I h;refine qf (zE I n g ?_ b);refine EO I.ok.mod.Hi u (C4 (v R a s t H _ I h) λB e ⟨y,C,d,x,q⟩=>⟨d.oh,?_⟩) i c;exact BP F l w hd j d x q
def GI {CX:nQ} {sp:Sp} {E:XK} {pl:Sem Bool} (M:PE X o t) (c:tX X.K C) (v:Meth X.K C m f) (F:ar X.prog X.w X.K X.mg X.base CX k f a8 N sp) (e:K7 k X.A) (P:Binds X.K a8 N z) (hd:Vals r z) (B:Passes CX X E) (W:PA X (Z::G) S) (d:autoParam (m8 (Z::G) X.env=(U',eval Z X.env)::m8 G X.env) k6) (g:autoParam ((C6 p (m8 G X.env)).any (·.1)=U') k6) (A:autoParam (eval (.Call (.Attribute o m R) (Z::G) [] p) X.env=(do
   let ov <- eval o X.env
   bH R.atName
   let (f,first) <- holding [ov] (iX ov m pl)
   callWith p f first (C6 p (m8 (Z::G) X.env)) (aQ p (dq [] X.env)))) k6) :
  PE X (.Call (.Attribute o m R) (Z::G) [] p) (lD C m sp r E t S):=by
 intro b s n H Q I h;refine NW (C4 (M b s n H _ I h) λu fd ⟨x,O,K,D,a,Y,fs,L,y,l,q⟩=>?_) A;subst L;obtain rfl:=D;refine xn K y c v l ?_;refine EO I.ok.mod.Hi v.kp (C4 (W p b fd n O _ K q) λps V ⟨j,T,i,w,q2⟩=>⟨i.oh,?_⟩) d g;exact BP (vs:=.ref a::j) F e P hd B i (.cons rfl w) q2
def QC {CX:nQ} {sp:Sp} {E:XK} {pl:Sem Bool} (j:PE X o t) (c:tX X.K C) (e:Meth X.K C m f) (F:ar X.prog X.w X.K X.mg X.base CX k f a8 N sp) (G:K7 k X.A) (v:Binds X.K a8 N z) (hd:Vals r z) (n:Passes CX X E) (i:autoParam (eval (.Call (.Attribute o m R) [] [] p) X.env=(do
   let ov <- eval o X.env
   bH R.atName
   let (f,first) <- holding [ov] (iX ov m pl)
   callWith p f first (C6 p (m8 [] X.env)) (aQ p (dq [] X.env)))) k6) :
  PE X (.Call (.Attribute o m R) [] [] p) (lD C m sp r E t qs):=by
 intro b s w H Q I h;refine NW (C4 (j b s w H _ I h) λu A ⟨x,D,d,K,a,B,fs,y,g,l,q⟩=>?_) i;subst y;obtain rfl:=K;refine xn d g c e l ?_;exact PySem.W.callWith_K0 d.oh e.kp (BP (vs:=[.ref a]) F G v hd n d (.cons rfl .nil) q)
structure Mk(K:n6)(C f:Addr):Prop where
 makes:Et K C=Uf
 init:ai K (.ref C) "__init__" = U (U (.ref f))
 fn:sZ K (.ref f)=Uf
 kp:gA K (.ref C)=Uf
def Pr{CX:nQ}{sp:Sp}{E:XK}{Q:VK}{us:List j5}{vs:List V}(M:Mk X.K C f)(F:ar X.prog X.w X.K X.mg X.base CX k f a8 N sp)(w:K7 (k+1) X.A)(s:Binds X.K a8 N z)(hd:Vals r z)(l:Passes CX X E)(I:Inv X d n a c)(H:Vals vs us)(h:∀x B,a x=J->a B=J->B≠x->sp (.ref x::(vs++r)) (upd (upd a B (.own x)) x (.ins C B [])) (λv H2=>v=.non/\Q (.ref x) H2) E):
  wpAny (model X.prog X.w) X.A (call (.ref C) us) (EP X d n Q) X.xe c:=by
 have hq:=h ((hz c)+1) (hz c) (I.E7.fresh (Nat.le_succ _)) (I.E7.fresh y4) (O2 (tI _));have b:=Inv.made (C:=C) I;have g:Vals (V.ref ((hz c)+1)::(vs++r)) (ae ((hz c)+1)::(us++z)):=.cons rfl (H.append hd);have p:(ae ((hz c)+1)::us++z).length=N.length:=by have e:=g.length;rw[F.len _ _ _ _ hq]at e;exact e.symm
 refine wpAny_call (Ro I.oh M.makes M.init (beq_iff_eq.mp M.fn) (xZ (F.run _ X.stack _ _ ⟨ae ((hz c)+1)::us,[]⟩ (ae ((hz c)+1)::(us++z)) _ _ E (w.make C us [])
  (b.ZV.make C us []) (s _ (ae ((hz c)+1)::us) b.oh p) g hq) λH q A=>?_))
 cases H with
 |error e=>exact l d n _ _ e q b A
 |ok i =>
  cases i with
  |ret u =>
   obtain⟨v,y,j,o,t,m⟩:=b.after A;subst t;exact⟨o,⟨V.ref ((hz c)+1),y,j,rfl,m⟩⟩
  |next=>exact cA A
  |brk=>exact cA A
  |cont=>exact cA A
def VF{CX:nQ}{sp:Sp}{E:XK}(M:Mk X.K C f)(F:ar X.prog X.w X.K X.mg X.base CX k f a8 N sp)(l:K7 (k+1) X.A)(n:Gl X m)(g:X.mg m=U (.ref C))(w:Binds X.K a8 N z)(hd:Vals r z)(j:Passes CX X E)(u:PA X (o::G) S)(b:autoParam ((m==("__debug__" : Str))=U') E5)(i:autoParam (m8 (o::G) X.env=(U',eval o X.env)::m8 G X.env) k6)(c:autoParam ((C6 R (m8 G X.env)).any (·.1)=U') k6):
  PE X (.Call (.Name m p) (o::G) [] R) (Te C sp r E S):=by
 intro a s t H Q I h;refine qf (zE I n g ?_ b);refine EO I.ok.mod.Hi M.kp (C4 (u R a s t H _ I h) λe y ⟨v,B,d,x,q⟩=>⟨d.oh,?_⟩) i c;exact Pr M F l w hd j d x q
end
section
variable{fd:P8}{ps ks:List Str}
structure a2Z(K:n6)(fd:P8)(ps ks:List Str)(g:List j5->List j5->List j5)(gV:List V->List V->List V):Prop where
 to:∀(s:l5) (us ws:List j5),K.In s.heap->(g us ws).length=ps.length->kH s fd ⟨us,ks.zip ws⟩ (ps.zip (g us ws))
 rel:∀{vs:List V} {us:List j5} {zs:List V} {ws:List j5},Vals vs us->Vals zs ws->Vals (gV vs zs) (g us ws)
end
structure jQ(N P:List Str)(sc:bG):Prop where
 kind:sc.kind=.function
 co:sc.isCoroutine=U'
 gen:sc.isGenerator=U'
 nd:N.Nodup
 pre:N.take P.length=P
 par:∀x∈P,sc.names.lookup x=U .local\/sc.names.lookup x=U .cell
 Zd:∀y∈sc.names,y.2≠.free
theorem AL{a:Str->Option kJ}{x:Str}:∀{binds:List (Str×j5)} {m:Str->Option j5},(∀v,(x,v)∉binds)->bindL a binds m x=m x
 | [],_,_=>rfl
 |(n,v)::r,m,h=>by
  unfold bindL;rw[AL λw b=>h w (u7 _ b)];split
  . have:x≠n:=by rintro rfl;exact h v v8
    simp[this]
  rfl
theorem AN{a:Str->Option kJ}{x:Str}:∀{binds:List (Str×j5)} {m:Str->Option j5},(∀v,(x,v)∉binds)->bindC a binds m x=m x
 | [],_,_=>rfl
 |(n,v)::r,m,h=>by
  unfold bindC;rw[AN λw b=>h w (u7 _ b)];split;rfl
  . have:x≠n:=by rintro rfl;exact h v v8
    simp[this]
theorem AM{a:Str->Option kJ}{x:Str}{v:j5}:∀{P:List Str} {vs:List j5} {i:Nat} {m:Str->Option j5},P.Nodup->P[i]? = U x->vs[i]? = U v->a x=U .local ->
  bindL a (P.zip vs) m x=U v
 | [],_,_,_,_,h,_,_=>by simp at h
 |_::_,[],_,_,_,_,h,_=>by simp at h
 |p::P,w::vs,0,m,nd,h1,h2,hk=>by
  simp at h1 h2;subst h1;subst h2;show bindL a ((p,w)::P.zip vs) m p=_;unfold bindL;rw[AL λv b=>(List.nodup_cons.mp nd).1 (Es b).1,j2 hk];simp
 |p::P,w::vs,i+1,m,nd,h1,h2,hk=>by
  show bindL a ((p,w)::P.zip vs) m x=_;exact AM (List.nodup_cons.mp nd).2 (by simpa using h1) (by simpa using h2) hk
theorem AO{a:Str->Option kJ}{x:Str}{v:j5}:∀{P:List Str} {vs:List j5} {i:Nat} {m:Str->Option j5},P.Nodup->P[i]? = U x->vs[i]? = U v->a x≠U .local ->
  bindC a (P.zip vs) m x=U v
 | [],_,_,_,_,h,_,_=>by simp at h
 |_::_,[],_,_,_,_,h,_=>by simp at h
 |p::P,w::vs,0,m,nd,h1,h2,hk=>by
  simp at h1 h2;subst h1;subst h2;show bindC a ((p,w)::P.zip vs) m p=_;unfold bindC;rw[AN λv b=>(List.nodup_cons.mp nd).1 (Es b).1,j1 hk];simp
 |p::P,w::vs,i+1,m,nd,h1,h2,hk=>by
  show bindC a ((p,w)::P.zip vs) m x=_;exact AO (List.nodup_cons.mp nd).2 (by simpa using h1) (by simpa using h2) hk
def start(N:List Str)(vs:List V):St:=vs.map U++w5 (N.length-vs.length) J
noncomputable def oM(CX:nQ)(P:H9)(w:x5)(K:n6)(mg:Str->Option j5)(base:Heap)(N:List Str)(qual:Str)(scope:bG)(f:Addr)(cd:j5)(A:X9)(outer:List Env)(s:l5)(H:Hp)(E:XK):Cx where
 prog:=P
 w:=w
 K:=K
 mg:=mg
 base:=base
 A:=A.deeper (eV qual scope s.heap.objs.size f cd)
 N:=N
 R5:=s
 u3:=H
 env:=eV qual scope s.heap.objs.size f cd
 outer:=outer
 stack:=eV qual scope s.heap.objs.size f cd::outer
 ex:=[]
 calm:=Uf
 fn:=λ_=>Uf
 pn:=[]
 xe:=λe s'=>wpAny (model P w) (A.deeper (eV qual scope s.heap.objs.size f cd)) (leaving (eV qual scope s.heap.objs.size f cd) e) (λ_ s''=>CX outer H s E e s'') (λe' s''=>CX outer H s E e' s'') s'
def Dv{sc:bG}(h:sc.names.lookup m=U .cell):∃c,(gq k sc.names []).lookup m=U c:=by exact Option.isSome_iff_exists.mp (Od sc.names k [] (.inl h))
def Mj{CX:nQ}{K:List Str}{scope:bG}{outer:List Env}{s1:l5}{E:XK}(S:jQ N K scope)(hd:A.handled=J)(j:wc y a6 O a7 h A outer c a)(Q:r.length=K.length)(n:Vals r z)(x:InCallC c (hz c) (bindL (eV m scope (hz c) e D).kindOf (K.zip z) λ_=>J) (gq ((hz c)+1) scope.names []) (bindC (eV m scope (hz c) e D).kindOf (K.zip z) λ_=>J) s1):
  Inv (oM CX y a6 O a7 h N m scope e D A outer c a E) [] (start N r) a s1:=by
 have:K.length<=N.length:=by have:=r9 iY S.pre;rw[tH]at this;lia
 obtain⟨F,R,rfl,G⟩:=x.done;have l:∀b:Addr,b∉(oM CX y a6 O a7 h N m scope e D A outer c a E).ex:=λb H=>absurd (show b∈([])from H) t7
 refine⟨⟨j.mod,S.kind,rfl,rfl,X1 _,λP H f F g=>?_,λP o=>?_,λP f _ w=>?_,λ_=>hd,Around.frames_deeper j.frames,.inr ⟨rfl,rfl⟩,λb H=>absurd H (l b),j.bs,j.ro,λb _ _=>l b,λb H=>absurd H (l b),j.jG,j.AJ⟩,
  rfl,j.bare,Un.kept G,⟨_,x.toInCall.ns,λi P v F g T=>?_⟩,λP f w=>⟨_,x.cell P f w⟩,j.E7.fresh y4,λP f w=>?_,λp t=>absurd (show p∈([])from t) t7,j.E7.kept G,?_⟩
 exact name_of_addr x.apart (oz F) (oz g)
 . have o:=o;rcases o with o|o
   exact Dv o;exact absurd rfl (S.Zd _ (oz o))
 exact bF (x.above P f (oz w))
 . have C:i<r.length:=by
     unfold start at g;by_cases C:i<r.length;exact C
     . rw[oB (by simpa using C)]at g
       rw[Fn]at g;split at g<;>cases g
   have M:r[i]? = U v:=by
    unfold start at g;rw[iU (by simpa using C),L1]at g
    cases d:r[i]? with
    |none=>rw[d]at g;exact nE g
    |some s=>rw[d]at g;cases g;rfl
   obtain⟨u,I,L⟩:=n.get M;have t:K[i]? = U P:=by rw[<-S.pre,List.getElem?_take_of_lt (NC k8 k8)];exact F
   have B:K.Nodup:=by rw[<-S.pre];exact S.nd.sublist (List.take_sublist _ _)
   refine⟨u,L,?_⟩;rcases S.par P (nL t)with k|k
   exact .inl ⟨k,AM B t I k⟩;obtain⟨f,d⟩:=Dv k;refine .inr ⟨.inl k,f,d,?_⟩;have q:=x.cell P f d;rw[AO B t I (by show scope.names.lookup P≠_;rw[k];decide)]at q;exact q
 exact j.E7.fresh (bF (x.above P f (oz w)));delta start;show _=N.length;rw[Z4,A6,qh];simp[*]
def a1d {CX:nQ} {qual:Str} {params:Arguments} {scope:bG} {kV doc pm cdv ct oc:j5} {an od:Option Addr} {osl:Array (Option j5)} {ps:List Str} {sp:Sp} (lk:O.lookup e=U ⟨oc,od,.func (gw m qual params a9 scope D kV doc pm an cdv ct),osl⟩) (hcd:ye O cdv qual=Uf) (S:jQ N ps scope) (len:∀vs H Q E,sp vs H Q E->vs.length=ps.length) (hbody:∀(A:X9) (outer:List Env) (s:l5) (H:Hp) (vs:List V) (Q:VK) (E:XK),K7 k (A.deeper (eV qual scope s.heap.objs.size e cdv))->sp vs H Q E ->
   ∃t,oy (oM CX y a6 O a7 h N qual scope e cdv A outer s H E) a9 t/\t {nx:=λ_ H'=>Q .non H',rt:=Q} (start N vs) H) :
  ar y a6 O a7 h CX (k+1) e (gw m qual params a9 scope D kV doc pm an cdv ct) ps sp:=by
 refine⟨len,λA outer s H args us vs Q E hr e0 hb r hsp=>?_⟩;have hl:=len _ _ _ _ hsp;have KX:O.In s.heap:=e0.mod.Hi.keeps λb o w=>(e0.bs b o w).1;have lim:s.heap.NoLimit:=e0.mod.nolimit.keeps λb o w=>(e0.bs b o w).1
 have hkind:∀P∈ps.zip us,scope.names.lookup P.1=U .local\/(scope.names.lookup P.1=U .cell/\((gq (s.heap.objs.size+1) scope.names []).lookup P.1).isSome=Uf):=λ⟨n,v⟩ hy=>by
  rcases S.par n (Es hy).1 with q|q
  exact .inl q;exact .inr ⟨q,Od _ _ _ (.inl q)⟩
 refine codeAny_call_function hr.depth (KX _ _ lk) rfl S.co S.gen rfl (PySem.W.codeRec_of KX hcd) (hb _ _ _ _ ?_);refine wpAny_newFunctionEnv_cells S.kind hkind λenv he s1 x=>?_;subst he;refine⟨lim.keeps x.toInCall.keep,codeAny_func ?_⟩;obtain⟨t,ht,hq⟩:=hbody A outer s H vs Q E (hr.deeper _) hsp;have I:Inv (oM CX y a6 O a7 h N qual scope e cdv A outer s H E) [] (start N vs) H s1:=Mj S hr.hd e0 hl r x;refine aR (ht [] s1 (start N vs) H _ I hq) (λfl s' hs=>?_) λw s' hs=>hs
 have fin:∀{σ':St} {H':Hp} {v:V} {u:j5},Inv (oM CX y a6 O a7 h N qual scope e cdv A outer s H E) [] σ' H' s'->RelV v u->Q v H'->CE outer y a6 H s Q u s' :=
  λ{σ' H' v u} Jff rv q=>⟨v,H',Jff.os,Jff.bare,Jff.base,Jff.E7,rv,q⟩
 cases fl with
 |ret u =>
  obtain⟨v,σ',H',Jff,rv,q⟩:=hs;exact fin Jff rv q
 |next =>
  obtain⟨σ',H',Jff,q⟩:=hs;exact fin (v:=V.non) (u:=DM) Jff rfl q
 |brk =>
  obtain⟨_,_,_,q⟩:=hs;exact cA q
 |cont =>
  obtain⟨_,_,_,q⟩:=hs;exact cA q
section
variable{T:String}
def BH(r:List V->Hp->VK->Prop)(t:TA):TE:=λσ H Q=>t σ H λvs H1=>r vs H1 Q
def QG{id:String}(w:dB X (.builtin id) b8)(x:Gl X m)(f:X.mg m=J)(i:dM m=U (.builtin id))(y:PA X (o::G) S)(g:autoParam (m ≠ "__name__") E5)(b:autoParam ((m==("__debug__" : Str))=U') E5)(j:autoParam (m8 (o::G) X.env=(U',eval o X.env)::m8 G X.env) k6)(c:autoParam ((C6 R (m8 G X.env)).any (·.1)=U') k6):PE X (.Call (.Name m p) (o::G) [] R) (BH b8 S):=by intro a s d H Q I h;refine qf (iF I x f i ?_ g b);exact PyProof.Rows.callWith_builtin1 (C4 (y R a s d H _ I h) λe n ⟨l,q,u,k,v⟩=>w a n d q l e Q u k v) j c
def Li(w:dB X (.type T) b8)(x:Gl X m)(f:X.mg m=J)(i:dM m=U (.type T))(y:PA X (o::G) S)(g:autoParam (m ≠ "__name__") E5)(b:autoParam ((m==("__debug__" : Str))=U') E5)(j:autoParam (m8 (o::G) X.env=(U',eval o X.env)::m8 G X.env) k6)(c:autoParam ((C6 R (m8 G X.env)).any (·.1)=U') k6):PE X (.Call (.Name m p) (o::G) [] R) (BH b8 S):=by intro a s d H Q I h;refine qf (iF I x f i ?_ g b);exact oC (C4 (y R a s d H _ I h) λe n ⟨l,q,u,k,v⟩=>w a n d q l e Q u k v) j c
end
end L2
namespace HT
open PySem PyProof.Rows
variable{A:X9}{E:j5->l5->Prop}{s:l5}{b:Addr}{v:j5}{o:Option Int}{a:Array j5}
def lexLt:List Int->List Int->Bool
 | [],[]=>U'
 | [],_::_=>Uf
 |_::_,[]=>U'
 |x::xs,y::ys=>if x=y then lexLt xs ys else decide (x<y)
def Jh(x y:Int)(xs ys:List Int):lexLt (x::xs) (y::ys)=if x=y then lexLt xs ys else decide (x<y):=rfl
def Bc:lexLt [] []=U':=rfl
def zy(y:Int)(ys:List Int):lexLt [] (y::ys)=Uf:=rfl
def zC(x:Int)(xs:List Int):lexLt (x::xs) []=U':=rfl
def RP(A:X9)(s:l5)(a:Int)(t:Tok)(c:Int)(u:Tok):∃e,SeqAt.EqAt A s (.int a t) (.int c u) e/\(e=Uf↔a=c) :=
 ⟨(a==c),SeqAt.EqAt.int_int a t c u,by simp⟩
def Pw(A:X9)(s:l5)(a:Int)(t:Tok)(c:Int)(u:Tok)(prog:H9)(w:x5)(E:j5->l5->Prop)(Q:j5->l5->Prop)(h:Q (.bool (decide (a<c))) s):
  wpAny (model prog w) A (richCompare .Lt (.int a t) (.int c u)) Q E s :=
 (PyProof.Rows.lt_int h)
section
open PySem.SeqAt
open PySem.AutoSeq1 (wpAny_loadPart')
open PySem.MeetsSeq PySem.MeetsSeq2 PySem.MeetsSeq3
def AW(l b:Addr)(items items2:Array j5)(n n2:Nat)(dd dd2:Option Addr)(sl B7:Array (Option j5))(ns ms:List Int)(hi:cz items.toList ns)(hj:cz items2.toList ms):
  Meets (Builtin.«tuple.__lt__» ⟨[.ref l,.ref b],[]⟩)
   (λ_ R s=>s.heap.get? l=U {cls:=.type "tuple",dict:=dd,data:=.seq items n,slots:=sl}/\s.heap.get? b=U {cls:=.type "tuple",dict:=dd2,data:=.seq items2 n2,slots:=B7} /\
    R (.ok (.ret (.bool (lexLt ns ms)))) s) :=
 .of_wp λprog w A R s h=>by
  obtain⟨hp,g,d,tk,os⟩:=s;obtain⟨hl,hb,h⟩:=h;have f2:=AutoSeq1.sub_tuple_tuple;have z1:items.size=ns.length:=by rw[<-hi.length];simp
  have z2:items2.size=ms.length:=by rw[<-hj.length];simp
  wp_walk using wpAny_loadPart' hl,wpAny_loadPart' hb,wpAny_forIn_list _ (λrest b s'=>b.1=J/\s'=⟨hp,g,d,tk,os⟩/\∃(vs ws:List j5) (ns' ms':List Int),rest=vs.zip ws /\
   cz vs ns'/\cz ws ms'/\ns'.length+items2.size=ms'.length+items.size/\R (.ok (.ret (.bool (lexLt ns' ms')))) ⟨hp,g,d,tk,os⟩) _
  case turn =>
   rintro⟨y,x⟩ rest b s' ⟨hb',rfl,vs,ws,ns',ms',hz,hvi,hwi,hlen,hR⟩;cases hvi with
   |nil=>rw[List.zip_nil_left]at hz;cases hz
   |cons a t hvi' =>
    cases hwi with
    |nil=>rw[List.zip_nil_right]at hz;cases hz
    |cons c u hwi' =>
     rw[jW]at hz;injection hz with hyx hrest
     injection hyx with hy hx
     subst hy hx;rw[Jh]at hR;simp only[ao]at hlen;obtain⟨e,he,hiff⟩:=RP A.in1 ⟨hp,g,d,tk,os⟩ a t c u;refine l8 (he prog w _ _ ?_);cases e with
     |true =>
      rw[j2 (hiff.mp rfl)]at hR
      wp_walk
      exact⟨rfl,rfl,_,_,_,_,hrest,hvi',hwi',by omega,hR⟩
     |false =>
      rw[j1 (λq=>absurd (hiff.mpr q) cm)]at hR;have hri:=Pw A.in1 ⟨hp,g,d,tk,os⟩ a t c u prog w
      wp_walk using hri
      exact⟨_,rfl,by simpa using hR⟩
  case fin =>
   rintro⟨b1,b2⟩ s' ⟨hb',rfl,vs,ws,ns',ms',hz,hvi,hwi,hlen,hR⟩;simp only at hb';subst hb';have hv:lexLt ns' ms'=decide (items.size<items2.size):=by
    cases hvi with
    |nil =>
     cases hwi with
     |nil =>
      simp only[jb]at hlen;rw[Bc];exact(S6 (by simp_all)).symm
     |cons c u hw =>
      simp only[jb,ao]at hlen;rw[zy];exact(du (by simp_all)).symm
    |cons a t hv =>
     cases hwi with
     |nil =>
      simp only[jb,ao]at hlen;rw[zC];exact(S6 (by omega)).symm
     |cons c u hw =>
      rw[jW]at hz;cases hz
   rw[hv]at hR
   wp_walk
   exact⟨_,rfl,by simpa [Builtin.Tuple.tupleCompareSizes]using hR⟩
  case h =>
   exact⟨rfl,rfl,items.toList,items2.toList,ns,ms,rfl,hi,hj,by omega,h⟩
end
section
variable{prog:H9}{w:x5}
def Jc{l:Addr}{items:Array j5}{ns ms:List Int}{Q:j5->l5->Prop}(v:gi s.heap l items)(C:gi s.heap b a)(r:cz items.toList ns)(t:cz a.toList ms)(q:A.units<N6)(h:Q (.bool (lexLt ns ms)) s):wpAny (model prog w) A (Z0 .Lt (.ref l) (.ref b)) Q E s:=by
 obtain⟨⟨z,B,o,u⟩,m,p,n,j⟩:=id v;obtain⟨⟨k,f,g,i⟩,d,c,y,e⟩:=id C;subst p j c e;exact richCompare_meets_room (op:=.Lt) ⟨_,m,rfl⟩ ⟨_,d,rfl⟩ PySem.F.slot_tuple_lt PySem.F.entry_tuple_lt (PySem.F.args_tuple_lt_2 _ _) (AW l b items a n y B f u i ns ms r t)
  ⟨m,d,show DK (lexLt ns ms)≠Value.notImplemented/\Q (.bool (lexLt ns ms)) s from⟨(λx=>nomatch x),h⟩⟩ q
def WB{t:Addr}{vs ws:List j5}{Q:j5->l5->Prop}(x:gi s.heap t vs.toArray)(B:gi s.heap b ws.toArray)(p:vs≠[])(z:ws=[]->Q (.ref t) s)(y:ws≠[]->Q (.ref s.heap.objs.size) {s with heap:=s.heap.push {cls:=.type "tuple",data:=.seq (vs++ws).toArray}})(hsz:vs.length+ws.length<=A5):wpAny (model prog w) A (V6 .Add (.ref t) (.ref b)) Q E s:=by
 obtain⟨⟨l,v,g,q⟩,i,u,n,m⟩:=id x;obtain⟨⟨o,c,k,f⟩,a,d,r,h⟩:=id B;subst u m d h;have e:vs.toArray++ws.toArray=(vs++ws).toArray:=by simp
 by_cases j:ws=[]
 . exact xY ⟨_,i,rfl⟩ ⟨_,a,rfl⟩ EF Eg Fg Fj (Fq _ _)
     (tuple_addW1 t b vs.toArray ws.toArray n r v c q f (by simpa using p) (by simp[j])) ⟨i,a,z j⟩
 . refine xY ⟨_,i,rfl⟩ ⟨_,a,rfl⟩ EF Eg Fg Fj (Fq _ _)
     (tuple_addW2 t b vs.toArray ws.toArray n r v c q f (by simpa using p) (by simpa using j) (by rw[R3,R3];exact hsz)) ⟨i,a,?_⟩
   rw[e];exact y j
def K9(n d:Nat):Option Int->Nat
 |none=>d
 |some v=>if v<0 then(v+(n:Int)).toNat else min v.toNat n
def HI(v:Int)(n d:Nat):(if v<0 then max (v+(n:Int)) 0 else min v (n:Int))=((K9 n d (U v):Nat):Int):=by
 show(if v<0 then max (v+n) 0 else min v n)=(((if v<0 then(v+n).toNat else min v.toNat n)));by_cases a:v<0;simp only[j2 a];simp[*];simp only[j1 a];lia
def JG(lo a:Option Int)(n:Nat):Ou lo a 1 (n:Int)=(((K9 n 0 lo:Nat):Int),((K9 n n a:Nat):Int)):=by
 refine Prod.ext ?_ ?_
 . cases lo with
   |none=>rfl
   |some v=>exact HI v n 0
 . cases a with
   |none=>rfl
   |some v=>exact HI v n n
def Iu(i j:Nat):yG (i:Int) (j:Int) 1=j-i:=by delta yG;split<;>lia
def wB{Q:Option Int->l5->Prop}(p:gj v o)(h:Q o s):wpAny (model prog w) A (Builtin.Slice.slicePartIndex v) Q E s:=by
 cases p with
 |none=>exact slicePart_none h
 |int i t=>exact slicePart_int h
def mz{e:j5}{c:Option Int}{n:Nat}{Q:Int×Int×Nat->l5->Prop}(hs:s.heap.IsSliceOf b v e .none)(pl:gj v o)(i:gj e c)(h:Q (((K9 n 0 o:Nat):Int),1,K9 n n c-K9 n 0 o) s):wpAny (model prog w) A (Builtin.Slice.sliceApplied (.ref b) (pure (n:Int))) Q E s:=by
 obtain⟨j,a,g,f⟩:=id hs;refine l8 (l8 (V1 a f rfl (l8 (V1 a f rfl (l8 (V1 a f rfl (p4 ?_)))))));refine l8 (slicePart_none ?_);refine l8 (wB pl (l8 (wB i (l8 (p4 ?_)))));show wpAny _ _ (match Ou o c 1 n with|(o,c)=>pure (o,(1:Int),yG o c 1)) _ _ s;rw[JG o c n];show wpAny _ _ (pure (((K9 n 0 o):Int),1,yG ((K9 n 0 o)) ((K9 n n c)) 1)) _ _ s;rw[Iu];exact p4 h
def Qy(xs:Array j5)(i k:Nat):((A3 k).filterMap λ(m:Nat)=>xs[((i:Int)+(m:Int)*1).toNat]?).toArray=((xs.toList.drop i).take k).toArray:=by
 have e:(λ(m:Nat)=>xs[((i:Int)+m*1).toNat]?)=λm=>xs[i+m]?:=by
  funext m
  have:((i:Int)+m*1).toNat=i+m:=by lia
  rw[this]
 rw[e];have:=pick_run xs i k;rw[List.filterMap_map]at this;have a:((λx=>xs[x]?)∘λx=>i+x)=λm=>xs[i+m]?:=rfl;rw[a]at this;rw[this]
def uO{i:Addr}{j:j5}{t:Option Int}{Q:j5->l5->Prop}(c:gi s.heap b a)(hs:s.heap.IsSliceOf i v j .none)(pl:gj v o)(p:gj j t)(l:¬(K9 a.size 0 o=0/\K9 a.size a.size t=a.size))(h:Q (.ref s.heap.objs.size) {s with heap:=s.heap.push {cls:=.type "tuple",data:=.seq ((a.toList.drop (K9 a.size 0 o)).take (K9 a.size a.size t-K9 a.size 0 o)).toArray}})(hsz:a.size<=A5):wpAny (model prog w) A (gk (.ref b) (.ref i)) Q E s:=by
 have k:sizeOk (.seq ((a.toList.drop (K9 a.size 0 o)).take (K9 a.size a.size t-K9 a.size 0 o)).toArray):=by
  show((a.toList.drop (K9 a.size 0 o)).take (K9 a.size a.size t-K9 a.size 0 o)).toArray.size<=A5;rw[R3,tH,EE,ET];exact p5 (ED _ _) (p5 (xQ _ _) k8)
 obtain⟨m,g,d,n⟩:=id hs;have e:s.TypeIs (.ref i) "slice":=⟨m,g,d⟩;delta gk;try with_reducible refine gx ?_
 first|refine l8 (p4 ?_)|skip
 refine l8 (wpAny_sequenceKey c.typeIs f5 ?_);refine l8 (lL c.typeIs yJ
  (jd yJ c.typeIs entry_tuple_getitem ?_ (args_tuple_getitem _ _)))
 show wpAny _ _ (Ov (.ref b) >>= _) _ _ s
 refine l8 (tupleItemsOf_ c ?_);refine l8 (sY e ?_);refine l8 (mz hs pl p ?_);have f:¬((((K9 a.size 0 o):Int)==0&&(1:Int)==1&&(K9 a.size a.size t-K9 a.size 0 o)==a.size)=Uf):=by exact λq=>l ⟨by simp_all,by lia⟩
 show wpAny _ _ (if (((K9 a.size 0 o):Int)==0&&1==1&&(K9 a.size a.size t-K9 a.size 0 o)==a.size)=Uf then _ else _) _ _ s
 rw[j1 f,Qy];first
  |exact l8 (nB (p4 ⟨_,rfl,p4 h⟩) k)
  |exact l8 (nB (l8 (p4 (p4 ⟨_,rfl,p4 h⟩))) k)
  |exact l8 (l8 (nB (p4 (p4 ⟨_,rfl,p4 h⟩)) k))
  |exact l8 (l8 (nB (p4 ⟨_,rfl,p4 h⟩) k))
end
end HT
namespace L2
open PySem PySem.Spec PyProof.Rows
variable{X:Cx}{a:List (Addr×Obj)}{b:St}{H:Hp}{s:l5}{Z:List V}{e:Expr}{Y:TE}{S:List j5}{n:Nat}{R:Pos}{p:Addr}{Q:String}{r:V->Option Int->Option Int->Hp->VK->Prop}{P:Type}{f:j5}{O:V->List V->Hp->VK->Prop}
abbrev TO:=St->Hp->(Option Int->Hp->Prop)->Prop
def PO(X:Cx)(e:Option Expr)(t:TO):Prop :=
 ∀(pins:List (Addr×Obj)) (s:l5) (σ:St) (H:Hp) (Q:Option Int->Hp->Prop),Inv X pins σ H s->t σ H Q ->
  wpAny (model X.prog X.w) X.A (evalPart e X.env) (λu s'=>∃o H',Inv X pins σ H' s'/\gj u o/\Q o H') X.xe s
def Gn:TO:=λ_ H Q=>Q J H
def Ta(t:TE):TO:=λσ H Q=>t σ H λx H1=>∃i,x=.int i/\Q (U i) H1
def intsAre_of{ns:List Int}:∀{us:List j5},Vals (ns.map V.int) us->cz us ns:=by
 induction ns with
 |nil=>intro us r;rw[pX]at r;cases r;exact .nil
 |cons n ns b =>
  intro us r;cases r with
  |cons c a =>
   obtain⟨t,e⟩:=c;subst e;exact .cons n t (b a)
def Vy:PO X J Gn:=by exact λa s b H Q I h=>p4 ⟨J,H,I,.none,h⟩
def Vx(h:PE X e Y):PO X (U e) (Ta Y):=by
 intro a s d H Q I b;refine C4 (h a s d H _ I b) λu k ⟨x,f,g,c,j⟩=>?_;obtain⟨i,rfl,q⟩:=j;obtain⟨t,rfl⟩:=c;exact⟨U i,f,g,.int i t,q⟩
def vh(X:Cx)(r:V->Option Int->Option Int->Hp->VK->Prop):Prop :=
 ∀(pins:List (Addr×Obj)) (s:l5) (σ:St) (H:Hp) (x:V) (v vl vu:j5) (lo hi:Option Int) (sl:Addr) (Q:VK),Inv X pins σ H s->RelV x v->s.heap.IsSliceOf sl vl vu .none->gj vl lo->gj vu hi->r x lo hi H Q ->
  ∃T id,sT (.type T) "__getitem__" = pure (U (.builtin id))/\s.TypeIs v T/\wpAny (model X.prog X.w) X.A (gk v (.ref sl)) (EP X pins σ Q) X.xe s
def vh.or{c:V->Option Int->Option Int->Hp->VK->Prop}(h:vh X r)(h':vh X c):vh X (λx lo b H Q=>r x lo b H Q\/c x lo b H Q):=by
 intro a s f H x v i e lo b k Q I g j d l q;rcases q with q|q
 exact h a s f H x v i e lo b k Q I g j d l q;exact h' a s f H x v i e lo b k Q I g j d l q
def tSl(r:V->Option Int->Option Int->Hp->VK->Prop)(te:TE)(tl th:TO):TE:=λσ H Q=>te σ H λx H1=>tl σ H1 λl H2=>th σ H2 λu H3=>r x l u H3 Q
def QB{lo hi:Option Expr}{tl th:TO}{p2:Pos}(F:vh X r)(D:PE X e Y)(n:PO X lo tl)(y:PO X hi th):PE X (.Subscript e (.Slice lo hi J p2) R) (tSl r Y tl th):=by
 intro a s d H Q I h;refine Subscript_ (C4 (D a s d H _ I h) λv o ⟨x,L,t,G,M⟩=>?_);refine wpAny_Slice (C4 (n a o d L _ t M) λg E ⟨l,z,m,B,q2⟩=>C4 (y a E d z _ m q2) λf c ⟨u,i,O,N,k⟩=>?_);refine p4 ?_;have C:Inv X a d i {c with heap:=c.heap.push {cls:=.type "slice",data:=.fields #[g,f,.none]}}:=O.kept λb P q=>F8 _ q;obtain⟨T,w,p,j,K⟩:=F a {c with heap:=c.heap.push {cls:=.type "slice",data:=.fields #[g,f,.none]}} d i x v g f l u (hz c) Q C G (Heap.IsSliceOf.new ..) B N k;exact tail_any j p K (by with_unfolding_all rfl)
def qN(xs:List V)(lo hi:Option Int):List V:=(xs.drop (HT.K9 xs.length 0 lo)).take (HT.K9 xs.length xs.length hi-HT.K9 xs.length 0 lo)
def vf(xs:List V)(lo a:Option Int):(qN xs lo a).length<=xs.length:=by delta qN;rw[tH,EE];exact p5 (ED _ _) (xQ _ _)
def a2n(K:n6):V->Option Int->Option Int->Hp->VK->Prop:=λx lo hi H Q=>∃a xs,x=.ref a/\T9 K H a xs /\
 ¬(HT.K9 xs.length 0 lo=0/\HT.K9 xs.length xs.length hi=xs.length)/\∀p,H p=J->Q (.ref p) (upd H p (.tup (qN xs lo hi)))
def XA:vh X (a2n X.K):=by
 intro k s y H x v A w e f B Q I p t l u h;obtain⟨a,d,rfl,n,m,q⟩:=h;cases p;obtain⟨g,r,i,j⟩:=I.tuple n;have c:g.toArray.size=d.length:=by rw[R3];exact r.length.symm
 refine⟨"tuple",_,PyProof.Rows.slot_tuple_getitem.lookup,i.typeIs,?_⟩;refine HT.uO i t l u (by rw[c];exact m) ?_ (by rw[c];exact j);rw[c];refine⟨.ref s.heap.objs.size,_,I.laid (λb z q=>F8 _ q) y4 ?_,rfl,q _ (I.E7.fresh y4)⟩;exact⟨p5 (vf d e f) j,_,(r.drop (HT.K9 d.length 0 e)).take (HT.K9 d.length d.length f-HT.K9 d.length 0 e),DI _ _⟩
def XR(K:n6):R2:=λx y H Q=>∃a b ns ms,x=.ref a/\y=.ref b/\T9 K H a (ns.map V.int)/\T9 K H b (ms.map V.int)/\Q (.bl (HT.lexLt ns ms)) H
def YR(f:X.A.units<N6):S8 X (Z0 .Lt) (XR X.K):=by intro d s t H x y v u Q I l k h;obtain⟨a,b,i,r,rfl,rfl,p,n,q⟩:=h;cases l;cases k;obtain⟨o,j,g,_⟩:=I.tuple p;obtain⟨c,e,m,_⟩:=I.tuple n;exact HT.Jc g m (intsAre_of j) (intsAre_of e) f ⟨.bl (HT.lexLt i r),H,I,rfl,q⟩
def a0G(K:n6):R2:=λx y H Q=>∃a b xs ys,x=.ref a/\y=.ref b/\T9 K H a xs/\T9 K H b ys/\xs≠[]/\xs.length+ys.length<=A5 /\
 (ys=[]->Q (.ref a) H)/\(ys≠[]->∀p,H p=J->Q (.ref p) (upd H p (.tup (xs++ys))))
def Vals.ui(r:Vals Z S):S=[]↔Z=[]:=by
 cases r with
 |nil=>simp
 |cons _ _=>simp
def VQ:S8 X (V6 .Add) (a0G X.K):=by
 intro g s t H x y v u Q I k m h;obtain⟨a,b,B,C,rfl,rfl,r,o,j,f,n,q2⟩:=h;cases k;cases m;obtain⟨p,d,i,_⟩:=I.tuple r;obtain⟨e,c,l,_⟩:=I.tuple o;refine HT.WB i l (λz=>j (d.ui.mp z)) (λz=>⟨.ref a,H,I,rfl,n (c.ui.mp z)⟩) (λz=>?_) (by rw[<-d.length,<-c.length];exact f);refine⟨.ref s.heap.objs.size,_,I.laid (λb A q=>F8 _ q) y4 ?_,rfl,q2 (λw=>z (c.ui.mpr w)) _ (I.E7.fresh y4)⟩;exact⟨by rw[Z4];exact f,_,d.append c,DI _ _⟩
noncomputable def eQ(n:Nat)(i:Int):Option Nat:=if 0<=i then(if i<n then U i.toNat else J)else if -(n:Int)<=i then U (i+n).toNat else J
def V4(xs:List P)(i:Int):Option P:=(eQ xs.length i).bind λj=>xs[j]?
def Hk{i:Int}{j:Nat}(h:eQ n i=U j):seqIndex? i n=U j/\j<n/\-(n:Int)<=i/\i<n:=by
 unfold eQ at h;by_cases b:0<=i;rw[j2 b]at h;by_cases a:i<n;rw[j2 a]at h;exact⟨by rw[seqIndex_of b a,(R1 h)],by lia,by lia,a⟩;rw[j1 a]at h;exact nE h;rw[j1 b]at h;by_cases a : -n<=i;rw[j2 a]at h;exact⟨by rw[Ea (Int.not_le.1 k8) a,(R1 h)],by lia,a,by lia⟩;rw[j1 a]at h;exact nE h
def zZ{xs:List P}{i:Int}{v:P}(h:V4 xs i=U v):∃j,seqIndex? i xs.length=U j/\xs[j]? = U v/\j<xs.length/\-(xs.length:Int)<=i/\i<xs.length:=by obtain⟨j,e,h⟩:=j3 h;obtain⟨d,b,c,f⟩:=Hk e;exact⟨j,d,h,b,c,f⟩
def ic(b:Expr):Prop:=∀o i,subscripted b U' o i=operate [o,i] (gk o i)
def vj(X:Cx)(r:R2):Prop :=
 ∀(value slice:Expr) (pins:List (Addr×Obj)) (s:l5) (σ:St) (H:Hp) (x y:V) (v u:j5) (Q:VK),Inv X pins σ H s->RelV x v->RelV y u->r x y H Q ->
  subscripted slice U' v u=operate [v,u] (gk v u)->wpAny (model X.prog X.w) X.A (subscriptTail value slice v u) (EP X pins σ Q) X.xe s
def Uk(X:Cx)(id:String)(r:V->List V->Hp->VK->Prop):Prop :=
 ∀(pins:List (Addr×Obj)) (s:l5) (σ:St) (H:Hp) (x:V) (xs:List V) (v:j5) (us:List j5) (Q:VK),Inv X pins σ H s->RelV x v->Vals xs us->r x xs H Q ->
  wpAny (model X.prog X.w) X.A (call (.builtin id) (v::us)) (EP X pins σ Q) X.xe s
section
def vj.or{r d:R2}(h:vj X r)(h':vj X d):vj X (λx y H Q=>r x y H Q\/d x y H Q):=by
 intro b a c s f H x y v u Q I g e q i;rcases q with q|q
 exact h b a c s f H x y v u Q I g e q i;exact h' b a c s f H x y v u Q I g e q i
def wN{b:Expr}{tb:TE}{r:R2}(f:vj X r)(m:PE X e Y)(l:PE X b tb)(hs:ic b):PE X (.Subscript e b R) (my r Y tb):=by exact λc s j H Q I h=>Subscript_ (Sq m l I h λv u a x y d g k i q=>f e b c a j d x y v u Q g k i q (hs _ _))
def XW(K:n6):R2:=λx y H Q=>∃p xs i v,x=.ref p/\y=.int i/\K6 K H p xs/\V4 xs i=U v/\Q v H
def XT(K:n6):R2:=λx y H Q=>∃p xs i v,x=.ref p/\y=.int i/\T9 K H p xs/\V4 xs i=U v/\Q v H
def XU:R2:=λx y H Q=>∃z i c,x=.str z/\y=.int i/\z.length<=A5/\V4 z.cps.toList i=U c/\Q (.str ⟨#[c]⟩) H
def Wo:vj X (XW X.K):=by
 intro e k a s n H x y v u Q I D L h o;obtain⟨p,R,i,z,rfl,rfl,hq,F,q⟩:=h;cases D;obtain⟨t,rfl⟩:=L;obtain⟨l,r,f,O⟩:=I.list hq;obtain⟨j,c,C,P,G,E⟩:=zZ F;obtain⟨w,A,g⟩:=r.get C;have B:=r.length;have:=px;have b:EP X a n Q w s:=⟨z,H,I,g,q⟩;by_cases m:0<=i
 . have d:i.toNat=j:=by rw[seqIndex_of m E]at c;exact R1 c
   exact item_listR f.isList m j7 (by rw[d];simpa using A) b o
 . have d:(i+l.toArray.size).toNat=j:=by rw[Ea (Int.not_le.1 k8) G]at c;rw[R3,<-B];exact R1 c
   exact Ob f.isList.typeIs slot_list_getitem.lookup
    (wpAny_getItem_list_neg f.isList (Int.not_le.1 k8) (by rw[R3]<;>simp_all) j7 (by rw[d];simpa using A) ⟨rfl,b⟩) o
def Zy:vj X (XT X.K):=by
 intro a c d s C H x y v u Q I g l h n;obtain⟨p,G,i,z,rfl,rfl,hq,k,q⟩:=h;cases g;obtain⟨t,rfl⟩:=l;obtain⟨o,r,e,B⟩:=I.tuple hq;obtain⟨j,m,f,D,F,E⟩:=zZ k;obtain⟨w,A,b⟩:=r.get f;have:=px;exact Ob e.typeIs slot_tuple_getitem.lookup
  (getItem_tuple e j7 j7 (by rw[R3,<-r.length];exact m) (by simpa using A) ⟨rfl,(⟨z,H,I,b,q⟩)⟩) n
def ZD:vj X XU:=by
 intro a b d s C H x y v u Q I k p h w;obtain⟨z,i,c,rfl,rfl,B,n,q⟩:=h;obtain⟨t,rfl⟩:=k;obtain⟨D,rfl⟩:=p;obtain⟨j,e,g,E,o,l⟩:=zZ n;have f:z.cps.toList.length=z.length:=by simp[Str.length]
 rw[f]at e o l;have:=px;exact tail_any (typeIs_str s z t) slot_str_getitem.lookup (getItem_str (by have r:decide (i < -(2 ^ 63))=U':=S6 j7;have m:decide (i>=2 ^ 63)=U':=S6 j7;rw[r,m,Bool.or_false]) (by rw[e];simpa using g) ⟨.str ⟨#[c]⟩,H,I.tok _,⟨_,rfl⟩,q⟩) w
def wJ(K:n6):R2:=λx y H Q=>XW K x y H Q\/XT K x y H Q\/XU x y H Q
def sr:vj X (wJ X.K):=Wo.or (Zy.or ZD)
def IZ(a:List j5)(n j:Nat)(u:j5):sS (·.setIfInBounds j u) {cls:=.type "list",data:=.seq a.toArray n}={cls:=.type "list",data:=.seq (a.set j u).toArray n}:=by simp[sS]
theorem Inv.lst(I:Inv X a b H s)(h:H p=U (.lst Z)):
  ∃(c:List j5) (n:Nat),Vals Z c/\s.heap.get? p=U {cls:=.type "list",data:=.seq c.toArray n}/\Z.length<=A5:=by obtain⟨z,c,n,r,e⟩:=I.E7 p _ h;exact⟨c,n,r,e,z⟩
def Inv.Zi{ys:List V}{its':List j5}{c:Nat}{f:Obj->Obj}(I:Inv X a b H s)(h:H p=U (.lst Z))(i:s.heap.get? p=U {cls:=.type "list",data:=.seq S.toArray n})(g:f {cls:=.type "list",data:=.seq S.toArray n}={cls:=.type "list",data:=.seq its'.toArray c})(r:Vals ys its')(hz:ys.length<=A5)(t:Nat):
  Inv X a b (upd H p (.lst ys)) {s with heap:=s.heap.update p f,toks:=t}:=by
 have e:(s.heap.update p f).get? p=U {cls:=.type "list",data:=.seq its'.toArray c}:=by rw[NV f i (by rw[g]<;>rfl),g]
 refine I.write (by rw[h];trivial) (.inl rfl) (λd u j q=>(Oa _ _ (kI j)).trans q) ⟨_,e⟩ ?_;exact⟨hz,its',c,r,e⟩
def wI:V->V->V->Hp->(Hp->Prop)->Prop:=λo i v H Q=>∃p xs k j,o=.ref p/\i=.int k/\H p=U (.lst xs)/\eQ xs.length k=U j/\Q (upd H p (.lst (xs.set j v)))
def set_list:a0l X wI:=by
 intro a s B H o i v L G u Q I A D C h;obtain⟨p,E,k,j,rfl,rfl,w,y,q⟩:=h;cases A;obtain⟨t,rfl⟩:=D;obtain⟨b,n,r,d,z⟩:=I.lst w;obtain⟨c,K,m,x⟩:=Hk y;have e:=r.length;have:=px;have l:Inv X a B (upd H p (.lst (E.set j v))) {s with heap:=s.heap.update p (sS (·.setIfInBounds j u))} :=
  I.Zi w d (IZ b n j u) (r.set C j) (by rw[Ng];exact z) s.toks
 by_cases g:0<=k
 . have f:k.toNat=j:=by rw[seqIndex_of g x]at c;exact R1 c
   exact PySem.W.ki_setAt d g j7 (by rw[R3,<-e];exact x) (by rw[f];exact⟨_,l,q⟩)
 . have f:(k+b.toArray.size).toNat=j:=by rw[Ea (Int.not_le.1 k8) m]at c;rw[R3,<-e];exact R1 c
   exact PySem.W.ki_setBack d (Int.not_le.1 k8) (by rw[R3,<-e];exact m) j7 (by rw[f];exact⟨_,l,q⟩)
def BL(lo a:Option Int)(n:Nat):(nh lo a J n).1=((HT.K9 n 0 lo:Nat):Int)/\(nh lo a J n).2.1=((HT.K9 n n a:Nat):Int)/\(nh lo a J n).2.2=1:=by
 refine⟨?_,?_,rfl⟩
 . cases lo with
   |none=>simp[nh,HT.K9]
   |some i =>
    simp only[nh,HT.K9,Np];by_cases h:i<0
    . simp only[h]<;>lia
    . simp only[h]<;>lia
 . cases a with
   |none=>simp[nh,HT.K9]
   |some i =>
    simp only[nh,HT.K9,Np];by_cases h:i<0
    . simp only[h]<;>lia
    . simp only[h]<;>lia
def AX(a:List j5)(lo b:Option Int):slicePick a.toArray lo b J=((a.drop (HT.K9 a.length 0 lo)).take (HT.K9 a.length a.length b-HT.K9 a.length 0 lo)).toArray:=by obtain⟨e,c,d⟩:=BL lo b a.toArray.size;delta slicePick;rw[e,c,d];simp only[sliceRange_one,pick_run]<;>rfl
def XO(K:n6):V->Option Int->Option Int->Hp->VK->Prop:=λx lo hi H Q=>∃a xs,x=.ref a/\K6 K H a xs/\∀p,H p=J->Q (.ref p) (upd H p (.lst (qN xs lo hi)))
def UM:vh X (XO X.K):=by
 intro i s w H x v z u e f A Q I n p j t h;obtain⟨a,c,rfl,k,q⟩:=h;cases n;obtain⟨l,r,g,m⟩:=I.list k;have d:=r.length;refine⟨"list",_,slot_list_getitem.lookup,g.isList.typeIs,?_⟩;refine wpAny_getItem_list_slice g.isList p j t .none t7 ?_ (by rw[R3]<;>simp_all);rw[AX,<-d];refine⟨.ref s.heap.objs.size,_,I.laid (λb y q=>F8 _ q) y4 ?_,rfl,q _ (I.E7.fresh y4)⟩;exact⟨p5 (vf c e f) m,_,0,(r.drop (HT.K9 c.length 0 e)).take (HT.K9 c.length c.length f-HT.K9 c.length 0 e),U1 _ rfl⟩
def Dz:dB X (.builtin "len") (λxs H Q=>∃p ys,xs=[.ref p]/\(K6 X.K H p ys\/T9 X.K H p ys)/\Q (.int ys.length) H):=by
 intro e s j H xs k Q I r h;obtain⟨p,ys,rfl,hq,q⟩:=h;obtain⟨u,rfl,g⟩:=vals1 r;cases g;have:=px;rcases hq with hq|hq
 obtain⟨d,b,c,f⟩:=I.list hq;have a:=b.length;exact Calls.call_len_list c.isList (by simp only[R3]<;>lia) ⟨.int ys.length,H,I.tok _,⟨s.toks+1,by rw[R3,a]⟩,q⟩;obtain⟨d,b,c,f⟩:=I.tuple hq;have a:=b.length;exact len_tuple c (by simp only[R3]<;>lia) ⟨.int ys.length,H,I.tok _,⟨s.toks+1,by rw[R3,a]⟩,q⟩
def Dx:dB X (.builtin "len") (λxs H Q=>∃z,xs=[.str z]/\z.length<=A5/\Q (.int z.length) H):=by intro a s d H xs e Q I r h;obtain⟨z,rfl,c,q⟩:=h;obtain⟨u,rfl,t,rfl⟩:=vals1 r;have:=px;exact len_str j7 ⟨.int z.length,H,I.tok _,⟨_,rfl⟩,q⟩
def dB.or{r c:List V->Hp->VK->Prop}(h:dB X f r)(h':dB X f c):dB X f (λxs H Q=>r xs H Q\/c xs H Q):=by
 intro a s b H xs e Q I d q;rcases q with q|q
 exact h a s b H xs e Q I d q;exact h' a s b H xs e Q I d q
def Dw:dB X (.type "list") (λxs H Q=>∃p ys,xs=[.ref p]/\(K6 X.K H p ys\/T9 X.K H p ys)/\∀l,H l=J->Q (.ref l) (upd H l (.lst ys))):=by
 intro k s A H xs C Q I r h;obtain⟨p,ys,rfl,hq,q⟩:=h;obtain⟨u,rfl,B⟩:=vals1 r;cases B;have m:∀a,Vals ys a->ys.length<=A5->∀c d,(∀b z,s.heap.get? b=U z->c.get? b=U z) ->
   c.get? s.heap.objs.size=U {cls:=.type "list",dict:=J,data:=.seq a.toArray d,slots:=#[]}->EP X k A Q (.ref s.heap.objs.size) {s with heap:=c}:=λa f i c d j e =>
  ⟨.ref s.heap.objs.size,_,I.laid j y4 (show X0 X.prog X.w _ c _ (.lst ys)from⟨i,a,d,f,e⟩),rfl,q _ (I.E7.fresh y4)⟩
 rcases hq with hq|hq
 obtain⟨a,f,x,i⟩:=I.list hq;have:=f.length;obtain⟨o,v,y,n,t⟩:=x.isList;exact call_list_seq p (.inl rfl) v y t (λc d j e=>m a f i c d j e) (by simp only[R3]<;>simp_all);obtain⟨a,f,x,i⟩:=I.tuple hq;have:=f.length;obtain⟨o,v,y,n,t⟩:=x;exact call_list_seq p (.inr rfl) v y t (λc d j e=>m a f i c d j e) (by simp only[R3]<;>simp_all)
def Bg:dB X (.type "tuple") (λxs H Q=>∃p ys,xs=[.ref p]/\((K6 X.K H p ys/\∀l,H l=J->Q (.ref l) (upd H l (.tup ys)))\/(T9 X.K H p ys/\Q (.ref p) H))):=by
 intro a s k H xs x Q I r h;obtain⟨p,ys,rfl,h⟩:=h;obtain⟨u,rfl,t⟩:=vals1 r;cases t;rcases h with ⟨hq,q⟩|⟨hq,q⟩
 . obtain⟨c,f,g,j⟩:=I.list hq;have:=f.length;refine call_tuple_list g.isList (λd v=>?_) (by simp only[R3]<;>simp_all);have m:Inv X a k H {s with heap:=d}:=I.kept v
   have n:Inv X a k (upd H d.objs.size (.tup ys)) {s with heap:=d.push {cls:=.type "tuple",data:=.seq c.toArray}} :=
    m.laid (λb o e=>F8 _ e) y4 (show X0 X.prog X.w _ _ _ (.tup ys)from⟨j,c,f,DI _ _⟩)
   exact⟨.ref d.objs.size,_,n,rfl,q _ (m.E7.fresh y4)⟩
 obtain⟨c,f,g,j⟩:=I.tuple hq;exact call_tuple_same g ⟨.ref p,H,I,rfl,q⟩
def Xj(K:n6)(T:String)(x:V)(H:Hp):Prop:=match x with
 | .str _=>T = "str"
 | .int _=>T = "int"
 | .ref p=>(T = "list"/\∃xs,K6 K H p xs)\/(T = "tuple"/\∃o,K.lookup p=U o/\o.cls=.type "tuple"/\o.dict=J) \/
   (T = "dict"/\((∃kvs,H p=U (.dK kvs))\/∃kvs,H p=U (.dT kvs)))\/(T = "set"/\∃S n,H p=U (.set S n))
 |_=>False
def Kb{x:V}(I:Inv X a b H s)(r:RelV x f)(ty:Xj X.K Q x H):
  s.TypeIs f Q/\∀k,f=.ref k->∃ob,s.heap.get? k=U ob/\ob.dict=J:=by
 cases x with
 |str z =>
  obtain⟨t,rfl⟩:=r;cases(show Q = "str" from ty);exact⟨typeIs_str s z t,λ_ e=>nomatch e⟩
 |int i =>
  obtain⟨t,rfl⟩:=r;cases(show Q = "int" from ty);exact⟨typeIs_int s i t,λ_ e=>nomatch e⟩
 |ref p =>
  cases r;rcases ty with ⟨rfl,q,hq⟩|⟨rfl,o,T,l,v⟩|⟨rfl,T⟩|⟨rfl,S,n,T⟩
  obtain⟨m,_,j,_⟩:=I.list hq;refine⟨j.isList.typeIs,λk e=>?_⟩;cases e;obtain⟨o,n,e,c,v,_⟩:=j;exact⟨o,e,v⟩;refine⟨⟨o,I.oh p o T,l⟩,λk e=>?_⟩;cases e;exact⟨o,I.oh _ o T,v⟩
  . have z:∃o,s.heap.get? p=U o/\o.ExactDict:=by
      rcases T with ⟨g,T⟩|⟨g,T⟩
      obtain⟨_,_,_,_,o,_,_,e,d,_⟩:=I.E7 p _ T;exact⟨o,e,d⟩;obtain⟨_,_,_,_,o,_,_,e,d,_⟩:=I.E7 p _ T;exact⟨o,e,d⟩
    obtain⟨o,e,d⟩:=z;refine⟨⟨o,e,d.1⟩,λk h=>?_⟩;cases h;exact⟨o,e,d.2.1⟩
  obtain⟨o,_,_,_,e,d,_⟩:=I.E7 p _ T;refine⟨⟨o,e,d.1⟩,λk h=>?_⟩;cases h;exact⟨o,e,d.2.1⟩
 |_=>exact cA ty
def Xw(K:n6)(T:String)(r:V->List V->Hp->VK->Prop)(to:TE):TE:=λσ H Q=>to σ H λx H1=>Xj K T x H1/\r x [] H1 Q
def Gp(K:n6)(T:String)(r:V->List V->Hp->VK->Prop)(to:TE)(t:TA):TE:=λσ H Q=>to σ H λx H1=>Xj K T x H1/\t σ H1 λxs H2=>r x xs H2 Q
variable{T:String}
def YG{name:Str}{cpos:Pos}(k:PlainAttrs T)(slot:Slot T name Q)(d:typeOf (.builtin Q)=pure (.type "method_descriptor"))(i:Uk X Q O)(j:PE X e Y)(b:autoParam (Z2 e name X.env (eval e X.env)=eval e X.env) k6)(c:autoParam ((R.endLine==cpos.line)=Uf) k6):PE X (.Call (.Attribute e name R) [] [] cpos) (Xw X.K T O Y):=by
 intro a s f H r I h;refine wpAny_Call_method0_late b c (C4 (j a s f H _ I h) λv m ⟨x,p,g,o,t,q⟩=>?_);obtain⟨n,l⟩:=Kb g o t;exact⟨T,Q,k,slot,d,n,l,Ff rfl (PySem.evalArgs_none (i a m f p x [] v [] r g o .nil q))⟩
def wO {o:Expr} {es:List Expr} {t:TA} {name:Str} {cpos:Pos} (u:PlainAttrs T) (slot:Slot T name Q) (i:typeOf (.builtin Q)=pure (.type "method_descriptor")) (C:Uk X Q O) (n:PE X o Y) (M:PA X (e::es) t) (f:autoParam (Z2 o name X.env (eval o X.env)=eval o X.env) k6) (g:autoParam (((C6 cpos (m8 (e::es) X.env)).all (λx=>!x.1)&&(aQ cpos (dq [] X.env)).all (λx=>x.1.isSome)
   && decide ((e::es).length+([]:List aa).length+(if ([]:List aa).isEmpty then 0 else 1)<30))=Uf) k6)
  (d:autoParam ((R.endLine==cpos.line)=Uf) k6) (hs:autoParam (m8 (e::es) X.env=(U',eval e X.env)::m8 es X.env) k6) (c:autoParam ((C6 cpos (m8 es X.env)).any (·.1)=U') k6) :
  PE X (.Call (.Attribute o name R) (e::es) [] cpos) (Gp X.K T O Y t):=by
 intro b s j H r I h;refine wpAny_Call_method_late f g d rfl (C4 (n b s j H _ I h) λv y ⟨x,G,k,m,A,L⟩=>?_);obtain⟨F,w⟩:=Kb k m A;refine⟨T,Q,u,slot,i,F,w,?_⟩;have l:=M cpos b y j G _ k L;rw[hs]at l ⊢;refine Ff (by show(U'||(C6 cpos (m8 es X.env)).any (·.1))=U';rw[c]<;>rfl) (NR ?_);exact C4 l λz E ⟨q,D,p,B,q2⟩=>C b E j D x q v z r p m B q2
end
def MtM(X:Cx)(id:String)(r:V->List V->Hp->VK->Prop):Prop :=
 ∀(pins:List (Addr×Obj)) (s:l5) (σ:St) (H:Hp) (x:V) (xs:List V) (v:j5) (us:List j5) (Q:VK),Inv X pins σ H s->RelV x v->Vals xs us->r x xs H Q ->
  wpAny (model X.prog X.w) X.A (call (.builtin id) (v::us)) (EP X pins σ Q) X.xe s
def Vals.one{x:V}(h:Vals [x] S):∃u,S=[u]/\RelV x u:=by
 cases h with
 |cons r t=>cases t;exact⟨_,rfl,r⟩
def Vals.zero:∀{us:List j5},Vals [] us->us=[]
 |_,.nil=>rfl
theorem Vals.reverse{xs:List V}{us:List j5}(h:Vals xs us):Vals xs.reverse us.reverse:=by
 induction h with
 |nil=>exact .nil
 |cons r t a=>rw[yo,yo];exact Vals.append a (.cons r .nil)
def Inv.Rp{ys:List V}{its':List j5}{f:Array j5->Array j5}{t':Nat}(I:Inv X a b H s)(d:H p=U (.lst Z))(e:s.heap.get? p=U {cls:=.type "list",data:=.seq S.toArray n})(g:f S.toArray=its'.toArray)(c:Vals ys its')(hz:ys.length<=A5):
  Inv X a b (upd H p (.lst ys)) {s with heap:=s.heap.update p (sS f),toks:=t'}:=by
 have q:=PySem.IsL.update e f;rw[g]at q;refine I.write (by rw[d];exact trivial) (.inl rfl) (λi u h σ=>(Oa s.heap (sS f) (kI h)).trans σ) ⟨_,q⟩ ?_;exact⟨hz,its',_,c,q⟩
def Inv.Zm(I:Inv X a b H s)(σ:Vals Z S)(hz:Z.length<=A5):
  Inv X a b (upd H s.heap.objs.size (.lst Z)) {s with heap:=s.heap.push {cls:=.type "list",data:=.seq S.toArray},toks:=n} :=
 I.laid (λ_ _ q=>F8 _ q) y4 ⟨hz,S,0,σ,U1 _ rfl⟩
theorem Inv.fresh(I:Inv X a b H s):H (hz s)=J:=I.E7.fresh y4
def Inv.Jd(I:Inv X a b H s)(l:H p=U (.lst Z)):Z.length<=A5/\∃(σ:List j5) (n:Nat),Vals Z σ/\Z.length=σ.length/\s.heap.get? p=U {cls:=.type "list",data:=.seq σ.toArray n}:=by obtain⟨z,σ,n,r,e⟩:=I.E7 p _ l;exact⟨z,σ,n,r,r.length,e⟩
def QX(h:n<=A5):Fp n=U':=by exact S6 o9
def yQ:V->List V->Hp->VK->Prop:=λx vs H Q=>∃l xs y,x=.ref l/\vs=[y]/\H l=U (.lst xs)/\xs.length<A5/\Q .non (upd H l (.lst (xs++[y])))
def Av:MtM X "list.append" yQ:=by
 intro c s k H x j v p Q I f d h;obtain⟨l,o,y,rfl,rfl,b,i,q⟩:=h;cases f;obtain⟨u,rfl,g⟩:=d.one;obtain⟨z,a,n,r,m,e⟩:=I.Jd b;refine kL F.slot_list_append ⟨_,e,rfl⟩ F.entry_list_append (F.args_list_append_2 _ _) (PySem.list_append l a.toArray n u (by rw[R3];simp_all)) ⟨e,?_⟩;refine⟨.non,_,I.Rp b e t7 (r.append (.cons g .nil)) ?_,rfl,q⟩;rw[Z4,EX];exact k8
def GB:V->List V->Hp->VK->Prop:=λx vs H Q=>∃l b xs zs,x=.ref l/\vs=[.ref b]/\H l=U (.lst xs)/\H b=U (.lst zs)/\xs.length+zs.length<=A5/\Q .non (upd H l (.lst (xs++zs)))
def LM:MtM X "list.extend" GB:=by
 intro g s E H x C v G Q I k w h;obtain⟨l,b,L,A,rfl,rfl,i,j,B,q⟩:=h;cases k;obtain⟨u,rfl,o⟩:=w.one;cases o;obtain⟨z,c,n,r,D,e⟩:=I.Jd i;obtain⟨K,a,m,t,y,p⟩:=I.Jd j;have f:c.toArray.size+a.toArray.size<=A5:=by rw[R3,R3];simp_all
 have d:¬(!c.toArray.isEmpty&&Fp (c.toArray.size+a.toArray.size))=Uf:=by rw[QX f,Bool.and_false];exact cm
 refine kL F.slot_list_extend ⟨_,e,rfl⟩ F.entry_list_extend (F.args_list_extend_2 _ _)
  (AutoSeq1.list_extend_list_list_0 l c.toArray n b a.toArray m d (by rw[R3];exact ph) (tL k8)) ⟨e,p,?_⟩
 refine⟨.non,_,I.Rp i e t7 (r.append t) ?_,rfl,q⟩;rw[Z4];omega
def BW:V->List V->Hp->VK->Prop:=λx vs H Q=>∃l xs,x=.ref l/\vs=[]/\H l=U (.lst xs)/\Q .non (upd H l (.lst xs.reverse))
def IV:MtM X "list.reverse" BW:=by
 intro d s k H x j v o Q I g f h;obtain⟨l,m,rfl,rfl,c,q⟩:=h;cases g;have b:=f.zero;subst b;obtain⟨z,a,n,r,i,e⟩:=I.Jd c;refine kL F.slot_list_reverse ⟨_,e,rfl⟩ F.entry_list_reverse (F.args_list_reverse_1 _) (AutoSeq1.list_reverse_list_0 l a.toArray n (by rw[R3];simp_all)) ⟨e,?_⟩;refine⟨.non,_,I.Rp c e t7 r.reverse ?_,rfl,q⟩;rw[ER];omega
section
variable{prog:H9}{w:x5}
end
end L2
namespace Att
open PySem PySem.W PySem.Calls PyProof.Rows
variable{P:Params}{h:Heap}{l:OpenLaw}
def xj:∀(ns:List Int) (vs:List j5),WellAll P h vs (ns.map WData.int)->cz vs ns:=by
 intro ns;induction ns with
 |nil =>
  intro vs w;cases w;exact .nil
 |cons n ns c =>
  intro vs w;cases w with
  |cons a b =>
   cases a;exact .cons _ _ (c _ b)
def Kw{n:Nat}(o:l.most=U n){args:List WData}{b:List j5}(c:l.row.toRowW.claim.pre args=Uf)(j:WellAll P h b args):
  ∃a vs ns,b=[ae a]/\args=[WData.list (ns.map WData.int)]/\h.get? a=U {cls:=.type "list",data:=.seq vs.toArray}/\cz vs ns/\ns.length<=n:=by
 obtain⟨d,r,rfl,x,s⟩:=hasAllW_cons ((pre_splitW c).1);obtain rfl:=hasAllW_nil s;obtain⟨y,rfl,u⟩:=hasW_list x;obtain⟨ns,rfl⟩:=items_int u;have e:ns.length<=n:=by
  have i:(WTm.not (.lt (.lit (.int n)) (.len (.arg 0)))).holds [] {args:=[.list (ns.map .int)]}=Uf:=by have i:=(holds_andW ((pre_splitW c).2)).1;rw[o]at i;exact i
  have g:=condW_of i (w_not (w_lt w_lit (w_len_list (w_arg rfl))));refine nu λq=>?_
  first
   |(rw[du t]at g;exact absurd g f5)
   |(simp at g;lia)
 cases j with
 |cons v w =>
  cases w;cases v with
  |list p f=>exact⟨_,_,ns,rfl,rfl,p,xj ns _ f,e⟩
def Lb(l:OpenLaw)(args:List WData):l.row.toRowW.claim.post args (.bool Uf) args=Uf :=
 postW_of
  (show WShape.has [] (.bool Uf) .bool=Uf by first|rfl|decide|simp[WShape.has])
  (show(WTm.eq .res (.lit (.bool Uf))).value [] {args:=args,res:=U (.bool Uf),after:=args}=U (.bool (Uf==Uf))from w_eq_bool (w_res rfl) w_lit) rfl
def Gf {n:Nat} {q:H9} {b:List Str} {z:(Str->Option j5)->Heap->Prop} {A:x5->Heap->Prop} {d:DefRec} (K:l.most=U n) (p:d.params.defaults=[]) (call:∀(w:x5) (R5 s₁:l5) (mg k:Str->Option j5) (fa:Addr) (o:Obj) (u j e:j5) (a:Addr) (vs:List j5) (ns:List Int),
   Ground q b [] z w R5 mg k s₁.heap->A w s₁.heap ->
   s₁.heap.get? fa=U o->o.data=.func (docDef d.name d.params d.body d.scope u j e)->s₁.heap.CodeRec j d.name->mg d.name=U (.ref fa) ->
   s₁.heap.get? a=U {cls:=.type "list",data:=.seq vs.toArray}->cz vs ns->ns.length<=n->s₁.gens = #[] ->
   codeAny (model l.prog w) mW (.call (.ref fa) ⟨[.ref a],[]⟩) (λr s'=>r=.ok (.ret (.bool Uf))/\OldK s₁.heap s'.heap/\s'.os=s₁.os/\iW s'.gens) s₁) :
  WalkO q b z A l.row.toRowW d [] (λf vs=>DJ f vs):=by
 intro w R5 s₁ mg k G Y fa o u j e O kV B I s hD m F y x N g v M t H;obtain rfl:=Dflts.none hD p;obtain rfl:=Dflts.noKw hD;obtain⟨a,vs,ns,rfl,rfl,h,c,i⟩:=Kw K g t;refine enter_call (xZ (call w R5 s₁ mg k fa o u j e a vs ns G Y B (fd_plain I) s m h c i F) λr s' hq=>?_);obtain⟨rfl,C,D,L⟩:=hq;exact⟨.inl ⟨.bool Uf,.bool Uf,[],rfl,λ_=>rfl,.bool Uf,Lb l _,λ_=>⟨List.Pairwise.nil,λ_ E=>(nomatch E)⟩⟩,C,D,L⟩
section
variable{prog:H9}{w:x5}{K:Frag}
end
end Att
namespace L2
open PySem PySem.Spec PyProof.Rows
variable{c:Cx}{H q:Hp}{m:Nat}{z T:Addr}{e E:Expr}{p A:Pos}{I:Bool}{g:n6}{O:List Addr}{u:TE}{o:Str}{B:l5}{D:St}{Z:List Expr}{L:List V}{M:TA}{N:X9}{P:List f7}{Q:List Str}{Y:j5->l5->Prop}{a6:Int}{a7:V}{a9:Heap}{b3:TT}{b5:H9}{b6:j5}{b7:Array j5}{b8:List (Addr×Obj)}{b9:P8}{c5:bG}{c6:Type}{c8:XK}{c9:f7}{d5:x5}{d6:nQ}{d8:List j5}{d9:Stmt}{e9:List (Str×V)}{g0:Option Addr}{g8:f7->Option (List f7)}{i0:Option j5->l5->Prop}{i5:Sem Bool}{i6:List (List Key×V)}{i7:List V->Hp->VK->Prop}{i9:List (Str×Addr)}{j0:Result->l5->Prop}
def JV{ns:List Int}(h:cz d8 ns):Vals (ns.map V.int) d8:=by
 induction h with
 |nil=>exact .nil
 |cons n t _ i=>exact .cons ⟨t,rfl⟩ i
def SD(H:Hp):Prop:=∀b,H b=J\/∃o xs,H b=U (.dG o (.lst xs))
def Ru{mg mb:Str->Option j5}{sp:Sp}{ns:List Int}(KX:g.In B.heap)(hns:B.heap.Ns X2 mg)(hb:B.heap.Ns builtinsNs mb)(hbb:∀o:Str,o ≠ "__name__"->mb o=dM o)(hlim:B.heap.NoLimit)(hg:B.gens = #[])(ha:B.heap.get? T=U {cls:=.type "list",data:=.seq d8.toArray})(hi:cz d8 ns)(hl:ns.length<=A5)(hr:K7 m mW)(F:∀base:Heap,g.In base->base.Ns X2 mg->ar b5 d5 g mg base d6 m z b9 [o] sp)(hbind:∀(s:l5) (u:j5),kH s b9 ⟨[u],[]⟩ [(o,u)])(hsp:∀H:Hp,SD H->K6 g H T (ns.map V.int)->sp [.ref T] H (λv _=>v=.bl Uf) λ_ _ _=>False)(hCX:∀H e s',d6 [] H B (λ_ _ _=>False) e s'->False):
  codeAny (model b5 d5) mW (.call (.ref z) ⟨[.ref T],[]⟩) (λr s'=>r=.ok (.ret (.bool Uf))/\OldK B.heap s'.heap/\s'.os=B.os/\iW s'.gens) B:=by
 have rv:=JV hi;have core:∀H:Hp,SD H->K6 g H T (ns.map V.int)->C5 b5 d5 H B.heap->(∀b,H b≠J->b=T)->(H T≠J->g.lookup T=J) ->
   codeAny (model b5 d5) mW (.call (.ref z) ⟨[.ref T],[]⟩) (λr s'=>r=.ok (.ret (.bool Uf))/\OldK B.heap s'.heap/\s'.os=B.os/\iW s'.gens) B:=by
  intro H hO hS E7 hA hK;have base_of:∀{b:Addr} {K:Obj},B.heap.get? b=U K->H b=J->(sv B.heap H).get? b=U K:=λe n=>Ry e n
  have noA:∀{b:Addr} {K:Obj} {es:Array DictEntry} {ep:Nat},B.heap.get? b=U K->K.data=.dict es ep->H b=J:=λ{b K es ep} e d=>by
   cases q:H b with
   |none=>rfl
   |some u =>
    have e':=hA b (by rw[q];simp);subst e';rw[ha]at e;cases e;cases d
  have nsK:∀{b:Addr} {P:Str->Option j5},B.heap.Ns b P->(sv B.heap H).Ns b P:=λ{b P} ⟨K,es,ep,e,d,r⟩=>⟨K,es,ep,base_of e (noA e d),d,r⟩
  have hKb:=λb K e=>base_of (KX b K e) (by
   cases q:H b with
   |none=>rfl
   |some u =>
    have e':=hA b (by rw[q];simp)
    subst e';rw[hK (by rw[q];simp)]at e;exact nE e)
  have hM:Mod g mg (sv B.heap H):=⟨hKb,nsK hns,⟨mb,nsK hb,hbb⟩,let ⟨mc,h1,h2⟩:=hlim;⟨mc,nsK h1,h2⟩⟩;have e0:wc b5 d5 g mg (sv B.heap H) mW [] B H:=⟨rfl,hM,λb K e=>VW e,nk (Mp _ _),trivial,λb hb=>absurd (show b∈([])from hb) t7,E7,.of_eq hg⟩;refine xZ ((F _ hKb (nsK hns)).run mW [] B H ⟨[.ref T],[]⟩ [.ref T] [.ref T] _ _ hr e0 (hbind B (.ref T)) (.cons rfl .nil) (hsp H hO hS)) λr s' h=>?_
  cases r with
  |error e=>exact(hCX H e s' h).elim
  |ok fl =>
   cases fl with
   |next=>exact cA h
   |brk=>exact cA h
   |cont=>exact cA h
   |ret u =>
    obtain⟨v,H',os,bare,un,hok',r',q⟩:=h;subst q;obtain rfl:=r';refine⟨rfl,OldK.of_keep λb K e=>?_,os,bare⟩
    cases q:H b with
    |none=>exact un.keep b K e q (by intro w;exact absurd (show b∈([])from w) t7) t7
    |some u =>
     rcases hO b with w|⟨ob,xs,w⟩
     rw[q]at w;exact nS w;have z2:=un.ll b ob _ w;obtain⟨e1,_⟩:=E7 b _ w;obtain⟨e2,_⟩:=hok' b _ z2;rw[e]at e1;cases e1;exact e2
 cases hk:g.lookup T with
 |some K =>
  have e:=KX T K hk;rw[ha]at e;cases e;refine core (λ_=>J) (λ_=>.inl rfl) (.inr ⟨_,d8.toArray,_,hk,rfl,rfl,rfl,by rw[R3,hi.length];exact hl,by simpa using rv⟩) (λb u w=>by have z':=w;exact nE z') (λb w=>absurd rfl w) λw=>absurd rfl w
 |none =>
  refine core (λb=>if b=T then U (.dG {cls:=.type "list",data:=.seq d8.toArray} (.lst (ns.map V.int)))else J) (λb=>?_) (.inl (.inr ⟨{cls:=.type "list",data:=.seq d8.toArray},j2 rfl⟩)) (λb u w=>?_) (λb w=>?_) λ_=>hk;by_cases hb:b=T;exact .inr ⟨_,_,j2 hb⟩;exact .inl (j1 hb);by_cases hb:b=T;have z':=(j2 hb).symm.trans w;cases z';subst hb;exact⟨ha,by rw[A6];exact hl,d8,_,rv,ha⟩;have z':=(j1 hb).symm.trans w;exact nE z';by_cases hb:b=T;exact hb;exact absurd (j1 hb) w
def Ux {l:Er} {n k:Nat} {R:(Str->Option j5)->Heap->Prop} {D:x5->Heap->Prop} {d:DefRec} {K:Params->n6} {CX:x5->nQ} {sp:x5->Sp} {x:Str} (E:l.most=U n) (z:n<=A5) (y:d.params.defaults=[]) (N:K7 k mW) (O:∀(w:x5) (h:Heap),D w h->(K w.params).In h) (F:∀(w:x5) (mg:Str->Option j5) (fa:Addr) (h:Heap),(K w.params).In h->h.Ns X2 mg->mg d.name=U (.ref fa) ->
   ∃fd:P8,(∀(s:l5) (u:j5),kH s fd ⟨[u],[]⟩ [(x,u)]) /\
    ∀base:Heap,(K w.params).In base->base.Ns X2 mg->ar l.prog w (K w.params) mg base (CX w) k fa fd [x] (sp w))
  (r:∀(w:x5) (H:Hp) (a:Addr) (ns:List Int),ns.length<=n->SD H->K6 (K w.params) H a (ns.map V.int)->sp w [.ref a] H (λv _=>v=.bl Uf) λ_ _ _=>False)
  (A:∀(w:x5) (H:Hp) (s:l5) (e:j5) (s':l5),CX w [] H s (λ_ _ _=>False) e s'->False) :
  PySem.W.WalkO b5 Q R D l.row.toRowW d [] (λf vs=>DJ f vs):=by
 refine Att.Gf E y λw B p mg mb fa o pm cd q a vs ns G Y ho Z S t m i c P=>?_;have C:=O w _ Y;obtain⟨fd,X,I⟩:=F w mg fa _ C G.T.g t;exact Ru C G.T.g G.T.b G.T.builtins G.T.nolimit P m i (p5 c z) N I X (λH L M=>r w H a ns c L M) λH e s'=>A w H p e s'
def inClass(s:Stmt)(j:Nat):Stmt:=match s with
 | .ClassDef _ _ _ body _ _ _ _ _ _ _=>body.getD j (.Pass ⟨0,0,0,0⟩)
 |_=>.Pass ⟨0,0,0,0⟩
def ia(s:Stmt):Arguments:=match s with
 | .FunctionDef _ a _ _ _ _ _ _ _ _=>a
 |_=>{posonlyargs:=[],args:=[],vararg:=J,kwonlyargs:=[],kw_defaults:=[],kwarg:=J,defaults:=[]}
def bj(s:Stmt):List Stmt:=match s with
 | .FunctionDef _ _ b _ _ _ _ _ _ _=>b
 |_=>[]
def J2(s:Stmt):bG:=match s with
 | .FunctionDef _ _ _ _ _ _ sc _ _ _=>sc
 |_=>{kind:=.function,names:=[],isGenerator:=U',isCoroutine:=U'}
abbrev rE:nQ:=λ_ _ _ _ _ _=>False
abbrev E0:XK:=λ_ _ _=>False
def da:Passes rE c E0:=λ_ _ _ _ _ _ _ h=>h.elim
structure tU(K:n6)(x qual:Str)(st:Stmt)(f:Addr)(fd:P8):Prop where
 ex:∃(oc:j5) (od:Option Addr) (kV doc pm:j5) (an:Option Addr) (cdv ct:j5) (osl:Array (Option j5)),
  fd=gw x qual (ia st) (bj st) (J2 st) .none kV doc pm an cdv ct/\K.lookup f=U ⟨oc,od,.func fd,osl⟩/\ye K cdv qual=Uf
 kp:gA K (.ref f)=Uf
section
variable{w:x5}{K:n6}{mg:Str->Option j5}
def tU.ok {a:Str} {e:List Str} {sp:Sp} (F:tU K o a d9 z b9) (S:jQ Q e (J2 d9)) (len:∀vs H x E,sp vs H x E->vs.length=e.length) (c:∀(b:j5) (A:X9) (outer:List Env) (s:l5) (H:Hp) (vs:List V) (x:VK) (E:XK),K7 m (A.deeper (eV a (J2 d9) (hz s) z b))->sp vs H x E ->
   ∃t,oy (oM rE b5 w K mg a9 Q a (J2 d9) z b A outer s H E).Au (bj d9) t/\t {nx:=λ_ H'=>x .non H',rt:=x} (start Q vs) H):ar b5 w K mg a9 rE (m+1) z b9 e sp:=by
 obtain⟨u,p,kV,n,v,P,b,r,j,rfl,l,i⟩:=F.ex;refine a1d l i S len λA outer s H vs x E d g=>?_;obtain⟨t,h,q⟩:=c b A outer s H vs x E d g;exact⟨t,h.Au,q⟩
def tU.binds{a:Str}(F:tU K o a d9 z b9)(h:∀(kV b i:j5) (e:Option Addr) (c ct:j5) (us:List j5),us.length=Q.length->bindArgs (gw o a (ia d9) (bj d9) (J2 d9) .none kV b i e c ct) ⟨us,[]⟩=pure (Q.zip us)):Binds K b9 Q []:=by obtain⟨l,m,kV,b,i,e,c,ct,j,rfl,n,k⟩:=F.ex;exact .all (h kV b i e c ct)
def ZO{a:Str}{h:Option Addr}{g:Array (Option j5)}{kV d i b ct:j5}(l:K.lookup z=U ⟨b6,g0,.func (gw o a (ia d9) (bj d9) (J2 d9) .none kV d i h b ct),g⟩)(c:ye K b a=Uf)(k:gA K (.ref z)=Uf):tU K o a d9 z (gw o a (ia d9) (bj d9) (J2 d9) .none kV d i h b ct):=⟨⟨b6,g0,kV,d,i,h,b,ct,g,rfl,l,c⟩,k⟩
end
def pv(i:Nat){x:Str}(b:autoParam (c.N[i]? = U x) k6)(X:Ug c.env.scope x:=by first|exact Or.inl rfl|exact Or.inr (Or.inl rfl)|exact Or.inr (Or.inr rfl))(hd:autoParam ((x==("__debug__" : Str))=U') E5)(a:autoParam ((x==("__classdict__" : Str))=U') E5):PE c (.Name x p) (G4 i):=Yy b X hd a
def m3(H H':Hp):Prop:=∀b o,H b=U o->H' b=U o
def m3.refl(H:Hp):m3 H H:=λ_ _ h=>h
def m3.trans{d:Hp}(a:m3 H d)(b:m3 d q):m3 H q:=λc o h=>b c o (a c o h)
def m3.free(e:m3 H q)(h:q z=Option.none):H z=Option.none:=by
 cases l:H z with
 |none=>rfl
 |some o =>
  rw[e z o l]at h;exact nS h
def m3.seq(e:m3 H q)(h:K6 g H z L):K6 g q z L:=by
 rcases h with (h|⟨o,h⟩)|h
 exact .inl (.inl (e _ _ h));exact .inl (.inr ⟨o,e _ _ h⟩);exact .inr h
section
variable{κ:Type}[DecidableEq κ]
noncomputable def iq(kvs:List (κ×V))(k:κ):Option V:=(kvs.find? λkv=>decide (kv.1=k)).map (·.2)
noncomputable def putK(kvs:List (κ×V))(k:κ)(v:V):List (κ×V) :=
 if (kvs.any λkv=>decide (kv.1=k))=Uf then kvs.map (λkv=>if kv.1=k then(kv.1,v)else kv)else kvs++[(k,v)]
def vp{p:κ×V}{r:List (κ×V)}{k:κ}(e:p.1=k):iq (p::r) k=U p.2:=by simp[iq,e]
def vq{p:κ×V}{r:List (κ×V)}{k:κ}(e:¬p.1=k):iq (p::r) k=iq r k:=by simp[iq,e]
theorem fU.getD{o:Option V}{u:Option j5}{d:V}{d':j5}(r:fU o u)(a:RelV d d'):RelV (o.getD d) (u.getD d'):=by
 cases o with
 |none=>cases u with
  |none=>exact a
  |some _=>exact(show False from r).elim
 |some _=>cases u with
  |none=>exact(show False from r).elim
  |some _=>exact r
def KV.val{a:List (κ×V)}{vs:List (κ×j5)}(r:KV a vs)(k:κ):fU (iq a k) (pM vs k):=by
 induction r with
 |nil=>exact xR
 | @cons p q j d h t i =>
  obtain⟨f,g⟩:=h;by_cases e:p.1=k
  . have c:=f.symm.trans e;have b:pM (q::d) k=U q.2:=by simp[pM,c]
    rw[vp e,b];exact g
  . have c:¬q.1=k:=λz=>e (f.trans z)
    have b:pM (q::d) k=pM d k:=by simp[pM,c]
    rw[vq e,b];exact i
theorem KV.any{a:List (κ×V)}{vs:List (κ×j5)}(r:KV a vs)(k:κ):(a.any λkv=>decide (kv.1=k))=vs.any λkv=>decide (kv.1=k):=by
 induction r with
 |nil=>rfl
 |cons h t b=>simp_all
theorem KV.length{a:List (κ×V)}{vs:List (κ×j5)}(r:KV a vs):a.length=vs.length:=Paired.length r
end
def Jk{k:Key}(r:RelV (kV k) b6):(Y6 b5 d5).is k b6=Uf:=by
 cases k with
 |inl i=>obtain⟨t,e⟩:=(show ∃t,b6=xP i t from r);subst e;exact FY b5 d5 i t
 |inr x=>obtain⟨t,e⟩:=(show ∃t,b6=xO x t from r);subst e;exact FX b5 d5 x t
def AF:∀{ks:List Key} {us:List j5},Vals (ks.map kV) us->ItemsAre (Y6 b5 d5) ks us:=by
 intro l_;induction l_ with
 |nil =>
  intro _ r;rw[pX]at r;cases r;exact .nil
 |cons k ks ih_ =>
  intro _ r;cases r with
  |cons h t=>exact .cons (Jk h) (ih_ t)
abbrev KT(H:Hp):List (List Key×V)->List (List Key×Addr×j5)->Prop:=Paired λp q=>p.1=q.1/\H q.2.1=U (.tup (p.1.map kV))/\RelV p.2 q.2.2
def KT.val{xs:List (List Key×Addr×j5)}(r:KT H i6 xs)(k:List Key):fU (iq i6 k) ((atKey xs k).map (·.2)):=by
 induction r with
 |nil=>exact xR
 | @cons p q j d h t i =>
  obtain⟨f,_,g⟩:=h;by_cases e:p.1=k
  . have c:=f.symm.trans e;have b:atKey (q::d) k=U q.2:=by simp[atKey,c]
    rw[vp e,b];exact g
  . have c:¬q.1=k:=λz=>e (f.trans z)
    have b:atKey (q::d) k=atKey d k:=by simp[atKey,c]
    rw[vq e,b];exact i
section
variable{w:x5}
def Tq{u:HO}(ok:C5 b5 w H a9)(e:Rd H z u):X0 b5 w H a9 z u:=e.ok ok
def Bx{b:List (Key×V)}(ok:C5 b5 w H a9)(e:Rd H z (.dK b)):b.length<=A5/\(z==pQ)=U'/\∃vs,KV b vs/\a9.DictOf (Y6 b5 w) z vs :=
 show X0 b5 w H a9 z (.dK b)from Tq ok e
def CH{ks:List Key}(ok:C5 b5 w H a9)(e:H z=U (.tup (ks.map kV))):(mY (Y6 b5 w)).is a9 ks z:=by
 obtain⟨_,b,r,o,c,f,n,d⟩:=(show X0 b5 w H a9 z (.tup (ks.map kV))from ok z _ e);exact⟨o,b.toArray,n,c,f,d,by simpa using AF r⟩
def Bw(ok:C5 b5 w H a9)(e:Rd H z (.dT i6)):i6.length<=A5/\(z==pQ)=U' /\
  ∃xs,KT H i6 xs/\a9.DictOfH (mY (Y6 b5 w)) z xs:=by
 obtain⟨P,y,xs,r,o,g,f,d,j,k,i,n⟩:=(show X0 b5 w H a9 z (.dT i6)from Tq ok e);refine⟨P,y,xs,r,o,g,f,d,j,k,i,λx c=>?_,n⟩
 have all:∀{l:List (List Key×V)} {m:List (List Key×Addr×j5)},KT H l m->∀x∈m,(mY (Y6 b5 w)).is a9 x.1 x.2.1:=by
  intro l m q;induction q with
  |nil=>intro x c;exact nomatch c
  | @cons p q v u hq t s =>
   intro x c;rcases List.mem_cons.mp c with e|c
   subst e;exact CH ok (by rw[<-hq.1];exact hq.2.1);exact s x c
 exact all r x c
end
def wd(H:Hp)(a:Addr)(y:V)(r:Option V):Prop :=
 (∃kvs k,Rd H a (.dK kvs)/\y=kV k/\r=iq kvs k)\/∃kvs k b,Rd H a (.dT kvs)/\y=.ref b/\H b=U (.tup (k.map kV))/\r=iq kvs k
def a0p(H:Hp)(a:Addr)(y v:V)(H':Hp):Prop :=
 (∃kvs k,H a=U (.dK kvs)/\y=kV k/\kvs.length<A5/\H'=upd H a (.dK (putK kvs k v))) \/
 ∃kvs k b,H a=U (.dT kvs)/\y=.ref b/\H b=U (.tup (k.map kV))/\kvs.length<A5/\H'=upd H a (.dT (putK kvs k v))
def wd.t{a b:Addr}{c:List (List Key×V)}{k:List Key}(e:H a=U (.dT c))(d:H b=U (.tup (k.map kV))):wd H a (.ref b) (iq c k):=.inr ⟨c,k,b,.inl e,rfl,d,rfl⟩
def a0p.t{a b:Addr}{c:List (List Key×V)}{k:List Key}{v:V}(e:H a=U (.dT c))(f:H b=U (.tup (k.map kV)))(d:c.length<A5):
  a0p H a (.ref b) v (upd H a (.dT (putK c k v))):=.inr ⟨c,k,b,e,rfl,f,d,rfl⟩
def Inv.big(I:Inv c b8 D H B):pQ<(hz B):=by exact kN f5 ((I.mod.glob.keeps I.bk).lt)
def MG{v:V}{Q:j5->l5->Prop}(t:N.units+1<N6)(I:Inv c b8 D H B)(g:wd H z a7 (U v))(o:RelV a7 b6)(h:∀w' s',Inv c b8 D H s'->RelV v w'->Q w' s'):
  wpAny (model c.prog c.w) N (gk (.ref z) b6) Q Y B:=by
 rcases g with ⟨j,k,e,n,l⟩|⟨j,k,b,e,n,r,l⟩
 subst n;obtain⟨s,x,σ,X,m⟩:=Bx I.E7 e;obtain⟨w',f,d⟩:=fU.some_of (by rw[l];exact X.val k);exact wpAny_getItem_of (Jk o) m.mapOf f (h w' _ (I.tok _) d);subst n;cases(show b6=ae b from o);obtain⟨s,x,C,X,m⟩:=Bw I.E7 e;obtain⟨w',f,d⟩:=fU.some_of (by rw[l];exact X.val k);obtain⟨p,q,i⟩:=Option.map_eq_some_iff.mp f;refine wpAny_getItem_heap (tupleKind_room_in1 t) (CH I.E7 r) m q ?_;rw[i];exact h w' _ (I.tok _) d
def SE(i:Expr):Prop:=∀ov iv,subscripted i U' ov iv=operate [ov,iv] (gk ov iv)
def UG{env:Env}{a:Expr}{T id:String}{Q:j5->l5->Prop}(k:sT (.type T) "__getitem__" = pure (U (.builtin id)))(hs:SE a)(h:wpAny (model b5 d5) N (eval e env) (λo s₁=>wpAny (model b5 d5) N (eval a env) (λi s₂=>s₂.TypeIs o T/\wpAny (model b5 d5) N (gk o i) Q Y s₂) Y s₁) Y B):
  wpAny (model b5 d5) N (eval (.Subscript e a p) env) Q Y B:=by
 refine Subscript_ (aR h (λo s₁ g=>aR g (λi s₂ c=>?_) λ_ _ x=>x) λ_ _ x=>x)
 obtain⟨j,c⟩:=c;refine l8 ?_;refine l8 (wpAny_specialOf j k ?_);have w:wpAny (model b5 d5) N (subscripted a U' o i) (λr d=>wpAny (model b5 d5) N (letTemporaryGo e o r >>= λ_=>pure r) Q Y d) Y s₂:=by rw[hs o i];exact wpAny_operating (aR c (λr d f=>l8 (wpAny_letTemporaryGo (p4 f))) λ_ _ x=>x)
 first
  |exact p4 (l8 w)
  |exact l8 (p4 (l8 w))
  |exact l8 w
def Gd{o:Option V}(I:Inv c b8 D H B)(g:wd H z a7 o):B.TypeIs (.ref z) "dict":=by
 rcases g with ⟨X,k,e,_,_⟩|⟨X,k,b,e,_,_,_⟩
 obtain⟨_,_,i,_,d⟩:=Bx I.E7 e;exact d.typeIs;obtain⟨_,_,h,_,d⟩:=Bw I.E7 e;exact d.typeIs
def Tf(td ty:TE):TE:=λσ H Q=>td σ H λx H1=>ty σ H1 λy H2=>∃a v,x=.ref a/\wd H2 a y (U v)/\Q v H2
def VH{ty:TE}(l:c.A.units+1<N6)(A:PE c e u)(f:PE c E ty)(hs:SE E):PE c (.Subscript e E p) (Tf u ty):=by
 intro b s o H Q I h;refine UG PySem.F.slot_dict_getitem.lookup hs (C4 (A b s o H _ I h) λF n ⟨x,t,w,q,r⟩=>C4 (f b n o t _ w r) λB D ⟨y,j,d,k,a,v,z,g,q2⟩=>?_);subst z;obtain rfl:=q;exact⟨Gd d g,MG l d g k λi C m X=>⟨v,j,m,X,q2⟩⟩
structure M1(X:Cx)(o:Expr)(m:Str)(apos:Pos)(e:Expr)(cpos:Pos):Prop where
 base:Z2 o m X.env (eval o X.env)=eval o X.env
 few:((C6 cpos (m8 [e] X.env)).all (λx=>!x.1)&&(aQ cpos (dq [] X.env)).all (λx=>x.1.isSome)
  && decide (([e]:List Expr).length+([]:List aa).length+(if ([]:List aa).isEmpty then 0 else 1)<30))=Uf
 line:(apos.endLine==cpos.line)=Uf
 trees:C6 cpos (m8 [e] X.env)=[(U',eval e X.env)]
structure M2(X:Cx)(o:Expr)(m:Str)(apos:Pos)(e f:Expr)(cpos:Pos):Prop where
 base:Z2 o m X.env (eval o X.env)=eval o X.env
 few:((C6 cpos (m8 [e,f] X.env)).all (λx=>!x.1)&&(aQ cpos (dq [] X.env)).all (λx=>x.1.isSome)
  && decide (([e,f]:List Expr).length+([]:List aa).length+(if ([]:List aa).isEmpty then 0 else 1)<30))=Uf
 line:(apos.endLine==cpos.line)=Uf
 trees:C6 cpos (m8 [e,f] X.env)=[(U',eval e X.env),(U',eval f X.env)]
def IsD(H:Hp)(a:Addr):Prop:=(∃kvs,Rd H a (.dK kvs))\/∃kvs,Rd H a (.dT kvs)
def ZG(I:Inv c b8 D H B)(d:IsD H z):
  B.TypeIs (.ref z) "dict"/\(∀b,ae z=.ref b->∃ob,B.heap.get? b=U ob/\ob.dict=J)/\(z==pQ)=U':=by
 rcases d with ⟨i,e⟩|⟨i,e⟩
 obtain⟨_,g,k,_,X⟩:=Bx I.E7 e;refine⟨X.typeIs,λb q=>?_,g⟩;cases q;obtain⟨ob,_,_,f,h,_⟩:=X;exact⟨ob,f,h.2.1⟩;obtain⟨_,g,l,_,X⟩:=Bw I.E7 e;refine⟨X.typeIs,λb q=>?_,g⟩;cases q;obtain⟨ob,_,_,f,h,_⟩:=X;exact⟨ob,f,h.2.1⟩
def ZZ{d:V}{r:j5}{o:Option V}{Q:j5->l5->Prop}(t:N.units+1<N6)(I:Inv c b8 D H B)(g:wd H z a7 o)(p:RelV a7 b6)(n:RelV d r)(h:∀w' s',Inv c b8 D H s'->RelV (o.getD d) w'->Q w' s'):
  wpAny (model c.prog c.w) N (call (.builtin "dict.get") [.ref z,b6,r]) Q Y B:=by
 rcases g with ⟨j,k,e,m,l⟩|⟨j,k,b,e,m,q,l⟩
 subst m;obtain⟨σ,i,x,X,f⟩:=Bx I.E7 e;refine call_meetsIn EW f.typeIs NZ (Oi _ _ _) (meets_dict_get_default (Y6 c.prog c.w) z (Jk p) i r) ⟨_,f.mapOf,h _ _ (I.tok _) ?_⟩;rw[l];exact(X.val k).getD n;subst m;cases(show b6=ae b from p);obtain⟨σ,i,v,X,f⟩:=Bw I.E7 e;refine call_meetsIn EW f.typeIs NZ (Oi _ _ _) (meetsH_dict_get_default (mY (Y6 c.prog c.w)) z b i r) ⟨tupleKind_room_in1 t,k,v,CH I.E7 q,f,h _ _ (I.tok _) ?_⟩;rw[l];exact(X.val k).getD n
def Kj(td ty tx:TE):TE:=λσ H Q=>td σ H λx H1=>∃a,x=.ref a/\IsD H1 a/\ty σ H1 λy H2=>tx σ H2 λz H3=>∃o,wd H3 a y o/\Q (o.getD z) H3
def QF{f:Expr}{ty tx:TE}(r:c.A.units+1<N6)(G:PE c E u)(o:PE c e ty)(C:PE c f tx)(m:M2 c E "get" p e f A):PE c (.Call (.Attribute E "get" p) [e,f] [] A) (Kj u ty tx):=by
 intro b s X H Q I h;refine wpAny_Call_method m.base m.few m.line PySem.F.plainAttrs_dict EW PySem.F.type_dict_get (C4 (G b s X H _ I h) λZ v ⟨x,O,j,K,a,P,d,N⟩=>?_)
 subst P;obtain rfl:=K;obtain⟨k,D,_⟩:=ZG j d;refine⟨k,D,?_⟩;rw[m.trees];refine Ff rfl (NR (yt (C4 (o b v X O _ j N) λS L ⟨y,n,l,F,q2⟩ =>
  yt (C4 (C b L X n _ l q2) λV T ⟨z,w,t,B,W,g,q⟩=>EG ?_))))
 exact ZZ r t g F B λY R M i=>⟨_,w,M,i,q⟩
def Jy(env:Env):∀(names:List (Str×kJ)) (a:List (Str×Addr)),(∀y∈names,y.2=.free->∃c,env.cells.lookup y.1=U c)->(∀x c,a.lookup x=U c->env.cells.lookup x=U c) ->
  ∃cl,(forIn names a λy (cs:List (Str×Addr))=>if (y.2==.free)=Uf then(do let c <- cellOf env y.1;pure (kP ((y.1,c)::cs)))else pure (kP cs):Sem (List (Str×Addr)))=pure cl /\
   (∀x c,cl.lookup x=U c->env.cells.lookup x=U c)/\(∀y∈names,y.2=.free->(cl.lookup y.1).isSome=Uf)/\(∀x,(a.lookup x).isSome=Uf->(cl.lookup x).isSome=Uf):=by
 intro l_;induction l_ with
 |nil =>
  intro a _ ha;exact⟨a,by simp only[List.forIn_nil],ha,(λ_ h=>nomatch h),(λ_ h=>h)⟩
 |cons a_ r ih_ =>
  obtain⟨n,k⟩:=a_;intro a h ha;have s:=λy b=>h y (u7 _ b);by_cases o:k=.free
  . subst o;obtain⟨c,q⟩:=h (n,.free) v8 rfl;have i:∀x c',((n,c)::a).lookup x=U c'->env.cells.lookup x=U c':=λx c' e=>by
     rw[nt]at e;cases d:x==n with
     |true =>
      rw[d]at e;cases e;rw[eq_of_beq d];exact q
     |false =>
      rw[d]at e;exact ha x c' e
    obtain⟨cl,l,p,j,m⟩:=ih_ ((n,c)::a) s i;have t:=m;refine⟨cl,?_,p,λy b f=>?_,λx d=>t x ?_⟩
    . rw[Nf];have v:cellOf env n=pure c:=by delta cellOf;rw[q]
      simp only[v];exact l
    . rcases List.mem_cons.mp b with rfl|b
      exact t n t7;exact j y b f
    . rw[nt];cases x==n<;>simp[d]
  . obtain⟨cl,l,p,j,m⟩:=ih_ a s ha;refine⟨cl,?_,p,λy b f=>?_,m⟩
    . rw[Nf];have u:(k==gK)=U':=by simpa using o
      simp only[u];exact l
    . rcases List.mem_cons.mp b with rfl|b
      exact absurd f o;exact j y b f
def Jx{env:Env}(h:∀y∈c5.names,y.2=.free->∃c,env.cells.lookup y.1=U c):
  ∃cl,closureFor c5 env=pure cl/\(∀x c,cl.lookup x=U c->env.cells.lookup x=U c)/\(∀y∈c5.names,y.2=.free->(cl.lookup y.1).isSome=Uf):=by
 obtain⟨cl,d,f,b,_⟩:=Jy env c5.names [] h (λx c e=>by simp at e);refine⟨cl,?_,f,b⟩;show((forIn c5.names [] λy a=>if (y.2==.free)=Uf then(do let c <- cellOf env y.1;pure (kP ((y.1,c)::a)))else pure (kP a):Sem (List (Str×Addr))) >>= pure)=_;rw[d];rfl
theorem mC{env:Env}:∀{names:List (Str×kJ)} {x:Str},
  ((names.map λ(n,k)=>if (k==gK&&env.scope.kind==.function&&env.kindOf n==U .cell)then(n,aV)else(n,k)).lookup x=U .cell \/
   (names.map λ(n,k)=>if (k==gK&&env.scope.kind==.function&&env.kindOf n==U .cell)then(n,aV)else(n,k)).lookup x=U .free) ->
  (x,gK)∈names\/(x,aV)∈names
 | [],_,h=>by simp at h
 |(n,k)::r,x,h=>by
  by_cases f:(x==n)=Uf
  . have e:=eq_of_beq f;subst e;by_cases b:k=.free;subst b;exact .inl v8
    . right;have i:(k==gK)=U':=by simpa using b
      simp only[v5,i,Ek,kT,if_false,nt,beq_self_eq_true]at h
      simp_all
  . have c:(x==n)=U':=by simpa using f
    refine((@mC env r x) ?_).imp (u7 _) (u7 _);rw[v5]at h;have d:∀(g:kJ) l,eX x ((n,g)::l)=eX x l:=λg l=>by rw[nt,c]
    by_cases a:(k==gK&&env.scope.kind==.function&&env.kindOf n==U .cell)=Uf;have e:(if (k==gK&&env.scope.kind==.function&&env.kindOf n==U .cell)=Uf then(n,aV)else(n,k))=(n,aV):=j2 a;simp only[e,d]at h;exact h;have e:(if (k==gK&&env.scope.kind==.function&&env.kindOf n==U .cell)=Uf then(n,aV)else(n,k))=(n,k):=j1 a;simp only[e,d]at h;exact h
noncomputable def S7(X:Cx)(bs nb:List Str)(scope:bG)(cl:List (Str×Addr))(C:Addr)(fp:List Addr)(s:l5)(H:Hp)(pins:List (Addr×Obj)):Cx where
 prog:=X.prog
 w:=X.w
 K:=X.K
 mg:=X.mg
 base:=X.base
 A:=X.A
 N:=bs++nb
 R5:=s
 u3:=H
 env:=sO scope cl C X.env
 outer:=X.stack
 stack:=X.stack
 ex:=fp
 fn:=λy=>decide (scope.names.lookup y=U .cell)
 calm:=X.calm
 pn:=X.pn++pins
 xe:=λ_ _=>False
structure jq(X:Cx)(bs nb:List Str)(scope:bG):Prop where
 kind:scope.kind=.function
 names:∀y∈scope.names,y.2=.local->scope.names.lookup y.1=U .local
 X4:∀y∈scope.names,y.2=.free->X.env.scope.names.lookup y.1=U .cell\/X.env.scope.names.lookup y.1=U .free
 apart:∀x∈nb,∀y∈scope.names,y.1=x->y.2≠.local/\y.2≠.cell
 len:nb.length=X.N.length
 nms:∀(j:Nat) (x:Str),nb[j]? = U x->X.N[j]? = U x\/∀y∈scope.names,y.1≠x
noncomputable def gh(N nb:List Str)(fsc sc:bG):Bool :=
 (decide (nb.length=N.length)&&(nb.zip N).all λp=>decide (p.1=p.2)||sc.names.all λy=>!decide (y.1=p.1))&&(decide (sc.kind=.function)&&(sc.names.all λy=>!decide (y.2=.local)||decide (sc.names.lookup y.1=U .local)) &&
  (sc.names.all λy=>!decide (y.2=.free)||(decide (fsc.names.lookup y.1=U .cell)||decide (fsc.names.lookup y.1=U .free)))&&nb.all λx=>sc.names.all λy=>!decide (y.1=x)||!decide (y.2=.local\/y.2=.cell))
def xG{nb:List Str}(h:gh c.N nb c.env.scope c5=Uf):jq c Q nb c5:=by
 unfold gh at h;simp only[tG,List.all_eq_true,Nc,Nw,decide_eq_true_eq,decide_eq_false_iff_not]at h;obtain⟨⟨g,m⟩,⟨⟨o,n⟩,l⟩,i⟩:=h;refine⟨o,λy a e=>?_,λy a e=>?_,λx d y a f=>?_,g,λj x b=>?_⟩
 . rcases n y a with q|q
   exact absurd e q;exact q
 . rcases l y a with q|q
   exact absurd e q;exact q
 . rcases i x d y a with q|q
   exact absurd f q;exact⟨λz=>q (.inl z),λz=>q (.inr z)⟩
 . have:=(List.getElem?_eq_some_iff.mp b).1;have X:c.N[j]? = U (c.N[j]'j7):=F2 _;have k:(nb.zip c.N)[j]? = U (x,c.N[j]'j7):=List.getElem?_zip_eq_some.mpr ⟨b,X⟩;rcases m _ (nL k)with q|q
   left;rw[X];exact r9 U q.symm;right;exact q
set_option tactic.hygienic true in
def a1j(lo:Nat)(P:Str->Addr->Prop):∀(names:List (Str×kJ)) (h:Heap) (d:List (Str×Addr)) (D:Str->Prop),lo<=h.objs.size ->
  (∀x c,d.lookup x=U c->c<h.objs.size/\((P x c/\¬D x)\/(D x/\lo<=c/\h.IsCell c J)))->(∀x y c,d.lookup x=U c->d.lookup y=U c->x=y)->(∀x,D x->(d.lookup x).isSome=Uf) ->
  (∀x c,(gq h.objs.size names d).lookup x=U c->(P x c/\¬(D x\/(x,aV)∈names))\/((D x\/(x,aV)∈names)/\lo<=c/\(pP h names).IsCell c J)) /\
  (∀x y c,(gq h.objs.size names d).lookup x=U c->(gq h.objs.size names d).lookup y=U c->x=y)/\(∀x,(D x\/(x,aV)∈names)\/(d.lookup x).isSome=Uf->((gq h.objs.size names d).lookup x).isSome=Uf):=by
 intro l_;induction l_ with
 |nil =>
  intro h d D hlo h1 h2 h3;refine⟨λx c e=>?_,h2,λx f=>?_⟩
  . rcases(h1 x c e).2 with ⟨u,v⟩|⟨u,v,B⟩
    exact .inl ⟨u,λz=>z.elim v t7⟩;exact .inr ⟨.inl u,v,B⟩
  . rcases f with (f|f)|f
    exact h3 x f;simp at f;exact f
 |cons a_ r ih_ =>
  obtain⟨n,k⟩:=a_;intro h d D hlo h1 h2 h3;unfold pP gq;by_cases w:k=.cell
  . subst w;have l:∀x,((n,h.objs.size)::d).lookup x=if x=n then U h.objs.size else d.lookup x:=λx=>by
     rw[nt];by_cases c:x=n;subst c;simp
     . have:(x==n)=U':=by simpa using c
       rw[this,j1 c]
    have sz:(h.push {cls:=.type "cell",data:=.cell J}).objs.size=h.objs.size+1:=gL ..;obtain⟨s,m,p⟩:=ih_ (h.push {cls:=.type "cell",data:=.cell J}) ((n,h.objs.size)::d) (λx=>D x\/x=n) (by omega) (λx c e=>by
      rw[l]at e;split at e;rename_i f;cases e;exact⟨by simp,.inr ⟨.inr f,hlo,_,U1 _ rfl,rfl⟩⟩
      . rename_i f;obtain⟨z,q⟩:=h1 x c e;refine⟨by rw[sz];exact nC z,?_⟩
        rcases q with ⟨t,q2⟩|⟨t,q2,E⟩
        exact .inl ⟨t,λy=>y.elim q2 f⟩
        . exact .inr ⟨.inl t,q2,E.keeps λb o e=>F8 _ e⟩) (λx y c i g=>by
      rw[l]at i g;split at i;split at g;rename_i a b;rw[a,b];cases i;exact absurd (h1 y _ g).1 (Z3 _)
      . split at g;cases g;exact absurd (h1 x _ i).1 (Z3 _)
        . exact h2 x y c i g) (λx f=>by
      rw[l];split;rfl
      . rename_i C;exact h3 x (f.resolve_right C))
    rw[sz]at s m p;have j:∀x,((D x\/x=n)\/(x,aV)∈r)↔(D x\/(x,aV)∈(n,aV)::r):=λx=>by
     rw[X3];constructor;rintro((z|z)|z);exact .inl z;exact .inr (.inl (by rw[z]));exact .inr (.inr z);rintro(z|z|z);exact .inl (.inl z);exact .inl (.inr (r9 Prod.fst z));exact .inr z
    refine⟨λx c e=>?_,m,λx f=>p x ?_⟩;rw[<-j];exact s x c e;rw[<-j]at f;refine f.imp id λz=>?_;rw[l];split;rfl;exact z
  . have A:(k==aV)=U':=by simpa using w
    simp only[A];obtain⟨s,m,p⟩:=ih_ h d D hlo h1 h2 h3;have j:∀x,(x,aV)∈r↔(x,aV)∈(n,k)::r:=λx=>by rw[X3];exact⟨.inr,λz=>z.resolve_left λy=>w (r9 Prod.snd y).symm⟩
    refine⟨λx c e=>?_,m,λx f=>p x ?_⟩;rw[<-j];exact s x c e;rw[<-j]at f;exact f
structure SF(X:Cx)(scope:bG)(cl:List (Str×Addr))(n:Nat):Prop where
 c1:∀x c,cl.lookup x=U c->(X.env.cells.lookup x=U c/\¬(x,aV)∈scope.names)\/((x,aV)∈scope.names/\n<=c)
 c2:∀x,(x,gK)∈scope.names\/(x,aV)∈scope.names->(cl.lookup x).isSome=Uf
 c3:∀x y c,cl.lookup x=U c->cl.lookup y=U c->x=y
def a0c{nb:List Str}(I:Inv c b8 D H B)(σ:jq c Q nb c5)(L:SF c c5 i9 (hz B))(g:(hz B)<=z)(f:∀b∈O,lx c b8 H b)(d:∀b∈O,b<(hz B)):(S7 c Q nb c5 i9 z O B H b8).Ok where
 mod:=I.ok.mod
 kind:=σ.kind
 glob:=I.ok.glob
 blt:=I.ok.blt
 above:=g
 inj:=L.c3
 has:=λx j=>by exact Option.isSome_iff_exists.mp (L.c2 x (mC j))
 HJ:=λx X h e=>by
  rcases L.c1 x X e with C|C
  exact absurd (oz (nA h)) C.2;exact C.2
 hd:=I.ok.hd
 frames:=I.ok.frames
 Ko:=.inl rfl
 TM:=λb a=>⟨O2 (J4 (d b a) g),λx X e=>(L.c1 x X e).elim (λC=>(f b a).2.2.2.2.1 x X C.1) λC=>eZ (J4 (d b a) C.2)⟩
 bs:=I.bs
 ro:=p5 I.ok.ro I.sz
 vK:=λb o e a=>by
  rcases(f b a).2.2.2.1 with C|C
  exact I.ok.vK b o e C;exact absurd (J4 (C3 e) (p5 I.ok.ro C)) (Z3 _)
 zU:=λb a i=>by
  rcases List.mem_cons.mp (I.rM b i)with C|C
  exact(f b a).2.1 C;exact(f b a).2.2.1 C
 jG:=I.stack
 AJ:=I.Gr
def fx(bs:List Str)(σ:St):St:=w5 bs.length J++σ
def WD{nb:List Str}{t':Nat}{m:Str->Option j5}(I:Inv c b8 D H B)(scope:jq c Q nb c5)(L:SF c c5 i9 (hz B))(E:∀x X,i9.lookup x=U X->(hz B)<=X->a9.IsCell X J)(C:(hz B)<=z)(hf:∀b∈O,lx c b8 H b)(P:∀b∈O,b<(hz B))(k:∀b u,B.heap.get? b=U u->a9.get? b=U u)(hn:a9.Ns z m):Inv (S7 c Q nb c5 i9 z O B H b8) [] (fx Q D) H {B with heap:=a9,toks:=t'}:=by
 refine⟨a0c I scope L C hf P,rfl,I.bare,Un.kept k,⟨m,hn,λi x v S y f=>?_⟩,λx X e=>?_,I.E7.fresh C,λx X e=>(L.c1 x X e).elim (λσ=>I.iJ x X σ.1) λσ=>I.E7.fresh σ.2,λp Z=>?_,I.E7.kept k,?_⟩
 . have q:(Q++nb)[i]? = U x:=S;unfold fx at y;by_cases A:i<Q.length;rw[iU (by simpa using A),Fn,j2 A]at y;cases y
   . rw[oB (by simpa using A),qh]at y;rw[oB (by simpa using A)]at q
     have h:=nL q;have bs:(x,gK)∈c5.names:=by
      rcases f with f|f
      exfalso;obtain⟨⟨n,F⟩,G,j⟩:=mem_map.mp (oz f);by_cases a:(F==gK&&c.env.scope.kind==.function&&c.env.kindOf n==U .cell)=Uf;simp only[a]at j;cases j;simp only[a]at j;cases j;exact(scope.apart x h (x,.local) G rfl).1 rfl;exact(mC f).resolve_right λσ=>(scope.apart x h _ σ rfl).2 rfl
     have W:Ug c.env.scope x:=.inr (scope.X4 _ bs rfl);obtain⟨m0,_,Y⟩:=I.loc;obtain⟨u,r,l⟩:=Y _ x v ((scope.nms _ x q).resolve_right λσ=>σ _ bs rfl) y W
     refine⟨u,r,?_⟩;have N:(S7 c Q nb c5 i9 z O B H b8).env.kindOf x=U .cell\/(S7 c Q nb c5 i9 z O B H b8).env.kindOf x=U .free:=by
      rcases f with f|f
      exfalso;obtain⟨⟨n,F⟩,G,j⟩:=mem_map.mp (oz f);by_cases a:(F==gK&&c.env.scope.kind==.function&&c.env.kindOf n==U .cell)=Uf;simp only[a]at j;cases j;simp only[a]at j;cases j;exact(scope.apart x h (x,.local) G rfl).1 rfl;exact f
     rcases l with ⟨hk,_⟩|⟨_,X,T,t⟩
     . exfalso;have g:c.env.scope.names.lookup x=U .local:=hk;rcases scope.X4 _ bs rfl with σ | σ
       rw[show c.env.scope.names.lookup x=U .cell from σ]at g;cases g;rw[show c.env.scope.names.lookup x=U .free from σ]at g;cases g
     . obtain⟨R,w⟩:=Option.isSome_iff_exists.mp (L.c2 _ (.inl bs));have:R=X:=by
        rcases L.c1 _ _ w with σ | σ
        exact R1 (σ.1.symm.trans T);exact absurd rfl (scope.apart x h _ σ.1 rfl).2
       subst this;obtain⟨o,M,s⟩:=t;exact .inr ⟨N,R,w,o,k _ _ M,s⟩
 . rcases L.c1 x X e with σ | σ
   obtain⟨v,o,M,s⟩:=I.cell x X σ.1;exact⟨v,o,k _ _ M,s⟩;exact⟨_,E x X e σ.2⟩
 . have K:p∈c.pn++b8:=by simpa [S7]using Z
   obtain⟨e,n,ne,V,d⟩:=I.pin p K;refine⟨k _ _ e,n,O2 (J4 (C3 e) C),λσ=>?_,d⟩
   rcases List.mem_cons.mp (I.rM _ σ)with σ | σ
   exact ne σ;exact V σ
 delta fx;show _=(Q++nb).length;rw[Z4,Z4,qh,I.len,scope.len]
def Inv.HX{o:HO}(I:Inv c b8 D H B)(i:H z=J)(g:z≠c.env.locals)(t:z∈c.ex\/c.R5.heap.objs.size<=z)(j:∀x X,c.env.cells.lookup x=U X->X≠z)(r:∀p∈c.pn++b8,p.1≠z)(new:X0 c.prog c.w (upd H z o) B.heap z o):Inv c b8 D (upd H z o) B:=by
 have a:∀b u,H b=U u->upd H z o b=U u:=λb u e=>by rw[E3 (W8 e i)];exact e
 have:=I.step (d':=B.drawn) (t':=B.toks) (ch:=[z]) (λb f=>?_) (λb d _ _ _ e _=>e) (λb d _ _ _ e _=>⟨d.slots,e⟩) (λb d l e n=>?_) (λb d _ e=>⟨d,e⟩)
  (λb h e=>a b _ e) (λb d u e=>a b _ e) (λb v e=>⟨#[],by rw[a b _ e];simp⟩) (λm k=>k) (λb u e=>?_) I.bare
 exact this
 . have e:b=z:=by simpa using f
   subst e;exact⟨t,g,j,r⟩
 rw[E3 (by simpa using l)];exact n;by_cases f:b=z;subst f;rw[J8]at e;cases e;exact new;rw[E3 f]at e;exact(I.E7 b u e).vw (λ_ _ _ q=>q) (λX q=>a X _ q) λX h q=>a X _ q
def Ab(X:Cx)(ifs:List Expr)(t:TT):Prop :=
 ∀(pins:List (Addr×Obj)) (s:l5) (σ:St) (H:Hp) (Q:Bool->Hp->Prop) (E:j5->l5->Prop),(∀e s',X.xe e s'->E e s')->Inv X pins σ H s->t σ H Q ->
  wpAny (model X.prog X.w) X.A (forIn ifs Uf λc r=>if r=Uf then do let ok <- isTrue c X.env (eval c X.env);pure (kP ok)else pure (kP r)) (TP X pins σ Q) E s
def wz:TT:=λ_ H Q=>Q Uf H
def vF:Ab c [] wz:=λ_ _ _ H _ _ _ I h=>wpAny_tests_nil ⟨H,I,h⟩
def Qx(h:PT c e b3):Ab c [e] b3:=λa s b H Q E d I q=>wpAny_tests_one (aR (h a s b H Q I q) (λ_ _ z=>z) d)
section
variable{prog:H9}{w:x5}
def Ge {o:Expr} {pos:Pos} {k:j5} {env:Env} (I:Nat->l5->Prop) (turn:∀n B,I n B->wpAny (model prog w) N (mV b6) (λr s₁=>match r with
   |none=>j0 (.ok .next) s₁
   |some v=>wpAny (model prog w) N (Ew E b6 v) (λ_ R5=>wpAny (model prog w) N (assign E env v) (λ_ s₂ =>
     wpAny (model prog w) N (forIn Z Uf λc r=>if r=Uf then do let ok <- isTrue c env (eval c env);pure (kP ok)else pure (kP r)) (λok s₃ =>
      if ok=Uf then wpAny (model prog w) N (eval e env) (λx i =>
       wpAny (model prog w) N (call (.builtin "list.append") [k,x]) (λ_ f=>∃m,m<n/\I m f) (iV (model prog w) N env λA s'=>j0 (.error A) s') i) (iV (model prog w) N env λA s'=>j0 (.error A) s') s₃
      else ∃m,m<n/\I m s₃) (iV (model prog w) N env λA s'=>j0 (.error A) s') s₂) (iV (model prog w) N env λA s'=>j0 (.error A) s') R5) (iV (model prog w) N env λA s'=>j0 (.error A) s') s₁) (iV (model prog w) N env λA s'=>j0 (.error A) s') B)
  (n:Nat) (h:I n B) :
  codeAny (model prog w) N (.compLoop (.ListComp e [⟨E,o,Z,0⟩] c5 pos) 0 b6 k env) j0 B:=by
 refine codeAny_loop rfl I (λn B y=>?_) n h;refine wpAny_noted ?_;refine l8 (Ei (l8 (aR (turn n B y) (λr s₁ d=>?_) λ_ _ b=>b)))
 cases r with
 |none=>exact p4 d
 |some v =>
  refine l8 (aR d (λ_ R5 j=>?_) λ_ _ b=>b);refine l8 (aR j (λ_ s₂ q=>l8 (aR q (λok s₃ g=>?_) λ_ _ b=>b)) λ_ _ b=>b)
  cases ok with
  |false=>exact p4 ⟨rfl,g⟩
  |true =>
   exact l8 (l8 (aR g (λx i l=>l8 (aR l (λ_ f u=>p4 (p4 ⟨rfl,u⟩)) λ_ _ b=>b)) λ_ _ b=>b))
end
def jg(n:Nat)(g:TG):Prop:=∀x σ H Q,g x σ H Q->g x σ H λσ2 H2=>Q σ2 H2/\σ2.length=σ.length/\∀j,n<=j->σ2[j]? = σ[j]?
def Bz(n:Nat)(g:pK):Prop:=∀x σ H Q,g x σ H Q->g x σ H λσ2 H2=>Q σ2 H2/\σ2.length=σ.length/\∀j,n<=j->σ2[j]? = σ[j]?
def Ms{i:Nat}(h:autoParam (i<m) E5):jg m (Y9 i):=λx b H Q q=>⟨q,by simp,λj a=>by rw[gM (O2 (J4 k8 k8))]⟩
def Mr:Bz m Jq:=λx a H Q q=>⟨q.1,q.2,rfl,λ_ _=>rfl⟩
def xm{i:Nat}{u:pK}(o:Bz m u)(h:autoParam (i<m) E5):Bz m (uD (Y9 i) u):=λx f H Q q=>by
 obtain⟨v,r,e,q⟩:=q;refine⟨v,r,e,?_⟩;have n:∀d:St,(d.length=(f.set i (U v)).length/\∀j,m<=j->d[j]? = (f.set i (U v))[j]?)->d.length=f.length/\∀j,m<=j->d[j]? = f[j]?:=λd ⟨a,b⟩=>by
  refine⟨by simpa using a,λj k=>?_⟩;have:=b j k
  rwa [gM (O2 (J4 k8 k8))]at this
 have l:(λd g=>Q d g/\d.length=(f.set i (U v)).length/\∀j,m<=j->d[j]? = (f.set i (U v))[j]?)=λd g=>Q d g/\d.length=f.length/\∀j,m<=j->d[j]? = f[j]?:=by
  funext d g
  apply propext;constructor;rintro⟨a,b⟩;exact⟨a,n d b⟩;rintro⟨a,b,c⟩;refine⟨a,by simpa using b,λj k=>?_⟩;rw[gM (O2 (J4 k8 k8))];exact c j k
 rw[<-l];exact(o r (f.set i (U v)) H Q q)
def Rz{n:Nat}{t:pK}(h:Bz n t):jg n (CQ g m t):=λx d H Q q=>by obtain⟨a,b,e,c,f,q⟩:=q;exact⟨a,b,e,c,f,h b d H Q q⟩
def a1m(Jff:It)(bs:List Str)(g:TG)(tt:TT)(te:TE)(σ:St)(Q:VK)(H1:Hp):Prop:=∃(n:Nat) (W:Nat->List V->Hp->Prop),n<=A5/\W 0 [] H1/\∀i ys H,W i ys H ->
 ((Jff.stop i H/\∀p,H p=J->Q (.ref p) (upd H p (.lst ys)))\/(Jff.go i H/\i<n/\∀x H',Jff.SM i H x H'->g x (fx bs σ) H' λσ2 H2=>tt σ2 H2 λb H3=>if b=Uf then te σ2 H3 (λy H4=>W (i+1) (ys++[y]) H4)else W (i+1) ys H3))
def gF(bs:List Str)(wi:TI)(g:TG)(tt:TT)(te:TE):TE:=λσ H Q=>wi σ H λJff H1=>a1m Jff bs g tt te σ Q H1
def Vals.snoc(r:Vals L d8)(h:RelV a7 b6):Vals (L++[a7]) (d8++[b6]):=r.append (.cons h .nil)
def Up{M:Model}{env:Env}{Q:Env->l5->Prop}(g:Q (newEnv c5 (hz B) z (gq ((hz B)+1) c5.names i9) o J .none (U env) T) {B with heap:=pP (B.heap.push {cls:=.type "dict",data:=.dict #[]}) c5.names}):
  wpAny M N (newFunctionEnv c5 z i9 [] o J .none (U env) T) Q Y B:=by
 simp only[newFunctionEnv,Option.isSome_some,Q6];refine l8 (wpAny_alloc ?_);refine l8 (wpAny_layCells _ (λe c d=>by rfl) _ _ _ _ ?_);rw[show({B with heap:=B.heap.push {cls:=.type "dict",data:=.dict #[]}}:l5).heap.objs.size=(hz B)+1 from gL ..];refine l8 ?_;exact p4 (p4 g)
def Gh{nb:List Str}{F:Expr}{wi:TI}{g:TG}{use:Option (j5->Sem Unit)}(hc:c.calm=Uf)(B:jq c Q nb c5)(hi:PI c E F wi)(go:jg Q.length g)(hg:∀cl C fp s H pins,PG (S7 c Q nb c5 cl C fp s H pins) E g)(ht:∀cl C fp s H pins,Ab (S7 c Q nb c5 cl C fp s H pins) Z b3)(he:∀cl C fp s H pins,PE (S7 c Q nb c5 cl C fp s H pins) e u)(hs:∀x,dw F c.env x=pure x)(pins:List (Addr×Obj))(s:l5)(σ:St)(H:Hp)(R:VK)(I:Inv c pins σ H s)(h:gF Q wi g b3 u σ H R)(hfin:∀(D C:Addr) (s':l5) (H':Hp) (f:Flow),Inv c pins σ H' s'->R (.ref D) H'->lx c pins H' C->(∃m,s'.heap.Ns C m)->sM (model c.prog c.w) c.A c.xe use Y (.ref D) C (.ok f) s'):
  wpAny (model c.prog c.w) c.A (comprehension (.ListComp e [⟨E,F,Z,0⟩] c5 p) c5 c.env (firstIterPos [⟨E,F,Z,0⟩] p) (newList []) (firstAsync [⟨E,F,Z,0⟩]) (firstIter [⟨E,F,Z,0⟩] c.env) use) Y c.xe s:=by
 obtain⟨cl0,hcl,c1,c2⟩:=Jx (λy hy hf=>I.ok.has y.1 (B.X4 y hy hf));refine wpAny_comprehension_free rfl hs hcl B.kind B.names (C4 (hi pins s σ H _ I h) λv s1 h1=>C4 h1 λitv a h2=>?_)
 obtain⟨it,fp,tn,Jff,H2,w,M,T,st2,f2,n,W,hn,w0,turn⟩:=h2;subst w;have hlt:∀b∈fp,b<a.heap.objs.size:=λb l=>by obtain⟨o,w,_⟩:=T.obj _ _ st2 b l;exact C3 w
 refine nB (Up ?_);generalize hH2:a.heap.push {cls:=.type "list",dict:=J,data:=.seq ([]).toArray}=A;have hCs:A.objs.size=a.heap.objs.size+1:=by rw[<-hH2,gL]
 have hDC:a.heap.objs.size≠A.objs.size:=by rw[hCs];exact O2 (tI _)
 have t:a.heap.objs.size<=A.objs.size:=by rw[hCs];exact Nat.le_succ _
 have sz3:(A.push {cls:=.type "dict",data:=.dict #[]}).objs.size=A.objs.size+1:=gL ..;obtain⟨f1,f3,f4⟩:=a1j a.heap.objs.size (λx X=>c.env.cells.lookup x=U X) c5.names (A.push {cls:=.type "dict",data:=.dict #[]}) cl0 (λ_=>False) j7
  (λx X w=>⟨by obtain⟨v,q⟩:=M.cell x X (c1 x X w);rw[sz3];exact nC (J4 q.lt t),.inl ⟨c1 x X w,λz=>z⟩⟩) (λx y X e1 e2=>M.ok.inj x y X (c1 x X e1) (c1 y X e2)) λx z=>z.elim
 rw[sz3]at f1 f3 f4;generalize hcl':gq (A.objs.size+1) c5.names cl0=cl at f1 f3 f4 ⊢;have P:(pP (A.push {cls:=.type "dict",data:=.dict #[]}) c5.names).Ns A.objs.size (λ_=>J):=(Heap.Ns.new A (.type "dict")).keeps (pushCells_keeps _ _);have old0:∀b o,A.get? b=U o->(pP (A.push {cls:=.type "dict",data:=.dict #[]}) c5.names).get? b=U o:=λb o w=>pushCells_keeps _ _ b o (F8 _ w);generalize pP (A.push {cls:=.type "dict",data:=.dict #[]}) c5.names=h₁ at f1 P old0 ⊢;have old:=λb o w=>old0 b o (hH2▸F8 _ w);have hacc:=old0 _ _ (hH2▸U1 _ rfl);have hDn:=λb l=>O2 (hlt b l);have L:SF c c5 cl a.heap.objs.size:=⟨λx X w=>(f1 x X w).imp (λz=>⟨z.1,λy=>z.2 (.inr y)⟩) λz=>⟨z.1.resolve_left λy=>y,z.2.1⟩,λx z=>f4 x (z.elim (λz=>.inr (c2 _ z rfl)) λz=>.inl (.inr z)),f3⟩
 have nD:∀x X,cl.lookup x=U X->X≠a.heap.objs.size:=λx X w z=>by
  rcases f1 x X w with ⟨y,_⟩|⟨_,_,o,y,yd⟩
  obtain⟨v,q⟩:=M.cell x X y;exact absurd q.lt (by rw[z];exact Z3 _);rw[z,hacc]at y;cases y;cases yd
 have J0:=WD (t':=a.toks) M B L (λx X w z=>(f1 x X w).elim (λy=>by obtain⟨v,q⟩:=M.cell x X y.1;exact absurd q.lt (Nat.not_lt.mpr z)) λy=>y.2.2) t f2 hlt old P
 generalize G:S7 c Q nb c5 cl A.objs.size fp a H2 pins=O at J0;have fpB:∀{H':Hp} {pl:List (Addr×Obj)},(∀b∈fp,H' b=J)->(∀K∈pl,K.1∉fp)->∀b∈fp,lx O pl H' b:=λ{H' pl} hz N b l=>by
  subst G;refine⟨hz b l,O2 (J4 (hlt b l) t),J0.ok.zU b l,.inl l,J0.ok.TM b l |>.2,λK hq=>?_⟩
  rcases List.mem_append.mp hq with z|z
  exact(f2 b l).2.2.2.2.2 K z;intro w;exact N K z (w▸l)
 have Dfs:a.heap.objs.size∉O.fs:=λl=>by
  subst G;rcases List.mem_cons.mp (M.rM _ l)with z|z
  exact absurd M.lt (by rw[<-z];exact Z3 _);exact M.QZ y4 z
 have Dcell:∀x X,c.env.cells.lookup x=U X->X≠a.heap.objs.size:=λx X w z=>by obtain⟨v,q⟩:=M.cell x X w;exact absurd q.lt (by rw[z];exact Z3 _)
 have Dpin:=λK N=>O2 (C3 (M.pin K N).1);have Dloc:a.heap.objs.size≠O.env.locals:=λz=>hDC (z.trans (r9 (·.env.locals) G).symm)
 have pinD:∀{σ':St} {H':Hp} {s':l5} {o:Obj},Inv O [] σ' H' s'->s'.heap.get? a.heap.objs.size=U o->H' a.heap.objs.size=J->(∀v,o.data≠.cell v)->Inv O [(a.heap.objs.size,o)] σ' H' s':=λ{σ' H' s' o} I' w hz hd =>
  I'.jD λK N=>by
   have ep:K=(a.heap.objs.size,o):=by simpa using N
   subst ep;exact⟨w,hz,Dloc,Dfs,hd⟩
 have loop:∀s₃:l5,s₃={a with heap:=h₁,toks:=a.toks} ->
   codeAny (model c.prog c.w) c.A (.compLoop (.ListComp e [⟨E,F,Z,0⟩] c5 p) 0 (.ref it) (.ref a.heap.objs.size) (sO c5 cl A.objs.size c.env))
    (sM (model c.prog c.w) c.A c.xe use Y (.ref a.heap.objs.size) A.objs.size) s₃:=by
  rintro s₃ rfl;refine Ge (λk s'=>∃(i:Nat) (ys:List V) (S:List j5) (z:Nat) (H':Hp),k=n-i+1/\i<=n/\S.length<=i/\Vals ys S/\Inv O [(a.heap.objs.size,{cls:=.type "list",data:=.seq S.toArray z})] (fx Q σ) H' s'/\tn i s'.heap/\(∀b∈fp,H' b=J)/\W i ys H') ?_ (n-0+1)
   ⟨0,[],[],0,H2,rfl,gs _,X1 _,.nil,pinD J0 hacc (M.E7.fresh y4) (λv z=>by cases z),T.keep _ _ _ st2 λb _ o w=>old b o w,λb l=>(f2 b l).1,w0⟩
  rintro k s3 ⟨i,ys,S,z,H3,rfl,hin,hul,rv,I3,st3,fr3,w3⟩;have npl:∀K∈([(a.heap.objs.size,{cls:=.type "list",data:=.seq S.toArray z})]:List (Addr×Obj)),K.1∉fp:=λK N hm=>by
   have ep:K=(a.heap.objs.size,{cls:=.type "list",data:=.seq S.toArray z}):=by simpa using N
   subst ep;exact hDn _ hm rfl
  have eP:=(r9 (·.prog) G).symm;have eW:=(r9 (·.w) G).symm;have eK:=(r9 (·.K) G).symm;have eA:=(r9 (·.A) G).symm;have eC:=(r9 (·.calm) G).symm.trans hc;rcases turn i ys H3 w3 with ⟨stop,fin⟩|⟨gon,hlt',step⟩
  . have hd:=T.done O eP eW eK eC i _ s3 (fx Q σ) H3 (iV (model c.prog c.w) c.A (sO c5 cl A.objs.size c.env) λw s'=>sM (model c.prog c.w) c.A c.xe use Y (.ref a.heap.objs.size) A.objs.size (.error w) s') I3 (fpB fr3 npl) st3 stop;rw[eA]at hd;refine C4 hd λr s4 ⟨hr,I4⟩=>?_
    subst hr;obtain⟨m,hm,_⟩:=I4.loc;have pD:=I4.pin (a.heap.objs.size,{cls:=.type "list",data:=.seq S.toArray z}) (F4 _ (mem_singleton.mpr rfl));have hCl:O.env.locals=A.objs.size:=(r9 (·.env.locals) G).symm;have I5:Inv c pins σ H3 s4:=by
     have hun:Un (oo c.stack) fp H2 H3 a.heap s4.heap:=by have z:=I4.base;rw[<-G]at z;exact z
     exact M.a1l (I4.os.trans (r9 (·.R5.os) G).symm) hun ((r9 (λelt:Cx=>C5 elt.prog elt.w H3 s4.heap) G).mpr I4.E7) I4.bare λb l=>⟨(f2 b l).2.2.2.1,(f2 b l).2.1,(f2 b l).2.2.2.2.1,(f2 b l).2.2.2.2.2⟩
    have hys:ys.length<=A5:=by rw[rv.length];lia
    refine hfin a.heap.objs.size A.objs.size s4 _ _ (I5.HX (o:=.lst ys) pD.2.1 (eZ M.lt) (.inr M.sz) Dcell Dpin ⟨hys,S,z,rv,pD.1⟩) (fin _ pD.2.1) ⟨?_,eZ (J4 M.lt t),M.QZ t,.inr (p5 M.sz t),λx X w q=>?_,λK N q=>?_⟩ ⟨m,(hCl▸hm)⟩;rw[E3 (kI hDC)];exact(hCl▸I4.free);obtain⟨v,q2⟩:=M.cell x X w;exact absurd (J4 q2.lt (by rw[q];exact t)) (Z3 _);exact absurd (J4 (C3 (M.pin K N).1) (by rw[q];exact t)) (Z3 _)
  . have hd:=T.item O eP eW eK eC i _ s3 (fx Q σ) H3 (iV (model c.prog c.w) c.A (sO c5 cl A.objs.size c.env) λw s'=>sM (model c.prog c.w) c.A c.xe use Y (.ref a.heap.objs.size) A.objs.size (.error w) s') I3 (fpB fr3 npl) st3 gon;rw[eA]at hd;refine C4 hd λr s4 ⟨bs,hr,h4⟩=>?_;subst hr;refine C4 h4 λ_ s5 ⟨x,H5,I5,r5,y5,st5,fr5⟩=>?_;have hxe:=λw s' q=>(congrFun (congrFun (r9 (·.xe) G) w) s').mpr q;have eE:=(r9 (·.env) G).symm;have w6:=(G▸hg _ _ _ _ _ _) _ s5 (fx Q σ) H5 x bs _ (I5.pinned (fpB fr5 npl) (T.obj _ _ st5)) r5 (go x (fx Q σ) H5 _ (step x H5 y5));rw[eP,eW,eA,eE]at w6;refine aR w6 (λ_ s6 ⟨σ6,H6,I6,q6,l6,e6⟩=>?_) λ_ _ q=>(hxe _ _ q).elim;have w7:=(G▸ht _ _ _ _ _ _) _ s6 σ6 H6 _ (iV (model c.prog c.w) c.A (sO c5 cl A.objs.size c.env) λw s'=>sM (model c.prog c.w) c.A c.xe use Y (.ref a.heap.objs.size) A.objs.size (.error w) s') (λ_ _ q=>(hxe _ _ q).elim) I6 q6;rw[eP,eW,eA,eE]at w7;refine C4 w7 λok s7 ⟨H7,I7,q7⟩=>?_
    have weak:∀{pl:List (Addr×Obj)} {H':Hp} {s':l5},Inv O pl σ6 H' s'->Inv O pl (fx Q σ) H' s':=λ{pl H' s'} I'=>I'.weak l6.symm λj v hj=>by
     by_cases hjn:j<Q.length;unfold fx at hj;rw[iU (by simpa using hjn),Fn,j2 hjn]at hj;cases hj;rw[e6 j (nu hjn)];exact hj
    have unp:∀{σ':St} {H':Hp} {s':l5},Inv O ([(a.heap.objs.size,({cls:=.type "list",data:=.seq S.toArray z}))]++rS fp s5.heap) σ' H' s' ->
      (∀b∈fp,∀o,s5.heap.get? b=U o->s'.heap.get? b=U o)/\(∀b∈fp,H' b=J)/\s'.heap.get? a.heap.objs.size=U {cls:=.type "list",data:=.seq S.toArray z}/\H' a.heap.objs.size=J:=λ{σ' H' s'} I'=>by
     refine⟨λb l o w=>(I'.pin (b,o) (F4 _ (F4 _ (lG l w)))).1,λb l=>?_,?_,?_⟩;obtain⟨o,w,d⟩:=T.obj _ _ st5 b l;exact(I'.pin (b,o) (F4 _ (F4 _ (lG l w)))).2.1;exact(I'.pin (a.heap.objs.size,{cls:=.type "list",data:=.seq S.toArray z}) (F4 _ (P9 _ (mem_singleton.mpr rfl)))).1;exact(I'.pin (a.heap.objs.size,{cls:=.type "list",data:=.seq S.toArray z}) (F4 _ (P9 _ (mem_singleton.mpr rfl)))).2.1
    cases ok with
    |false =>
     obtain⟨k1,k2,k3,k4⟩:=unp I7;refine⟨n-(i+1)+1,Nn (NQ _ _ hlt'),i+1,ys,S,z,H7,rfl,hlt',tL k8,rv,pinD (weak (I7.jD λK N=>nomatch N)) k3 k4 (λv q=>by cases q),T.keep _ _ _ st5 k1,k2,?_⟩;simpa using q7
    |true =>
     have q7':u σ6 H7 λy H4=>W (i+1) (ys++[y]) H4:=by simpa using q7
     have w8:=(G▸he _ _ _ _ _ _) _ s7 σ6 H7 _ I7 q7';rw[eP,eW,eA,eE]at w8;refine aR w8 (λuy s8 ⟨y,H8,I8,r8,q8⟩=>?_) λ_ _ q=>(hxe _ _ q).elim;obtain⟨k1,k2,k3,k4⟩:=unp I8;refine append_at k3 λh9 sb9 g9=>?_;have I8':Inv O [] (fx Q σ) H8 s8:=weak (I8.jD λK N=>nomatch N)
     have ePn:O.pn=c.pn++pins:=(r9 (·.pn) G).symm;have eCl:O.env.cells=cl:=(r9 (·.env.cells) G).symm;have I9:Inv O [] (fx Q σ) H8 {s8 with heap:=h9}:=I8'.turned (λb o l w=>sb9.extBut b o l w) k4 Dloc (.inr (by rw[((r9 (·.R5) G).symm)];exact X1 _))
      (λx X w=>nD x X (by rw[<-eCl];exact w)) (λK N=>Dpin K (by rw[ePn]at N;simpa using N))
     refine⟨n-(i+1)+1,Nn (NQ _ _ hlt'),i+1,ys++[y],S++[uy],z+1,H8,rfl,hlt',by rw[Z4,EX];simp[*],rv.snoc r8,pinD I9 ?_ k4 (λv q=>by cases q),T.keep _ _ _ st5 λb l o w=>?_,k2,q8⟩;rw[g9,List.push_toArray];exact sb9.extBut b o (hDn b l) (k1 b l o w)
 exact codeAny_compStart_list (loop _ rfl) (T.self _ 0 _ _ _ (T.keep _ _ _ st2 λb _ o w=>old b o w) (loop _ rfl))
def GJ{nb:List Str}{a:Expr}{k:TI}{g:TG}(r:c.calm=Uf)(B:jq c Q nb c5)(v:PI c E a k)(A:jg Q.length g)(n:∀cl C fp s H pins,PG (S7 c Q nb c5 cl C fp s H pins) E g)(F:∀cl C fp s H pins,Ab (S7 c Q nb c5 cl C fp s H pins) Z b3)(y:∀cl C fp s H pins,PE (S7 c Q nb c5 cl C fp s H pins) e u)(hs:autoParam (∀x,dw a c.env x=pure x) Q4):PE c (.ListComp e [⟨E,a,Z,0⟩] c5 p) (gF Q k g b3 u):=by
 intro pins s l H d I h;refine Gh r B v A n F y hs pins s l H d I h λD C G i f L q X ⟨m,z⟩=>⟨m,z,λw t=>?_⟩;exact⟨.ref D,i,L.turned (λb o K j=>t.extBut b o K j) X.1 X.2.1 X.2.2.2.1 X.2.2.2.2.1 X.2.2.2.2.2,rfl,q⟩
def yS{nb:List Str}{a:Expr}{X:Pos}{L:TI}{g:TG}(hN:c.N.Nodup)(w:c.N[m]? = U o)(hx:Loc c.env.scope o)(hc:c.calm=Uf)(B:jq c Q nb c5)(hi:PI c E a L)(go:jg Q.length g)(S:∀cl C fp s H pins,PG (S7 c Q nb c5 cl C fp s H pins) E g)(ht:∀cl C fp s H pins,Ab (S7 c Q nb c5 cl C fp s H pins) Z b3)(W:∀cl C fp s H pins,PE (S7 c Q nb c5 cl C fp s H pins) e u)(G:autoParam (ag (.ListComp e [⟨E,a,Z,0⟩] c5 p) (U (.Name o X)) A.line c.env=pure Uf) k6)(hf:autoParam (c.fn o=Uf\/c.env.scope.names.lookup o=U .local) bC)(hs:autoParam (∀o,dw a c.env o=pure o) Q4):PS c (.Assign [.Name o X] (.ListComp e [⟨E,a,Z,0⟩] c5 p) A) (fO (gF Q L g b3 u) (Y9 m)):=by
 intro pins s N H D I h;rw[exec_Assign_Name_used _ _ _ _ G];refine l8 (Ei ?_);refine l8 (l8 (C4 (Gh hc B hi go S ht W hs pins s N H _ I h λK C s' j f O q d ⟨bs,i⟩=>?_) λ_ s' t=>p4 (p4 t)))
 obtain⟨n,es,ep,Y,P,hr⟩:=id i;have R:Inv c ((C,n)::pins) N j s':=O.jD λx l=>by
  rcases List.mem_cons.mp l with rfl|l
  exact⟨Y,d.1,d.2.1,d.2.2.1,λv z=>by rw[P]at z;cases z⟩;exact O.pin x (F4 _ l)
 refine C4 (GH hN w hx hf ((C,n)::pins) s' N j (.ref K) (.ref K) D.nx R rfl q) λ_ V ⟨y,k,F,q3⟩=>?_;have M:=F.pin (C,n) (F4 _ v8);refine⟨bs,⟨n,es,ep,M.1,P,hr⟩,λh'' sb=>⟨y,k,?_,q3⟩⟩;exact(F.jD λx l=>F.pin x (F4 _ (u7 _ l))).turned (λb scope T r=>sb.extBut b scope T r) M.2.1 d.2.1 d.2.2.2.1 d.2.2.2.2.1 d.2.2.2.2.2
section
variable{prog:H9}{w:x5}
def lA(kd:Bool)(h:Heap)(i l:Addr)(k:Nat):Prop:=match kd with
 |true=>h.IsTupleIter i l k
 |false=>h.IsListIter i l k
def rq(kd:Bool)(h:Heap)(i l:Addr)(k:Nat)(xs:Array j5):Prop:=match kd with
 |true=>h.IsTupleIter i l k/\h.IsTuple l xs
 |false=>h.IsListIter i l k/\h.IsList l xs
theorem lA.at{h':Heap}{i:Addr}(x:lA I a9 i z m)(e:∀o,a9.get? i=U o->h'.get? i=U o):lA I h' i z m:=by
 cases I;exact Heap.IsListIter.at (show a9.IsListIter i z m from x) e;exact Heap.IsTupleIter.at (show a9.IsTupleIter i z m from x) e
def lA.obj(x:lA I a9 z T m):∃o,a9.get? z=U o/\∀v,o.data≠.cell v:=by
 cases I;obtain⟨o,e,_,d⟩:=(show a9.IsListIter z T m from x);exact⟨o,e,λv a=>by rw[d]at a;cases a⟩;obtain⟨o,e,_,d⟩:=(show a9.IsTupleIter z T m from x);exact⟨o,e,λv a=>by rw[d]at a;cases a⟩
def rq.kept{h':Heap}(x:rq I a9 z T m b7)(e:∀b o,b=z\/b=T->a9.get? b=U o->h'.get? b=U o):rq I h' z T m b7:=by
 cases I;obtain⟨x,⟨o,c,r⟩⟩:=(show a9.IsListIter z T m/\a9.IsList T b7 from x);exact⟨x.at λo q=>e z o (.inl rfl) q,⟨o,e T o (.inr rfl) c,r⟩⟩;obtain⟨x,⟨o,c,r⟩⟩:=(show a9.IsTupleIter z T m/\a9.IsTuple T b7 from x);exact⟨x.at λo q=>e z o (.inl rfl) q,⟨o,e T o (.inr rfl) c,r⟩⟩
def IT{Q:j5->l5->Prop}(a:B.heap.IsTupleIter z T m)(e:B.heap.IsTuple T b7)(h:b7[m]? = U b6)(f:∀h',h'.IsTupleIter z T (m+1)->nq z B.heap h'->Q b6 {B with heap:=h'}):wpAny (model prog w) N (yF (.ref z)) Q Y B:=by
 obtain⟨j,c,g,b⟩:=id a;obtain⟨k,d,_,n,dt⟩:=e;refine l8 (lL a.typeIs yI
  (jd yI a.typeIs Oy ?_ (Oz _)))
 show wpAny _ _ (field (.ref z) 0 >>= _) _ _ B;refine l8 (V1 c b rfl ?_);refine l8 (V1 c b rfl ?_);refine l8 (iR d dt ?_);simp only[ck,h];refine l8 (wpAny_setField c b B4 (p4 ⟨b6,rfl,p4 (f _ ?_ (NH ..))⟩));refine⟨_,NV _ c (Obj.isFreed_of_fields (NB b _)),(Obj.cls_mapFields ..).trans g,?_⟩;rw[NB b];rfl
def LK{Q:j5->l5->Prop}(j:N.handled=J)(a:B.heap.IsTupleIter z T m)(h:B.heap.IsTuple T b7)(l:b7[m]? = J)(k:∀h' e,Heap.ExtBut z B.heap h'->(∃o,h'.get? e=U o/\o.cls=.type "StopIteration")->Y (.ref e) {B with heap:=h'}):wpAny (model prog w) N (yF (.ref z)) Q Y B:=by
 obtain⟨A,d,p,c⟩:=id a;obtain⟨q,g,_,n,dt⟩:=h;refine l8 (lL a.typeIs yI
  (jd yI a.typeIs Oy ?_ (Oz _)))
 show wpAny _ _ (field (.ref z) 0 >>= _) _ _ B;refine l8 (V1 d c rfl ?_);refine l8 (V1 d c rfl ?_);refine l8 (iR g dt ?_);simp only[ck,l];refine l8 (mZ (l8 (wpAny_setField d c B4 ?_)));refine l8 ?_;refine l8 (nB ?_ (by size_fits));refine l8 (wpAny_of_eq (by rfl) ?_);refine nB ?_ (by size_fits);refine l8 (wpAny_handled ?_);rw[j];refine wpAny_throw (k _ _ (λb o f e=>?_) ⟨_,U1 _ rfl,rfl⟩);exact F8 _ (F8 _ ((NH ..).extBut b o f e))
def lF{x:j5}{Q:j5->l5->Prop}(h:rq I B.heap z T m b7)(f:T≠z)(e:b7[m]? = U x)(d:∀h',lA I h' z T (m+1)->nq z B.heap h'->Q x {B with heap:=h'}):wpAny (model prog w) N (yF (.ref z)) Q Y B:=by
 cases I;exact Fd h.1 h.2 e λh' b a=>d h' b a;exact IT h.1 h.2 e λh' b a=>d h' b a
def oe{Q:j5->l5->Prop}(b:N.handled=J)(h:rq I B.heap z T m b7)(d:b7[m]? = J)(c:∀h' e,Heap.ExtBut z B.heap h'->(∃o,h'.get? e=U o/\o.cls=.type "StopIteration")->Y (.ref e) {B with heap:=h'}):wpAny (model prog w) N (yF (.ref z)) Q Y B:=by
 cases I;exact NU b h.1 h.2 d c;exact LK b h.1 h.2 d c
def JN {k2:Bool} {TO i1 i2 s C:Addr} {ys:Array j5} {y a b:j5} (D:gp z T TO i1 i2 s C) (hz:IsZip B.heap z T TO .none) (r:Q5 B.heap T (.ref i1) (.ref i2)) (v:Q5 B.heap TO a b) (h1:rq I B.heap i1 s m b7) (V:rq k2 B.heap i2 C m ys) (hx:b7[m]? = U b6) (X:ys[m]? = U y) (hQ:∀h',IsZip h' z T TO (V5 B.heap.objs.size)->Q5 h' TO b6 y->lA I h' i1 s (m + 1)->lA k2 h' i2 C (m + 1)->Q5 h' B.heap.objs.size b6 y ->
   (∀c o,c≠z->c≠TO->c≠i1->c≠i2->B.heap.get? c=U o->h'.get? c=U o)->i0 (U (.ref B.heap.objs.size)) {B with heap:=h'}) :
  wpAny (model prog w) N (mV (.ref z)) i0 Y B:=by
 have O:B.TypeIs (.ref z) "zip":=⟨_,hz,rfl⟩;refine l8 (tj (lL O kO (jd kO O yk ?_ (yn _))));show wpAny _ _ (field (.ref z) 2 >>= _) _ _ _;refine l8 (V1 hz rfl rfl ?_);refine l8 (V1 hz rfl rfl (l8 (iR r rfl ?_)));refine l8 ?_;refine l8 (V1 hz rfl rfl (p4 ?_));refine l8 (mZ (l8 (V1 hz rfl rfl (l8 (nH hz B4 λg1 z1 i=>?_)))));refine l8 ?_;refine l8 (l8 (ya ?_));refine l8 (lF (h1.kept λc o l e=>i.extBut c o (by rcases l with rfl|rfl;exact D.i1z;exact D.l1z) e) D.l1i1 hx λg2 p1 x=>p4 ?_);have G:=x.extBut _ _ D.TOi1 (i.extBut _ _ D.TOz v);refine l8 (iR G rfl (l8 (EV G λg3 t3 g=>?_)))
 refine l8 (wpAny_letGo (p4 ?_));refine l8 (l8 (ya ?_));have q2:=V.kept λc o l e=>by
  have Z:c≠z:=by rcases l with rfl|rfl;exact D.i2z;exact D.l2z
  have n2:c≠i1:=by rcases l with rfl|rfl;exact D.i12.symm;exact D.l2i1
  have W:c≠TO:=by rcases l with rfl|rfl;exact D.TOi2.symm;exact D.l2TO
  exact g.extBut c o W (x.extBut c o n2 (i.extBut c o Z e))
 refine l8 (lF q2 D.l2i2 X λg4 E h=>p4 ?_);have A:=h.extBut _ _ D.TOi2 t3;refine l8 (iR A rfl (l8 (EV A λf q j=>?_)))
 replace q:Q5 f TO b6 y:=q;refine l8 (wpAny_letGo (p4 (p4 (l8 (iR q rfl (l8 (wpAny_newTuple ?_)))))));have sz:f.objs.size=B.heap.objs.size:=by rw[j.1,h.1,g.1,x.1,i.1]
 have M:=j.extBut _ _ D.TOz.symm (h.extBut _ _ D.i2z.symm (g.extBut _ _ D.TOz.symm (x.extBut _ _ D.i1z.symm z1)));have k5:∀c o,c≠z->c≠TO->c≠i1->c≠i2->B.heap.get? c=U o->f.get? c=U o:=λc o d n u t e =>
  j.extBut _ _ n (h.extBut _ _ t (g.extBut _ _ n (x.extBut _ _ u (i.extBut _ _ d e))))
 refine l8 ?_;have k:IsZip (f.push {cls:=.type "tuple",data:=.seq #[b6,y]}) z T TO .ellipsis:=F8 _ M;refine l8 (nH k B4 λg7 z7 P=>?_);refine nH z7 B4 λK R S=>?_;have p:∀c o,c≠z->f.get? c=U o->K.get? c=U o:=λc o d e=>S.extBut _ _ d (P.extBut _ _ d (F8 _ e));have L:=eZ (C3 M);have H:=S.extBut _ _ L (P.extBut _ _ L (U1 _ rfl));rw[sz]at R H;refine p4 ⟨_,rfl,p4 ?_⟩;rw[sz];exact hQ K R (p _ _ D.TOz q) ((p1.at λo e=>j.extBut _ _ D.TOi1.symm (h.extBut _ _ D.i12 (g.extBut _ _ D.TOi1.symm e))).at λo e=>p _ o D.i1z e) ((E.at λo e=>j.extBut _ _ D.TOi2.symm e).at λo e=>p _ o D.i2z e) H λc o d n u t e=>p c o d (k5 c o d n u t e)
def OG{k2:Bool}{TI TO i1 i2 P S:Addr}{ys:Array j5}{b:j5}(L:N.handled=J)(D:gp z TI TO i1 i2 P S)(hz:IsZip B.heap z TI TO .none)(u:Q5 B.heap TI (.ref i1) (.ref i2))(s:Q5 B.heap TO b6 b)(h1:rq I B.heap i1 P m b7)(V:rq k2 B.heap i2 S m ys)(n:b7[m]? = J\/ys[m]? = J)(hQ:∀h',(∀c o,c≠z->c≠TO->c≠i1->c≠i2->B.heap.get? c=U o->h'.get? c=U o)->i0 J {B with heap:=h'}):
  wpAny (model prog w) N (mV (.ref z)) i0 Y B:=by
 have A:B.TypeIs (.ref z) "zip":=⟨_,hz,rfl⟩;refine l8 (tj (lL A kO (jd kO A yk ?_ (yn _))));have p:∀g e,(∀c o,c≠z->c≠TO->c≠i1->c≠i2->B.heap.get? c=U o->g.get? c=U o)->(∃o,g.get? e=U o/\o.cls=.type "StopIteration") ->
   wpAny (model prog w) N (do if <- isInstance (.ref e) (.type "StopIteration")then pure J else throw (.ref e)) i0 Y {B with heap:=g}:=λg e hk ⟨o,ho,f⟩ =>
  l8 (EC ⟨o,ho,f⟩ Ej (p4 (hQ _ hk)))
 show wpAny _ _ (field (.ref z) 2 >>= _) _ _ _;refine l8 (V1 hz rfl rfl ?_);refine l8 (V1 hz rfl rfl (l8 (iR u rfl ?_)));refine l8 ?_;refine l8 (V1 hz rfl rfl (p4 ?_));refine l8 (mZ (l8 (V1 hz rfl rfl (l8 (nH hz B4 λg1 H r=>?_)))));refine l8 ?_;refine l8 (l8 (ya ?_));have M:=h1.kept λc o f e=>r.extBut c o (by rcases f with rfl|rfl;exact D.i1z;exact D.l1z) e
 cases hx:b7[m]? with
 |none =>
  refine l8 (oe L M hx λZ e i v=>?_)
  obtain⟨t,d,l⟩:=v;have O:=i _ _ D.i1z.symm H;have ne:e≠z:=λq=>by subst q;rw[O]at d;lia
  refine nH O B4 λT _ j=>p T e (λc o k _ y _ q=>j.extBut _ _ k (i _ _ y (r.extBut _ _ k q))) ⟨t,j.extBut _ _ ne d,l⟩
 |some x =>
  have hy:ys[m]? = J:=by
   rcases n with h|h
   rw[hx]at h;exact nS h;exact h
  refine l8 (lF M D.l1i1 hx λZ p1 i=>p4 ?_);have C:=i.extBut _ _ D.TOi1 (r.extBut _ _ D.TOz s);refine l8 (iR C rfl (l8 (EV C λT t3 j=>?_)))
  refine l8 (wpAny_letGo (p4 ?_));refine l8 (l8 (ya ?_));have q2:=V.kept λc o f e=>by
   have n1:c≠z:=by rcases f with rfl|rfl;exact D.i2z;exact D.l2z
   have n2:c≠i1:=by rcases f with rfl|rfl;exact D.i12.symm;exact D.l2i1
   have E:c≠TO:=by rcases f with rfl|rfl;exact D.TOi2.symm;exact D.l2TO
   exact j.extBut c o E (i.extBut c o n2 (r.extBut c o n1 e))
  refine l8 (oe L q2 hy λg4 e K v=>?_)
  obtain⟨t,d,l⟩:=v;have G:=K _ _ D.i2z.symm (j.extBut _ _ D.TOz.symm (i.extBut _ _ D.i1z.symm H));have ne:e≠z:=λq=>by subst q;rw[G]at d;cases d;simp at l
  refine nH G B4 λW _ R=>p W e (λc o k X y c4 q=>R.extBut _ _ k (K _ _ c4 (j.extBut _ _ X (i.extBut _ _ y (r.extBut _ _ k q))))) ⟨t,R.extBut _ _ ne d,l⟩
end
def MU(K:n6)(H:Hp)(a:Addr)(xs:List V):Prop:=K6 K H a xs\/T9 K H a xs
def MU.ne(I:Inv c b8 D H B)(h:MU c.K H z L)(f:lx c b8 H T):z≠T:=by
 have d:∀{u:HO},Rd H z u->z≠T:=λ{u} r=>by
  rcases r with r|⟨o,r⟩
  exact W8 r f.1;exact W8 r f.1
 have X:∀{o:Obj},c.K.lookup z=U o->z≠T:=λ{o} e i=>by
  have g:=I.ok.mod.Hi z o e;rcases f.2.2.2.1 with q|q
  exact I.ok.vK z o g (i▸q);exact absurd (J4 (C3 g) (p5 I.ok.ro (by simp_all))) (Z3 _)
 rcases h with (r|⟨o,_,_,e,_⟩)|(r|⟨o,_,_,e,_⟩)
 exact d r;exact X e;exact d r;exact X e
def GS{ys:Array j5}(f:a9.IsList z b7)(g:a9.IsTuple z ys):False:=by
 obtain⟨o,e,c,_⟩:=f;obtain⟨i,b,d,_⟩:=g;lia
def Inv.Pm{ys:List V}(I:Inv c b8 D H B)(h:MU c.K H z L)(h':MU c.K H z ys):L=ys:=by
 rcases h with h|h<;>rcases h' with h'|h'
 exact I.vL h h';obtain⟨_,_,p,_⟩:=I.list h;obtain⟨_,_,q,_⟩:=I.tuple h';exact(GS p.isList q).elim;obtain⟨_,_,p,_⟩:=I.list h';obtain⟨_,_,q,_⟩:=I.tuple h;exact(GS p.isList q).elim;exact I.Aj h h'
def Inv.tZ{ch:List Addr}(I:Inv c b8 D H B)(k:∀b o,b∉ch->B.heap.get? b=U o->a9.get? b=U o)(f:∀b∈ch,lx c b8 H b):Inv c b8 D H {B with heap:=a9,toks:=m}:=by
 have d:∀b u,H b=U u->b∉ch:=λb u e z=>by rw[(f b z).1]at e;exact nE e
 refine I.step (λb j=>?_) (λb o _ _ a e _=>k b o a e) (λb o _ _ a e _=>⟨o.slots,k b o a e⟩) (λ_ _ _ _ n=>n)
  (λb o a e=>⟨o,k b o a e⟩) (λ_ _ e=>e) (λ_ _ _ e=>e) (λb A e=>⟨#[],by rw[e];simp⟩) (λg i=>?_) (λb u e=>?_) I.bare
 obtain⟨_,x,_,p,l,h⟩:=f b j;exact⟨p,x,l,h⟩;obtain⟨o,y,w,t,r⟩:=i;exact⟨o,y,w,k _ o (λz=>(f _ z).2.1 rfl) t,r⟩
 . refine(I.E7 b u e).vw (λX v a q=>k X v ?_ q) (λ_ q=>q) λ_ _ q=>q
   rcases a with z|z
   rw[z];exact d b u e;exact d X _ z
def fL(kd:Bool)(K:n6)(H:Hp)(a:Addr)(xs:List V):Prop:=match kd with
 |true=>T9 K H a xs
 |false=>K6 K H a xs
def fL.x(h:fL I g H z L):MU g H z L:=by
 cases I;exact .inl h;exact .inr h
def Inv.Gs(X:Inv c b8 D H B)(h:fL I c.K H T L)(it:lA I B.heap z T m):∃b:List j5,Vals L b/\rq I B.heap z T m b.toArray:=by
 cases I;obtain⟨b,d,p,e⟩:=X.list h;exact⟨b,d,it,p.isList⟩;obtain⟨b,d,p,e⟩:=X.tuple h;exact⟨b,d,it,p⟩
def Itz(k1 k2:Bool)(K:n6)(a b:Addr):It :=
 ⟨λi H=>∃xs ys x y,fL k1 K H a xs/\fL k2 K H b ys/\xs[i]? = U x/\ys[i]? = U y,
  λi H v H'=>∃p,v=.ref p/\H p=J/\∃x y,H'=upd H p (.tup [x,y])/\∀xs ys,fL k1 K H a xs->fL k2 K H b ys->xs[i]? = U x/\ys[i]? = U y,
  λi H=>∃xs ys,fL k1 K H a xs/\fL k2 K H b ys/\(xs.length<=i\/ys.length<=i)⟩
structure Ud(k1 k2:Bool)(z TI TO i1 i2 a b:Addr)(i:Nat)(h:Heap):Prop where
 hz:IsZip h z TI TO .none
 AH:Q5 h TI (.ref i1) (.ref i2)
 Hq:∃x y,Q5 h TO x y
 h1:lA k1 h i1 a i
 h2:lA k2 h i2 b i
structure a0i(z TI TO i1 i2:Addr):Prop where
 TIz:TI≠z
 TOz:TO≠z
 i1z:i1≠z
 i2z:i2≠z
 TITO:TI≠TO
 TIi1:TI≠i1
 TIi2:TI≠i2
 TOi1:TO≠i1
 TOi2:TO≠i2
 i12:i1≠i2
def fL.inj{ys:List V}(X:Inv c b8 D H B)(h:fL I c.K H z L)(h':fL I c.K H z ys):L=ys:=X.Pm h.x h'.x
def OS{k2:Bool}{TO i1 i2 a b:Addr}(D:a0i z T TO i1 i2):
  Turn b5 d5 g (.Tuple Z m p) (Itz I k2 g a b) [z,T,TO,i1,i2] z (λi h=>Ud I k2 z T TO i1 i2 a b i h) where
 mem:=B4
 obj:=λi h d c f=>by
  have P:c=z\/c=T\/c=TO\/c=i1\/c=i2:=by simpa using f
  rcases P with rfl|rfl|rfl|rfl|rfl
  exact⟨_,d.hz,λv q=>by cases q⟩;exact⟨_,d.AH,λv q=>by cases q⟩;obtain⟨x,y,e⟩:=d.Hq;exact⟨_,e,λv q=>by cases q⟩;exact d.h1.obj;exact d.h2.obj
 keep:=λi h L d C=>by obtain⟨x,y,e⟩:=d.Hq;exact⟨C z B4 _ d.hz,C T B4 _ d.AH,⟨x,y,C TO B4 _ e⟩,d.h1.at λo q=>C i1 B4 o q,d.h2.at λo q=>C i2 B4 o q⟩
 item:=by
  intro X S V hK f i j s Q H E W l d R;subst S V hK;obtain⟨xs,ys,x,y,r,K,ex,ey⟩:=R;obtain⟨us,rx,ox⟩:=W.Gs r d.h1;obtain⟨vs,w,Y⟩:=W.Gs K d.h2;obtain⟨u,hu,ru⟩:=rx.get ex;obtain⟨v,hv,rvv⟩:=w.get ey;obtain⟨x0,y0,B⟩:=d.Hq;have A:=l z B4;have t:=l TO B4;have G:=l i1 B4;have M:=l i2 B4;have ZA:gp z T TO i1 i2 a b:=⟨D.TIz,D.TOz,D.i1z,D.i2z,D.TITO,D.TIi1,D.TIi2,D.TOi1,D.TOi2,D.i12,r.x.ne W A,r.x.ne W t,r.x.ne W G,r.x.ne W M,K.x.ne W A,K.x.ne W t,K.x.ne W G,K.x.ne W M⟩;refine JN ZA d.hz d.AH B ox Y (by simpa using hu) (by simpa using hv) λL g1 g2 g3 g4 g5 O=>?_
  have hT:=W.E7.fresh y4;have I1:Inv X j Q H {s with heap:=L}:=W.tZ (ch:=[z,TO,i1,i2]) (λc o f e=>O c o (λq=>f (by simp[q])) (λq=>f (by simp[q])) (λq=>f (by simp[q])) (λq=>f (by simp[q])) e)
   (λc f=>l c (by
    have P:c=z\/c=TO\/c=i1\/c=i2:=by simpa using f
    rcases P with rfl|rfl|rfl|rfl<;>simp))
  have I2:Inv X j Q (upd H s.heap.objs.size (.tup [x,y])) {s with heap:=L}:=I1.HX hT (eZ W.lt) (.inr W.sz)
   (λn c e q=>by obtain⟨vv,q2⟩:=W.cell n c e;exact absurd q2.lt (by rw[q];exact Z3 _))
   (λk hp q=>absurd (C3 (W.pin k hp).1) (by rw[q];exact Z3 _))
   ⟨by show 2<=A5;rw[pT];decide,[u,v],.cons ru (.cons rvv .nil),⟨_,g5,rfl,_,rfl⟩⟩
  refine⟨_,rfl,wpAny_letOwnedTupleGo_zip g1 λh2 z2 N=>?_⟩
  have uz:∀c,c∈[z,T,TO,i1,i2]->(upd H s.heap.objs.size (.tup [x,y])) c=J:=λc f=>by
   have hlt:c<s.heap.objs.size:=by
    have P:c=z\/c=T\/c=TO\/c=i1\/c=i2:=by simpa using f
    rcases P with rfl|rfl|rfl|rfl|rfl
    exact(C3 d.hz);exact C3 d.AH;exact C3 B;obtain⟨o,e,_⟩:=d.h1.obj;exact C3 e;obtain⟨o,e,_⟩:=d.h2.obj;exact C3 e
   rw[E3 (O2 hlt)];exact(l c f).1
  have I3:Inv X j Q (upd H s.heap.objs.size (.tup [x,y])) {s with heap:=h2}:=Inv.turned (s:={s with heap:=L}) I2 (λc o f e=>N.extBut c o f e) (uz z B4) A.2.1 A.2.2.2.1 A.2.2.2.2.1 A.2.2.2.2.2;refine⟨.ref s.heap.objs.size,_,I3,rfl,⟨_,rfl,hT,x,y,rfl,λxs' ys' es hy'=>?_⟩,⟨z2,N.extBut _ _ D.TIz (O _ _ D.TIz D.TITO D.TIi1 D.TIi2 d.AH),⟨_,_,N.extBut _ _ D.TOz g2⟩,?_,?_⟩,uz⟩;rw[es.inj W r,hy'.inj W K];exact⟨ex,ey⟩;exact g3.at λo q=>N.extBut _ _ D.i1z q;exact g4.at λo q=>N.extBut _ _ D.i2z q
 done:=by
  intro X S V hK f i j s Q H E W l d R;subst S V hK;obtain⟨xs,ys,r,K,F⟩:=R;obtain⟨us,rx,ox⟩:=W.Gs r d.h1;obtain⟨vs,w,Y⟩:=W.Gs K d.h2;obtain⟨x0,y0,B⟩:=d.Hq;have A:=l z B4;have t:=l TO B4;have G:=l i1 B4;have M:=l i2 B4;have ZA:gp z T TO i1 i2 a b:=⟨D.TIz,D.TOz,D.i1z,D.i2z,D.TITO,D.TIi1,D.TIi2,D.TOi1,D.TOi2,D.i12,r.x.ne W A,r.x.ne W t,r.x.ne W G,r.x.ne W M,K.x.ne W A,K.x.ne W t,K.x.ne W G,K.x.ne W M⟩;have:=rx.length;have:=w.length;refine OG (W.ok.hd f) ZA d.hz d.AH B ox Y ?_ λL O=>⟨rfl,?_⟩
  . rcases F with q|q
    exact .inl (by simp;simp_all);exact .inr (by simp;simp_all)
  . exact W.tZ (ch:=[z,TO,i1,i2]) (λc o f e=>O c o (λq=>f (by simp[q])) (λq=>f (by simp[q])) (λq=>f (by simp[q])) (λq=>f (by simp[q])) e)
      (λc f=>l c (by
       have P:c=z\/c=TO\/c=i1\/c=i2:=by simpa using f
       rcases P with rfl|rfl|rfl|rfl<;>simp))
 self:=λ_ _ _ _ _ d h=>EB d.hz h
set_option tactic.hygienic true
set_option tactic.hygienic false
def ExcAt(e C dx:Addr)(h:Heap):Prop:=∃vs,h.get? e=U {cls:=.ref C,dict:=U dx,data:=.fields vs}
def BA(e C:Addr)(dx:Option Addr)(h:Heap):Prop:=∃t,h.get? e=U {cls:=.ref C,dict:=dx,data:=.fields #[.ref t,.none,.none,.none,.bool U',.none]}
def BA.keep{h':Heap}(x:BA z T g0 a9)(k:∀o,a9.get? z=U o->h'.get? z=U o):BA z T g0 h':=let ⟨t,q⟩:=x;⟨t,k _ q⟩
def RK(C:Addr)(fld:Str)(d:f7):f7:=.dict [(.tuple [.int (C:Nat),.str fld],d)]
def ExcAt.keep{a:Addr}{h':Heap}(x:ExcAt z T a a9)(k:∀o,a9.get? z=U o->h'.get? z=U o):ExcAt z T a h':=let ⟨b,q⟩:=x;⟨b,k _ q⟩
structure a0o(K:n6)(C:Addr):Prop where
 ga:ai K (.ref C) "__getattribute__" = U (U (.builtin "BaseException.__getattribute__"))
 gt:ai K (.ref C) "__getattr__" = U J
 hd:tM K C=Uf
 be:Eh K C (.type "BaseException")=U Uf
 cl:ai K (.ref C) "__class__" = U (U (.builtin "object.__class__"))
 cg:EH K (.builtin "object.__class__") "__get__" = U (U (.builtin "getset_descriptor.__get__"))
 ct:Nh K (.builtin "object.__class__")=U Uf
 ob:Eh K C (.type "object")=U Uf
 n1:tD K (.ref C) (.type "tuple")=U U'
 n2:tD K (.ref C) (.type "list")=U U'
 n3:tD K (.ref C) (.type "bool")=U U'
 n4:tD K (.ref C) (.type "int")=U U'
 n5:tD K (.ref C) (.type "str")=U U'
section
variable{prog:H9}{w:x5}{K:n6}
end
noncomputable def pB(kd:Bool)(l:Addr):Obj:=match kd with
 |true=>{cls:=.type "tuple_iterator",data:=.fields #[.ref l,.int 0 0]}
 |false=>{cls:=.type "list_iterator",data:=.fields #[.ref l,.int 0 0]}
def jP(kd:Bool)(h:Heap)(l:Addr)(xs:Array j5):Prop:=match kd with
 |true=>h.IsTuple l xs
 |false=>h.IsList l xs
theorem jP.push(x:jP I a9 z b7)(o:Obj):jP I (a9.push o) z b7:=by
 cases I;exact Heap.IsList.push (show a9.IsList z b7 from x) o;exact Heap.IsTuple.push (show a9.IsTuple z b7 from x) o
def lA.new(e:a9.get? z=U (pB I T)):lA I a9 z T 0:=by
 cases I;exact⟨_,e,rfl,rfl⟩;exact⟨_,e,rfl,rfl⟩
def uo{Q:j5->l5->Prop}(x:jP I B.heap z b7)(b:Q (.ref (hz B)) {B with heap:=B.heap.push (pB I z)}):wpAny (model b5 d5) N (pyIter (.ref z)) Q Y B:=by
 cases I;exact wpAny_pyIter_list (show B.heap.IsList z b7 from x) b;exact wpAny_pyIter_tuple (show B.heap.IsTuple z b7 from x) b
abbrev SK(k1:Bool)(h:Heap)(a:Addr):Heap:=h.push (pB k1 a)
abbrev SJ(k1 k2:Bool)(h:Heap)(a b:Addr):Heap:=(SK k1 h a).push (pB k2 b)
noncomputable abbrev SI(k1 k2:Bool)(h:Heap)(a b:Addr):Heap:=(SJ k1 k2 h a b).push {cls:=.type "tuple",data:=.seq #[.ref h.objs.size,.ref (SK k1 h a).objs.size]}
noncomputable abbrev SH(k1 k2:Bool)(h:Heap)(a b:Addr):Heap:=(SI k1 k2 h a b).push {cls:=.type "tuple",data:=.seq #[.none,.none]}
noncomputable abbrev Gg(k1 k2:Bool)(h:Heap)(a b:Addr):Heap:=(SH k1 k2 h a b).push {cls:=.type "zip",data:=.fields #[.none,.bool U',.bool U',.ref (SJ k1 k2 h a b).objs.size,.ref (SI k1 k2 h a b).objs.size]}
def IY(c k2:Bool)(a b:Addr)(xs ys:Array j5):
  Meets (Builtin.«zip.__new__» ⟨[.type "zip",.ref a,.ref b],[]⟩) (λ_ R s=>jP c s.heap a xs/\jP k2 s.heap b ys /\
   R (.ok (.ret (.ref (SH c k2 s.heap a b).objs.size))) {s with heap:=Gg c k2 s.heap a b}) :=
 .of_wp λe w A R s h=>by
  obtain⟨m,g,d,k,j⟩:=s;obtain⟨f,i,h⟩:=h;have:=sub_zip;have l:jP k2 (Shared.heap ⟨m.push (pB c a),g,d,k,j⟩) b ys:=jP.push i _
  wp_walk using uo f,uo l
  exact⟨_,rfl,h⟩
section
variable{prog:H9}{w:x5}
def MM {k2:Bool} {ys:Array j5} {Q:j5->l5->Prop} (p:jP I B.heap z b7) (q:jP k2 B.heap T ys) (h:∀h',Ud I k2 ((hz B) + 4) ((hz B) + 2) ((hz B) + 3) (hz B) ((hz B) + 1) z T 0 h' ->
   (∀c o,B.heap.get? c=U o->h'.get? c=U o)->Q (.ref ((hz B)+4)) {B with heap:=h'}) :
  wpAny (model prog w) N (call (.type "zip") [.ref z,.ref T]) Q Y B:=by
 refine callType_new F.called_zip f5 (F.typeCall_zip_2 _ _) (F.newCall_zip_2 _ _) (λobj=>F.args_object_init_3 obj _ _) F.entry_zip_new (IY I k2 z T b7 ys) ⟨p,q,?_⟩
 have g:(SK I B.heap z).objs.size=(hz B)+1:=gL ..;have f:(SJ I k2 B.heap z T).objs.size=(hz B)+2:=by rw[gL,g]
 have i:(SI I k2 B.heap z T).objs.size=(hz B)+3:=by rw[gL,f]
 have j:(SH I k2 B.heap z T).objs.size=(hz B)+4:=by rw[gL,i]
 have e:(Gg I k2 B.heap z T).get? (SH I k2 B.heap z T).objs.size=U _:=U1 _ rfl;have l:(Gg I k2 B.heap z T).get? (SI I k2 B.heap z T).objs.size=U _:=F8 _ (U1 _ rfl);have k:(Gg I k2 B.heap z T).get? (SJ I k2 B.heap z T).objs.size=U _:=F8 _ (F8 _ (U1 _ rfl));have n:(pB k2 T).isFreed=U':=by cases k2<;>rfl
 have t:(pB I z).isFreed=U':=by cases I<;>rfl
 have m:(Gg I k2 B.heap z T).get? (SK I B.heap z).objs.size=U _:=F8 _ (F8 _ (F8 _ (U1 _ n)));have r:(Gg I k2 B.heap z T).get? (hz B)=U _:=F8 _ (F8 _ (F8 _ (F8 _ (U1 _ t))));rw[f,i,j]at e;rw[g,f]at k;rw[i]at l;rw[g]at m;rw[j];exact⟨⟨_,e,rfl⟩,h _ ⟨e,k,⟨_,_,l⟩,.new r,.new m⟩ λc o x =>
  F8 _ (F8 _ (F8 _ (F8 _ (F8 _ x))))⟩
end
def OH(n:Nat):a0i (n+4) (n+2) (n+3) n (n+1):=by constructor<;>(show @Ne Nat _ _)<;>simp[*]
def Inv.aZ(X:Inv c b8 D H B)(h:fL I c.K H z L):∃b:List j5,jP I B.heap z b.toArray:=by
 cases I;obtain⟨b,_,p,_⟩:=X.list h;exact⟨b,p.isList⟩;obtain⟨b,_,p,_⟩:=X.tuple h;exact⟨b,p⟩
section
variable{Q:VK}
end
structure Bt(m:Nat)(i:Int):Prop where
 lt:i.natAbs<2 ^ m
def Bt.mono{n:Nat}(h:Bt m a6)(a:m<=n):Bt n a6:=⟨J4 h.lt (yx f5 a)⟩
def Bt.of_le{j:Int}(h:Bt m j)(a:a6.natAbs<=j.natAbs):Bt m a6:=⟨kS a h.lt⟩
def Bt.neg(h:Bt m a6):Bt m (-a6):=h.of_le o9
def Bt.mul{n:Nat}{j:Int}(h:Bt m a6)(h':Bt n j):Bt (m+n) (a6*j):=⟨by
 rw[cj,Nat.pow_add];exact Nat.mul_lt_mul'' h.lt h'.lt⟩
def Bt.add{j:Int}(h:Bt m a6)(h':Bt m j):Bt (m+1) (a6+j):=⟨by
 have:=h.lt;have:=h'.lt;omega⟩
def Bt.sub{j:Int}(h:Bt m a6)(h':Bt m j):Bt (m+1) (a6-j):=by exact h.add h'.neg
theorem Bt.fdiv{j:Int}(h:Bt m a6):Bt m (a6.fdiv j):=h.of_le (NP a6 j)
def Bt.small(b : -(2 ^ 62)<a6)(a:a6<2 ^ 62):Bt 62 a6:=⟨by omega⟩
def Bt.a0Z{n:Nat}{j:Int}(h:Bt m a6)(h':Bt n j)(a:m+n<=134217728):IntMulOk a6 j:=IntMulOk.of_le (intBits_le_iff.mpr h.lt) (intBits_le_iff.mpr h'.lt) a
section
variable{X:Cx}
def VN:S8 X (V6 .Mult) (rI (λi j=>Bt 60000 i/\Bt 60000 j) λi j=>.int (i*j)):=Ln λi j _ _ _ _ _ a q=>mul_int q (a.1.a0Z a.2 f5)
def QO:S8 X (V6 .FloorDiv) (rI (λ_ j=>j≠0/\Bt 8000 j) λi j=>.int (i.fdiv j)):=Ln λi j _ _ _ _ _ a q=>floordiv_int a.1 q (.inl (PyProof.noPylong_of_log2 (by
 have b:j.natAbs≠0:=by have:=a.1;simp[*]
 have:=(Nat.log2_lt b).mpr a.2.lt;exact ju)))
def fnD(nm:Str):f7:=.dict [(.str nm,.none)]
def a2y:Str:=⟨#[0]⟩
def zG(nm:Str)(ns:List Str)(l:List f7):f7:=.dict [(.tuple [.str nm,.list (ns.map .str)],.tuple l)]
def Ju(ks:List Str)(l:List f7):f7:=.dict [(.list (ks.map .str),.tuple l)]
noncomputable def aP:Key->f7
 | .inl i=>.int i
 | .inr x=>.str x
def G8(k:List Key):f7:=.dict [(.list (k.map aP),.none)]
def vT(ks:List (List Key))(l:List f7):f7:=.dict [(.list (ks.map λk=>.tuple (k.map aP)),.list l)]
mutual
inductive Dt(K:n6)(H:Hp):V->f7->Prop
 |non:Dt K H .non .none
 |bl (b):Dt K H (.bl b) (.bool b)
 |int (i):Dt K H (.int i) (.int i)
 |str (x):Dt K H (.str x) (.str x)
 |tup {a xs ds}:T9 K H a xs->u5 K H xs ds->Dt K H (.ref a) (.tuple ds)
 |lst {a xs ds}:K6 K H a xs->u5 K H xs ds->Dt K H (.ref a) (.list ds)
 |exc {ea C dx fld v d}:a0o K C->ai K (.ref C) fld=U J->H ea=U (.ext (ExcAt ea C dx))->H dx=U (.xd [(fld,v)])->Dt K H v d->Dt K H (.ref ea) (RK C fld d)
 |fn {f nm}:(eY K X2 nm=U (U (.ref f))\/nm=a2y)->Dt K H (.ref f) (fnD nm)
 |ins {a C dx fv nm ns vs l}:eY K X2 nm=U (U (.ref C))->H a=U (.ins C dx fv)->fv=ns.zip vs->u5 K H vs l->Dt K H (.ref a) (zG nm ns l)
 |key {a k}:H a=U (.tup (k.map kV))->Dt K H (.ref a) (G8 k)
 |dtt {a kvs ks vs l}:H a=U (.dT kvs)->ks.length=vs.length->kvs=ks.zip vs->u5 K H vs l->Dt K H (.ref a) (vT ks l)
 |dct {a kvs ks vs l}:H a=U (.dK kvs)->kvs=(ks.map gm).zip vs->u5 K H vs l->Dt K H (.ref a) (Ju ks l)
inductive u5(K:n6)(H:Hp):List V->List f7->Prop
 |nil:u5 K H [] []
 |cons {x xs d ds}:Dt K H x d->u5 K H xs ds->u5 K H (x::xs) (d::ds)
end
def m3.fP(e:m3 H q)(h:T9 g H z L):T9 g q z L:=by
 rcases h with (h|⟨o,h⟩)|h
 exact .inl (.inl (e _ _ h));exact .inl (.inr ⟨o,e _ _ h⟩);exact .inr h
def m3.new{o:HO}(h:H z=J):m3 H (upd H z o):=λb u e=>by rw[E3 (W8 e h)];exact e
mutual
theorem Dt.same{K:n6}{H H':Hp}(e:m3 H H'){x:V}{d:f7}(h:Dt K H x d):Dt K H' x d:=by
 cases h with
 |non=>exact .non
 |bl b=>exact .bl b
 |int i=>exact .int i
 |str x=>exact .str x
 |tup h t=>exact .tup (e.fP h) (u5.same e t)
 |lst h t=>exact .lst (e.seq h) (u5.same e t)
 |exc c n a f t=>exact .exc c n (e _ _ a) (e _ _ f) (Dt.same e t)
 |fn h=>exact .fn h
 |ins a f g t=>exact .ins a (e _ _ f) g (u5.same e t)
 |dct a f t=>exact .dct (e _ _ a) f (u5.same e t)
 |key h=>exact .key (e _ _ h)
 |dtt a f g t=>exact .dtt (e _ _ a) f g (u5.same e t)
theorem u5.same{K:n6}{H H':Hp}(e:m3 H H'){xs:List V}{ds:List f7}(h:u5 K H xs ds):u5 K H' xs ds:=by
 cases h with
 |nil=>exact .nil
 |cons h t=>exact .cons (Dt.same e h) (u5.same e t)
end
theorem u5.length{K:n6}{H:Hp}{xs:List V}{ds:List f7}(h:u5 K H xs ds):xs.length=ds.length:=by
 induction ds generalizing xs with
 |nil=>cases h;rfl
 |cons _ _ i=>cases h with
  |cons _ t=>exact r9 (· + 1) (i t)
def u5.get{i:Nat}(h:u5 g H L P)(e:P[i]? = U c9):∃x,L[i]? = U x/\Dt g H x c9:=by
 induction P generalizing L i with
 |nil=>exact nE e
 |cons _ _ j=>cases h with
  |cons a t=>cases i with
   |zero=>cases e;exact⟨_,rfl,a⟩
   |succ i=>exact(j (i:=i) t e :)
mutual
theorem Inv.reads{pins:List (Addr×Obj)}{m:St}{H:Hp}{s:l5}(I:Inv X pins m H s){x:V}{u:j5}{d:f7}(h:Dt X.K H x d)(r:RelV x u)(a:d.canLay0=Uf):∃as,Reads s.heap u d as:=by
 cases h with
 |non=>cases r;exact⟨_,.none⟩
 |bl b=>cases r;exact⟨_,.bool b⟩
 |int i=>obtain⟨t,rfl⟩:=r;exact⟨_,.int i t⟩
 |str y=>obtain⟨t,rfl⟩:=r;exact⟨_,.str y t⟩
 |tup h t =>
  cases r;obtain⟨g,k,⟨o,e,c,n,f⟩,_⟩:=I.tuple h;obtain⟨as,j⟩:=Inv.readsAll I t k (by assumption);exact⟨_,.tuple e c f (by omega)⟩
 |lst h t =>
  cases r;obtain⟨g,k,l,_⟩:=I.list h;obtain⟨o,e,c,n,f⟩:=l.isList;obtain⟨as,j⟩:=Inv.readsAll I t k (by assumption);exact⟨_,.list e c f (by omega)⟩
 |exc _ _ _ _ _=>rw[RK,iQ]at a;exact nT a
 |fn _=>rw[fnD,iQ]at a;exact nT a
 |ins _ _ _ _=>rw[zG,iQ]at a;exact nT a
 |dct _ _ _=>rw[Ju,iQ]at a;exact nT a
 |key _=>rw[G8,iQ]at a;exact nT a
 |dtt _ _ _ _=>rw[vT,iQ]at a;exact nT a
theorem Inv.readsAll{pins:List (Addr×Obj)}{d:St}{H:Hp}{s:l5}(I:Inv X pins d H s){xs:List V}{us:List j5}{ds:List f7}(h:u5 X.K H xs ds)(r:Vals xs us)(a:fE ds=Uf):∃as,ReadsAll s.heap us ds as:=by
 cases h with
 |nil=>cases r;exact⟨_,.nil⟩
 |cons h t =>
  cases r with
  |cons r e =>
   rw[fE,tG]at a;obtain⟨as,b⟩:=Inv.reads I h r a.1;obtain⟨bs,c⟩:=Inv.readsAll I t e a.2;exact⟨_,.cons b c⟩
end
def YT(g:X.A.units+64<N6):S8 X (Z0 .Eq) (λx y H Q=>∃d e,Dt X.K H x d/\Dt X.K H y e/\ah d=Uf/\ah e=Uf/\Q (.bl (U0 d e)) H):=by intro b s o H x y v u Q I j i h;obtain⟨d,e,l,m,c,a,q⟩:=h;obtain⟨n,f⟩:=I.reads l j (yz c);obtain⟨bs,k⟩:=I.reads m i (yz a);exact eq_dataH f k c a g ⟨.bl _,H,I,rfl,q⟩
def YO(g:X.A.units+64<N6):S8 X (Z0 .NotEq) (λx y H Q=>∃d e,Dt X.K H x d/\Dt X.K H y e/\ah d=Uf/\ah e=Uf/\Q (.bl (!PyData.eqv d e)) H):=by intro b s o H x y v u Q I j i h;obtain⟨d,e,l,m,c,a,q⟩:=h;obtain⟨n,f⟩:=I.reads l j (yz c);obtain⟨bs,k⟩:=I.reads m i (yz a);exact ne_dataH f k c a g ⟨.bl _,H,I,rfl,q⟩
end
section
variable{prog:H9}{w:x5}
def Be{f:j5}{lo i:Option Int}{Q:j5->l5->Prop}(a:gi B.heap z b7)(hs:B.heap.IsSliceOf T b6 f .none)(pl:gj b6 lo)(k:gj f i)(j:HT.K9 b7.size 0 lo=0/\HT.K9 b7.size b7.size i=b7.size)(h:Q (.ref z) B):wpAny (model prog w) N (gk (.ref z) (.ref T)) Q Y B:=by
 obtain⟨l,d,c,m⟩:=id hs;have b:B.TypeIs (.ref T) "slice":=⟨l,d,c⟩;delta gk;try with_reducible refine gx ?_
 first|refine l8 (p4 ?_)|skip
 refine l8 (wpAny_sequenceKey a.typeIs f5 ?_);refine l8 (lL a.typeIs yJ (jd yJ a.typeIs entry_tuple_getitem ?_ (args_tuple_getitem _ _)));show wpAny _ _ (Ov (.ref z) >>= _) _ _ B;refine l8 (tupleItemsOf_ a (l8 (sY b ?_)));refine l8 (HT.mz hs pl k ?_);rw[j.1,j.2];show wpAny _ _ (if ((0)==0&&1==1&&(b7.size-0)==b7.size)=Uf then _ else _) _ _ B
 rw[j2 t7];refine l8 (l8 (sY a.typeIs (p4 ?_)));first
  |exact l8 (mZ (l8 (p4 ⟨_,rfl,p4 h⟩)))
  |exact l8 (mZ (p4 ⟨_,rfl,p4 h⟩))
  |exact l8 (mZ (l8 (p4 (p4 ⟨_,rfl,p4 h⟩))))
def WC{ws:List j5}{Q:j5->l5->Prop}(x:gi B.heap z d8.toArray)(u:gi B.heap T ws.toArray)(m:d8=[])(h:Q (.ref T) B):wpAny (model prog w) N (V6 .Add (.ref z) (.ref T)) Q Y B:=by
 obtain⟨⟨v,q,k,r⟩,i,l,n,o⟩:=id x;obtain⟨⟨j,e,g,c⟩,a,f,p,d⟩:=id u;subst l o f d;exact xY ⟨_,i,rfl⟩ ⟨_,a,rfl⟩ EF Eg Fg Fj (Fq _ _)
  (tuple_addW0 z T d8.toArray ws.toArray n p q e r c (by simp[m])) ⟨i,a,h⟩
end
inductive PF where
 |dat (d:f7)
 |own (l:List f7)
 |dct (es:List (Str×f7))
variable{c7:List (Str×PF)}
inductive OD where
 |dct (es:List (Str×f7))
 |ins (nm:Str) (fs:List (Str×PF))
 |seq (b:Bool) (fs:List (Str×PF))
inductive PV where
 |dat (d:f7)
 |own (l:List f7)
 |ob (w:Option Addr) (c:OD)
variable{d2:PV}{i3:f7->f7->Option PV}
abbrev sd(d:f7):Option PV:=U (.dat d)
noncomputable def PF.d:PF->f7
 | .dat d=>d
 | .own l=>.list l
 | .dct es=>Ju (es.map (·.1)) (es.map (·.2))
noncomputable def OD.d:OD->f7
 | .dct es=>Ju (es.map (·.1)) (es.map (·.2))
 | .ins nm fs=>zG nm (fs.map (·.1)) (fs.map λf=>f.2.d)
 | .seq Uf fs=>.list (fs.map λf=>f.2.d)
 | .seq U' fs=>.tuple (fs.map λf=>f.2.d)
def PV.d:PV->f7
 | .dat d=>d
 | .own l=>.list l
 | .ob _ c=>c.d
@[simp] theorem PV.uK(d:f7):(PV.dat d).d=d:=rfl
@[simp] theorem PV.Jv(l:List f7):(PV.own l).d=.list l:=rfl
abbrev Ds:=List (Option PV)
variable{G:Ds}{i4:List PV->Option (PV×Ds)}
abbrev DV:=Ds->Option PV
variable{r:DV}
abbrev DB:=Ds->Option Bool
variable{a8:DB}
abbrev DL:=Ds->Option (List f7)
variable{S:DL}
abbrev DD:=Ds->Option Ds
variable{i8:f7->DD}
abbrev FV:=List f7->Option PV
variable{d3:FV}
abbrev As:=List (Option Addr)
variable{y:As}
def p7(H:Hp)(as:As)(O:List Addr):Hp:=λb=>if b∈O\/U b∈as then J else H b
set_option tactic.hygienic true in
def A0{o:HO}:p7 H y O z=U o↔(z∉O/\U z∉y/\H z=U o):=by
 delta p7;split;rename_i h;constructor;intro b;exact nE b;rintro⟨a,c,_⟩;exact(h.elim a c).elim;rename_i h;constructor;intro b;exact⟨λq=>h (.inl q),λq=>h (.inr q),b⟩;rintro⟨_,_,b⟩;exact b
def eR{a:As}{c:List Addr}(e:∀b o,b∉O->U b∉y->H b=U o->b∉c/\U b∉a/\q b=U o):m3 (p7 H y O) (p7 q a c):=λb o h=>by obtain⟨d,f,g⟩:=A0.mp h;exact A0.mpr (e b o d f g)
def L0(e:m3 H q):m3 (p7 H y O) (p7 q y O):=eR λb o a c d=>⟨a,c,e b o d⟩
def Y7{a:As}(e:m3 H q)(h:∀b,U b∈a->U b∈y):m3 (p7 H y O) (p7 q a O):=eR λb o c d f=>⟨c,λz=>d (h b z),e b o f⟩
def t9:m3 (p7 H y O) H:=λb o h=>(A0.mp h).2.2
def pG{bs:As}:p7 H (bs++y) O=p7 H bs (O++y.filterMap id):=by
 funext b
 delta p7;have:(b∈O\/U b∈bs++y)↔(b∈O++y.filterMap id\/U b∈bs):=by
  simp only[ja,EN];constructor;rintro(h|h|h);exact .inl (.inl h);exact .inr h;exact .inl (.inr ⟨_,h,rfl⟩);rintro((h|⟨x,h,e⟩)|h);exact .inl h;subst e;exact .inr (.inr h);exact .inr (.inl h)
 by_cases c:b∈O\/U b∈bs++y;rw[j2 c,j2 (this.mp c)];rw[j1 c,j1 (λz=>c (this.mpr z))]
def Cell(u:HO):Prop:=(∃xs,u=.lst xs)\/(∃kvs,u=.dK kvs)\/∃C dx fv,u=.ins C dx fv
abbrev Cl:={u:HO // Cell u}
def Cl.l(xs:List V):Cl:=⟨.lst xs,.inl ⟨xs,rfl⟩⟩
def Cl.d(kvs:List (Key×V)):Cl:=⟨.dK kvs,.inr (.inl ⟨kvs,rfl⟩)⟩
def Cl.i(C dx:Addr)(fv:List (Str×V)):Cl:=⟨.ins C dx fv,.inr (.inr ⟨C,dx,fv,rfl⟩)⟩
def Fw(K:n6)(Hv:Hp):List (Key×V)->List (Str×f7)->Prop:=Paired λ(p:Key×V) (q:Str×f7)=>p.1=.inr q.1/\Dt K Hv p.2 q.2
theorem Fw.same{K:n6}{H H':Hp}{a:List (Key×V)}{es:List (Str×f7)}(e:m3 H H')(h:Fw K H a es):Fw K H' a es:=by
 induction h with
 |nil=>exact .nil
 |cons h t b=>exact .cons ⟨h.1,h.2.same e⟩ b
inductive L4(K:n6)(Hv H:Hp):List (Str×V)->List (Str×PF)->List Addr->Prop
 |nil:L4 K Hv H [] [] []
 |dat {n x d fv fs R}:Dt K Hv x d->L4 K Hv H fv fs R->L4 K Hv H ((n,x)::fv) ((n,.dat d)::fs) R
 |own {n a xs l fv fs R}:H a=U (.lst xs)->u5 K Hv xs l->a∉R->L4 K Hv H fv fs R->L4 K Hv H ((n,.ref a)::fv) ((n,.own l)::fs) (a::R)
 |dct {n a kvs es fv fs R}:H a=U (.dK kvs)->Fw K Hv kvs es->a∉R->L4 K Hv H fv fs R->L4 K Hv H ((n,.ref a)::fv) ((n,.dct es)::fs) (a::R)
def lu(K:n6)(Hv H:Hp)(v:Addr)(R:List Addr):OD->Prop
 | .dct es=>∃kvs,R=[v]/\H v=U (.dK kvs)/\Fw K Hv kvs es
 | .ins nm fs=>∃C dx fv R',R=v::R'/\eY K X2 nm=U (U (.ref C))/\H v=U (.ins C dx fv)/\L4 K Hv H fv fs R'
 | .seq Uf fs=>∃fv R',R=v::R'/\v∉R'/\H v=U (.lst (fv.map (·.2)))/\L4 K Hv H fv fs R'
 | .seq U' fs=>∃fv,Hv v=U (.tup (fv.map (·.2)))/\L4 K Hv H fv fs R
section
variable{K:n6}
theorem L4.same{Hv:Hp}{Hv':Hp}{H:Hp}{H':Hp}{R:List Addr}{fv:List (Str×V)}{fs:List (Str×PF)}(e:m3 Hv Hv')(h:L4 K Hv H fv fs R):(∀b∈R,∀o,H b=U o->H' b=U o)->L4 K Hv' H' fv fs R:=by
 induction h with
 |nil=>exact λ_=>.nil
 |dat j t c=>exact λa=>.dat (j.same e) (c a)
 |own f g i t c=>exact λa=>.own (a _ v8 _ f) (g.same e) i (c λb d=>a b (u7 _ d))
 |dct f g i t c=>exact λa=>.dct (a _ v8 _ f) (g.same e) i (c λb d=>a b (u7 _ d))
def L4.at(h:L4 K q H e9 c7 O):∀b∈O,∃u:HO,((∃xs,u=.lst xs)\/∃e,u=.dK e)/\H b=U u:=by
 induction h with
 |nil=>exact λb a=>absurd a t7
 |dat i t c=>exact c
 |own d f g t c =>
  intro b a;rcases List.mem_cons.mp a with rfl|a
  exact⟨_,.inl ⟨_,rfl⟩,d⟩;exact c b a
 |dct d f g t c =>
  intro b a;rcases List.mem_cons.mp a with rfl|a
  exact⟨_,.inr ⟨_,rfl⟩,d⟩;exact c b a
theorem lu.same{Hv:Hp}{Hv':Hp}{H:Hp}{H':Hp}{v:Addr}{R:List Addr}{c:OD}(e:m3 Hv Hv')(f:∀b∈R,∀o,H b=U o->H' b=U o)(h:lu K Hv H v R c):lu K Hv' H' v R c:=by
 cases c with
 |dct n=>obtain⟨k,rfl,a,d⟩:=h;exact⟨k,rfl,f _ v8 _ a,d.same e⟩
 |ins p fs =>
  obtain⟨C,m,g,l,rfl,j,a,d⟩:=h;exact⟨C,m,g,l,rfl,j,f _ v8 _ a,d.same e λb i=>f b (u7 _ i)⟩
 |seq b fs =>
  cases b with
  |true =>
   obtain⟨g,l,rfl,j,a,d⟩:=h;exact⟨g,l,rfl,j,f _ v8 _ a,d.same e λb i=>f b (u7 _ i)⟩
  |false=>obtain⟨g,a,d⟩:=h;exact⟨g,e _ _ a,d.same e f⟩
theorem lu.at{Hv:Hp}{H:Hp}{v:Addr}{R:List Addr}{c:OD}(h:lu K Hv H v R c):∀b∈R,∃u:Cl,H b=U u.1:=by
 cases c with
 |dct q =>
  obtain⟨n,rfl,j,f⟩:=h;intro b a;rw[mem_singleton.mp a];exact⟨Cl.d n,j⟩
 |ins r fs =>
  obtain⟨C,o,k,m,rfl,p,j,f⟩:=h;intro b a;rcases List.mem_cons.mp a with rfl|a
  exact⟨Cl.i C o k,j⟩;obtain⟨u,h|h,e⟩:=f.at b a;exact⟨⟨u,.inl h⟩,e⟩;exact⟨⟨u,.inr (.inl h)⟩,e⟩
 |seq t fs =>
  have g:∀{k m},L4 K Hv H k fs m->∀b∈m,∃u:Cl,H b=U u.1:=λf b a=>by
   obtain⟨u,h|h,e⟩:=f.at b a;exact⟨⟨u,.inl h⟩,e⟩;exact⟨⟨u,.inr (.inl h)⟩,e⟩
  cases t with
  |true =>
   obtain⟨k,m,rfl,p,j,f⟩:=h;intro b a;rcases List.mem_cons.mp a with rfl|a
   exact⟨Cl.l _,j⟩;exact g f b a
  |false=>obtain⟨k,j,f⟩:=h;exact g f
def Hh{a:List (Key×V)}{es:List (Str×f7)}(h:Fw K H a es):a=((es.map (·.1)).map gm).zip (a.map (·.2))/\u5 K H (a.map (·.2)) (es.map (·.2)):=by
 induction h with
 |nil=>exact⟨rfl,.nil⟩
 | @cons p q c d h t b =>
  refine⟨?_,.cons h.2 b.2⟩;rw[v5,v5,v5,jW,<-b.1,<-h.1]
def L4.ZW{Hv':Hp}(h:L4 K q H e9 c7 O)(e:m3 q Hv')(a:∀b∈O,∀o,H b=U o->Hv' b=U o):e9=(c7.map (·.1)).zip (e9.map (·.2))/\u5 K Hv' (e9.map (·.2)) (c7.map λf=>f.2.d):=by
 induction h with
 |nil=>exact⟨rfl,.nil⟩
 |dat p t c =>
  obtain⟨g,i⟩:=c a;refine⟨?_,.cons (p.same e) i⟩;rw[v5,v5,jW,<-g]
 |own l j n t c =>
  obtain⟨g,i⟩:=c λb k=>a b (u7 _ k);refine⟨?_,.cons (.lst (K6.of (a _ v8 _ l)) (j.same e)) i⟩;rw[v5,v5,jW,<-g]
 |dct l j n t c =>
  obtain⟨g,i⟩:=c λb k=>a b (u7 _ k);obtain⟨m,k2⟩:=Hh j;refine⟨?_,.cons (.dct (a _ v8 _ l) m (k2.same e)) i⟩;rw[v5,v5,jW,<-g]
def lu.dt{Hv':Hp}{c:OD}(h:lu K q H z O c)(e:m3 q Hv')(g:∀b∈O,∀o,H b=U o->Hv' b=U o):Dt K Hv' (.ref z) c.d:=by
 cases c with
 |dct v =>
  obtain⟨m,rfl,a,f⟩:=h;obtain⟨i,k2⟩:=Hh f;exact .dct (g _ v8 _ a) i (k2.same e)
 |ins r fs =>
  obtain⟨C,p,k,n,rfl,l,a,f⟩:=h;obtain⟨i,k2⟩:=f.ZW e λb j=>g b (u7 _ j);exact .ins l (g _ v8 _ a) i k2
 |seq b fs =>
  cases b with
  |true =>
   obtain⟨k,n,rfl,l,a,f⟩:=h;obtain⟨i,k2⟩:=f.ZW e λb j=>g b (u7 _ j);exact .lst (K6.of (g _ v8 _ a)) k2
  |false =>
   obtain⟨k,a,f⟩:=h;obtain⟨i,k2⟩:=f.ZW e g;exact .tup (T9.of (e _ _ a)) k2
end
def bD(K:n6)(O:List Addr)(as:As)(H:Hp)(si:Option (Option V))(rg:List Addr):PV->Prop
 | .dat d=>∃v,si=U (U v)/\Dt K (p7 H as O) v d
 | .own l=>∃a xs,si=U (U (.ref a))/\a∈rg/\H a=U (.lst xs)/\u5 K (p7 H as O) xs l
 | .ob w c=>∃v R,si=U (U (.ref v))/\(w=J\/w=U v)/\(∀b∈R,b∈rg)/\lu K (p7 H as O) H v R c
structure DS(K:n6)(O:List Addr)(u3:Hp)(as:As)(σ:St)(H:Hp)(ds:Ds):Prop where
 ls:σ.length=ds.length
 same:m3 u3 H
 new:∀a,U a∈as->u3 a=J/\∃u:Cl,H a=U u.1
 ee:∀a∈O,∃o,u3 a=U o
 fX:∃rg:Nat->List Addr,(∀i b,b∈rg i->U b∈as)/\(∀i j b,b∈rg i->b∈rg j->i=j)/\∀(i:Nat) (pv:PV),ds[i]? = U (U pv)->bD K O as H σ[i]? (rg i) pv
def JJ(K:n6)(O:List Addr)(as:As)(H:Hp)(si:Option (Option V)):PV->Prop
 | .dat d=>∃v,si=U (U v)/\Dt K (p7 H as O) v d
 | .own l=>∃a xs,si=U (U (.ref a))/\U a∈as/\H a=U (.lst xs)/\u5 K (p7 H as O) xs l
 | .ob w c=>∃v R,si=U (U (.ref v))/\(w=J\/w=U v)/\(∀b∈R,U b∈as)/\lu K (p7 H as O) H v R c
def DS.slot(S:DS g O q y D H G)(i:Nat)(pv:PV)(h:G[i]? = U (U pv)):JJ g O y H D[i]? pv:=by
 obtain⟨r,j,k,n⟩:=S.fX;have z:=n i pv h;cases pv with
 |dat d=>exact z
 |own l=>obtain⟨a,m,e,K,f⟩:=z;exact⟨a,m,e,j i a K,f⟩
 |ob w c=>obtain⟨v,R,e,K,f,p⟩:=z;exact⟨v,R,e,K,λb o=>j i b (f b o),p⟩
def bD.Ao{bs:As}{p:Option (Option V)}{k K:List Addr}(h:bD g O y H p k d2)(e:m3 (p7 H y O) (p7 q bs O))(n:∀b∈k,∀o,H b=U o->q b=U o)(s:∀b∈k,b∈K):bD g O bs q p K d2:=by
 cases d2 with
 |dat d=>obtain⟨v,f,z⟩:=h;exact⟨v,f,z.same e⟩
 |own l=>obtain⟨a,r,f,j,i,z⟩:=h;exact⟨a,r,f,s a j,n a j _ i,z.same e⟩
 |ob w c=>obtain⟨v,R,f,j,i,z⟩:=h;exact⟨v,R,f,j,λb m=>s b (i b m),z.same e λb m=>n b (i b m)⟩
def X4(fr:Bool)(as:As):As:=if fr=Uf then as else[]
def oT(h:U z∈X4 I y):U z∈y:=by
 unfold X4 at h
 simp_all
def RX(K:n6)(O:List Addr)(va:As)(H H':Hp)(v:V):PV->Prop
 | .dat d=>Dt K (p7 H' va O) v d
 | .own l=>∃a xs,v=.ref a/\H a=J/\H' a=U (.lst xs)/\u5 K (p7 H' (U a::va) O) xs l
 | .ob w c=>∃o R,v=.ref o/\(w=J\/w=U o)/\(∀b∈R,H b=J)/\lu K (p7 H' (R.map U++va) O) H' o R c
structure qm(H:Hp)(va:As)(O:List Addr):Prop where
 o:∀a∈O,∃u,H a=U u
 a:∀a,U a∈va->∃u,H a=U u
section
variable{K:n6}
def qm.same(D:qm H y O)(e:m3 H q):qm q y O:=⟨λa h=>let ⟨u,z⟩:=D.o a h;⟨u,e _ _ z⟩,λa h=>let ⟨u,z⟩:=D.a a h;⟨u,e _ _ z⟩⟩
def DS.dm{fr:Bool}(S:DS K O q y D H G):qm H (X4 fr y) O:=⟨λa h=>let ⟨u,z⟩:=S.ee a h;⟨u,S.same _ _ z⟩,λa h=>let ⟨_,z⟩:=(S.new a (oT h)).2;⟨_,z⟩⟩
def DS.nO(S:DS K O q y D H G)(h:U z∈y):z∉O:=λσ=>by obtain⟨o,e⟩:=S.ee z σ;rw[(S.new z h).1]at e;exact nE e
def DS.grow{H':Hp}(S:DS K O q y D H G)(e:m3 H H'):DS K O q y D H' G :=
 ⟨S.ls,S.same.trans e,λa h=>⟨(S.new a h).1,let ⟨o,z⟩:=(S.new a h).2;⟨o,e _ _ z⟩⟩,S.ee,let ⟨d,g,c,f⟩:=S.fX;⟨d,g,c,λi pv h=>(f i pv h).Ao (L0 e) (λb _ o z=>e _ _ z) λ_ z=>z⟩⟩
def RX.grow{H2:Hp}(h:RX K O y H q a7 d2)(e:m3 q H2):RX K O y H H2 a7 d2:=by
 cases d2 with
 |dat d=>exact Dt.same (L0 e) h
 |own l=>obtain⟨a,j,g,f,i,h⟩:=h;exact⟨a,j,g,f,e _ _ i,h.same (L0 e)⟩
 |ob w c=>obtain⟨o,R,g,f,i,h⟩:=h;exact⟨o,R,g,f,i,h.same (L0 e) λb _ u z=>e _ _ z⟩
def RX.back{H2:Hp}(h:RX K O y H q a7 d2)(e:m3 H2 H):RX K O y H2 q a7 d2:=by
 cases d2 with
 |dat d=>exact h
 |own l=>obtain⟨a,j,g,f,i,h⟩:=h;exact⟨a,j,g,e.free f,i,h⟩
 |ob w c=>obtain⟨o,R,g,f,i,h⟩:=h;exact⟨o,R,g,f,λb k=>e.free (i b k),h⟩
def lu.X4{R:List Addr}{c:OD}(h:lu K (p7 H (R.map U++y) O) H z R c)(n:∀b∈R,b∉O/\U b∉y):Dt K (p7 H y O) (.ref z) c.d :=
 h.dt (Y7 (m3.refl _) λb o=>F4 _ o) λb a u o=>A0.mpr ⟨(n b a).1,(n b a).2,o⟩
def RX.dt(h:RX K O y H q a7 d2)(D:qm H y O):Dt K (p7 q y O) a7 d2.d:=by
 have f:∀a,H a=J->a∉O/\U a∉y:=λa e=>by
  refine⟨λz=>?_,λz=>?_⟩;obtain⟨u,z⟩:=D.o a z;lia;obtain⟨u,z⟩:=D.a a z;lia
 cases d2 with
 |dat d=>exact h
 |ob w c=>obtain⟨o,R,rfl,_,g,h⟩:=h;exact h.X4 λb i=>f b (g b i)
 |own l =>
  obtain⟨a,j,rfl,e,g,h⟩:=h;exact .lst (K6.of (A0.mpr ⟨(f a e).1,(f a e).2,g⟩)) (h.same (Y7 (m3.refl _) λb z=>u7 _ z))
def RX.less{g:As}(h:RX K O y H q a7 d2)(s:∀b,U b∈g->U b∈y):RX K O g H q a7 d2:=by
 cases d2 with
 |dat d=>exact Dt.same (Y7 (m3.refl _) s) h
 |ob w c =>
  obtain⟨o,R,rfl,e,f,h⟩:=h;refine⟨o,R,rfl,e,f,h.same (Y7 (m3.refl _) λb z=>?_) (λ_ _ _ z=>z)⟩
  rcases List.mem_append.mp z with z|z
  exact P9 _ z;exact F4 _ (s b z)
 |own l =>
  obtain⟨a,i,rfl,e,f,h⟩:=h;refine⟨a,i,rfl,e,f,h.same (Y7 (m3.refl _) λb z=>?_)⟩
  rcases List.mem_cons.mp z with z|z
  rw[z];exact v8;exact u7 _ (s b z)
def fm:m3 (p7 H y O) (p7 H (X4 I y) O):=Y7 (m3.refl _) λ_ h=>oT h
def u5.append{ys:List V}{es:List f7}(h:u5 K H L P)(k:u5 K H ys es):u5 K H (L++ys) (P++es):=by
 induction P generalizing L with
 |nil=>cases h;exact k
 |cons _ _ i=>cases h with
  |cons a t=>exact .cons a (i t)
def u5.get'(h:u5 K H L P)(e:L[m]? = U a7):∃d,P[m]? = U d/\Dt K H a7 d:=by
 induction P generalizing L m with
 |nil=>cases h;exact nE e
 |cons _ _ j=>cases h with
  |cons a t=>cases m with
   |zero=>cases e;exact⟨_,rfl,a⟩
   |succ m=>exact j t e
theorem u5.take{H:Hp}:∀{xs:List V} {ds:List f7} (n:Nat),u5 K H xs ds->u5 K H (xs.take n) (ds.take n)
 |_,_,0,_=>by simp;exact .nil
 |_,_,_+1,.nil=>by simp;exact .nil
 |_,_,n+1,.cons h t=>by simp only[List.take_succ_cons];exact .cons h (u5.take n t)
theorem u5.drop{H:Hp}:∀{xs:List V} {ds:List f7} (n:Nat),u5 K H xs ds->u5 K H (xs.drop n) (ds.drop n)
 |_,_,0,h=>by simpa using h
 |_,_,_+1,.nil=>by simp;exact .nil
 |_,_,n+1,.cons h t=>by simp only[List.drop_succ_cons];exact u5.drop n t
theorem u5.reverse{H:Hp}{xs:List V}{ds:List f7}(h:u5 K H xs ds):u5 K H xs.reverse ds.reverse:=by
 induction ds generalizing xs with
 |nil=>cases h;exact .nil
 |cons _ _ i=>cases h with
  |cons a t =>
   rw[yo,yo];exact(i t).append (.cons a .nil)
theorem u5.set{H:Hp}{xs:List V}{ds:List f7}(i:Nat){x:V}{d:f7}(h:u5 K H xs ds)(k:Dt K H x d):u5 K H (xs.set i x) (ds.set i d):=by
 induction ds generalizing xs i with
 |nil=>cases h;exact .nil
 |cons _ _ j=>cases h with
  |cons a t=>cases i with
   |zero=>exact .cons k t
   |succ i=>exact .cons a (j i t)
end
def TX(K:n6)(fr:Bool)(te:TE)(F:DV):Prop :=
 ∀(O:List Addr) (u3:Hp) (as:As) (σ:St) (H:Hp) (ds:Ds) (pv:PV) (Q:VK),DS K O u3 as σ H ds->F ds=U pv->(∀v H',m3 H H'->RX K O (X4 fr as) H H' v pv->Q v H')->te σ H Q
structure PX(X:Cx)(fr:Bool)(e:Expr)(te:TE)(F:DV):Prop where
 p:PE X e te
 t:TX X.K fr te F
def rp(K:n6)(tt:TT)(F:DB):Prop :=
 ∀(O:List Addr) (u3:Hp) (as:As) (σ:St) (H:Hp) (ds:Ds) (b:Bool) (Q:Bool->Hp->Prop),DS K O u3 as σ H ds->F ds=U b->(∀H',m3 H H'->Q b H')->tt σ H Q
structure cR(X:Cx)(e:Expr)(tt:TT)(F:DB):Prop where
 p:PT X e tt
 t:rp X.K tt F
structure ow(X:Cx)(e:Expr)(tt:TT)(F:DB):Prop where
 p:PW X e tt
 t:rp X.K tt F
def TAX(K:n6)(fr:Bool)(t:TA)(F:DL):Prop :=
 ∀(O:List Addr) (u3:Hp) (as:As) (σ:St) (H:Hp) (ds:Ds) (l:List f7) (Q:List V->Hp->Prop),DS K O u3 as σ H ds->F ds=U l->(∀vs H',m3 H H'->u5 K (p7 H' (X4 fr as) O) vs l->Q vs H')->t σ H Q
structure cT(X:Cx)(fr:Bool)(es:List Expr)(t:TA)(F:DL):Prop where
 p:PA X es t
 t:TAX X.K fr t F
def dH(K:n6)(r:R2)(f:f7->f7->Option PV):Prop :=
 ∀(O:List Addr) (va:As) (H:Hp) (x y:V) (d e:f7) (pv:PV) (Q:VK),qm H va O->Dt K (p7 H va O) x d->Dt K (p7 H va O) y e->f d e=U pv->(∀v H',m3 H H'->RX K O va H H' v pv->Q v H')->r x y H Q
def R1X(K:n6)(r:V->Hp->VK->Prop)(f:f7->Option PV):Prop :=
 ∀(O:List Addr) (va:As) (H:Hp) (x:V) (d:f7) (pv:PV) (Q:VK),qm H va O->Dt K (p7 H va O) x d->f d=U pv->(∀v H',m3 H H'->RX K O va H H' v pv->Q v H')->r x H Q
def vi(K:n6)(r:List V->Hp->VK->Prop)(f:FV):Prop :=
 ∀(O:List Addr) (va:As) (H:Hp) (xs:List V) (ds:List f7) (pv:PV) (Q:VK),qm H va O->u5 K (p7 H va O) xs ds->f ds=U pv->(∀v H',m3 H H'->RX K O va H H' v pv->Q v H')->r xs H Q
noncomputable def j4(i:Nat):DV:=λds=>match ds[i]? with
 |some (U (.dat d))=>U (.dat d)
 |_=>J
noncomputable def P6(i:Nat):DV:=λds=>match ds[i]? with
 |some (U pv)=>U (.dat pv.d)
 |_=>J
noncomputable def fC(d:f7):DV:=λ_=>U (.dat d)
section
set_option tactic.hygienic true in
def XZ(i:Nat)(h:PE c e (G4 i)):PX c I e (G4 i) (j4 i):=⟨h,by
 intro O b k j H g pv Q S a q;unfold j4 at a;split at a;rename_i d f;cases a;obtain⟨v,X,h⟩:=S.slot i _ f;exact⟨v,X,q v H (m3.refl H) (h.same fm)⟩
 . exact nE a⟩
set_option tactic.hygienic true in
def UZ(i:Nat)(h:PE c e (G4 i)):PX c U' e (G4 i) (P6 i):=⟨h,by
 intro O m x y H t pv Q S g q;unfold P6 at g;split at g
 . rename_i d n;cases g;have k:=S.slot i _ n;cases d with
   |dat d =>
    obtain⟨v,f,h⟩:=k;exact⟨v,f,q v H (m3.refl H) (h.same fm)⟩
   |own l =>
    obtain⟨a,s,f,j,r,h⟩:=k;exact⟨_,f,q _ H (m3.refl H) (Dt.lst (K6.of (A0.mpr ⟨S.nO j,by simp[X4],r⟩)) (h.same fm))⟩
   |ob w X =>
    obtain⟨o,R,f,_,j,h⟩:=k;exact⟨_,f,q _ H (m3.refl H) (h.dt fm λb p u z=>A0.mpr ⟨S.nO (j b p),by simp[X4],z⟩)⟩
 . exact nE g⟩
def BY(h:PE c e (tC a7))(hd:∀H,Dt c.K H a7 c9):PX c I e (tC a7) (fC c9):=⟨h,by intro O a g f H X pv Q S b q;cases b;exact q a7 H (m3.refl H) (hd _)⟩
def Yj{j}:PX c I (.Constant (.int a6) j p) (tC (.int a6)) (fC (.int a6)):=BY YF λ_=>.int a6
def a0L{i:Bool}{j}:PX c I (.Constant (.bool i) j p) (tC (.bl i)) (fC (.bool i)):=BY a0Q λ_=>.bl i
def Yb{j}:PX c I (.Constant (.str o) j p) (tC (.str o)) (fC (.str o)):=BY Yz λ_=>.str o
def Yf{j}:PX c I (.Constant .none j p) (tC .non) (fC .none):=BY YD λ_=>.non
noncomputable def j8(f:f7->f7->Option PV)(Fa Fb:DV):DV:=λds=>(Fa ds).bind λx=>(Fb ds).bind λy=>f x.d y.d
def Bi{tb:TE}{Fb:DV}{f:R2}(p:dH c.K f i3)(s:PX c I e u r)(z:PX c I E tb Fb):TX c.K I (my f u tb) (j8 i3 r Fb):=by
 intro O X j k H i pv Q S a q;obtain⟨x,h1,a⟩:=j3 a;obtain⟨y,h2,a⟩:=j3 a;refine s.t O X j k H i x _ S h1 λv B g m=>?_;refine z.t O X j k B i y _ (S.grow g) h2 λb n h l=>?_;refine p O (X4 I j) n v b x.d y.d pv Q ((S.grow g).grow h).dm ((m.grow h).dt S.dm) (l.dt (S.grow g).dm) a λw C A o=>?_;exact q w C ((g.trans h).trans A) (o.back (g.trans h))
def nY{tb:TE}{Fa Fb:DV}{op:Operator}{r:R2}(g:S8 c (V6 op) r)(a:dH c.K r i3)(d:PX c I e u Fa)(X:PX c I E tb Fb):PX c I (.BinOp e op E p) (my r u tb) (j8 i3 Fa Fb) :=
 ⟨a0P g d.p X.p,Bi a d X⟩
def KI{tb:TE}{Fa Fb:DV}{op:CmpOp}{r:R2}(a:S8 c (Z0 op) r)(h:dH c.K r i3)(g:pY op E=U')(d:PX c I e u Fa)(X:PX c I E tb Fb):PX c I (.Compare e [op] [E] p) (my r u tb) (j8 i3 Fa Fb) :=
 ⟨VI a d.p X.p g,Bi h d X⟩
def a0J{tb:TE}{Fa Fb:DV}{r:R2}(g:vj c r)(a:dH c.K r i3)(d:PX c I e u Fa)(X:PX c I E tb Fb)(hs:ic E):PX c I (.Subscript e E p) (my r u tb) (j8 i3 Fa Fb) :=
 ⟨wN g d.p X.p hs,Bi a d X⟩
noncomputable def gg(f:f7->Option PV)(Fa:DV):DV:=λds=>(Fa ds).bind λx=>f x.d
def a0H{op:UnaryOp}{t:V->Hp->VK->Prop}{f:f7->Option PV}(n:Uh c (unaryOp op) t)(l:R1X c.K t f)(g:PX c I e u r):PX c I (.UnaryOp op e p) (tUn t u) (gg f r):=⟨a0N n g.p,by
 intro O b i s H h pv Q S X q;obtain⟨x,h1,X⟩:=j3 X;refine g.t O b i s H h x _ S h1 λv o a j=>?_;refine l O (X4 I i) o v x.d pv Q (S.grow a).dm (j.dt S.dm) X λw d m k=>?_
 exact q w d (a.trans m) (k.back a)⟩
def Ua:f7->Option Bool
 | .bool b=>U b
 |_=>J
noncomputable def o8(F:DV):DB:=λds=>(F ds).bind λx=>Ua x.d
def wu(h:TX c.K I u r):rp c.K (tB u) (o8 r):=by
 intro O e j k H f b Q S a q;obtain⟨x,h1,a⟩:=j3 a;refine h O e j k H f x _ S h1 λv i g l=>?_
 have d:=l.dt S.dm;generalize x.d=z at d a;cases z with
 |bool X=>cases a;cases d;exact⟨_,rfl,q i g⟩
 |_=>exact nE a
def Vk{fr:Bool}(h:PX c fr e u r)(b:autoParam (∀a,isTrue e c.env a=(do let v <- a;bH e.pos;holding [v] (truthy v))) Q4):cR c e (tB u) (o8 r):=⟨Yo h.p b,wu h.t⟩
def fg{fr:Bool}{tb:TE}{Fa Fb:DV}{op:CmpOp}{r:R2}(a:S8 c (Z0 op) r)(h:dH c.K r i3)(g:pY op E=U')(d:PX c fr e u Fa)(X:PX c fr E tb Fb):cR c (.Compare e [op] [E] p) (SX (my r u tb)) (o8 (j8 i3 Fa Fb)) :=
 ⟨Vo a d.p X.p g,wu (Bi h d X)⟩
noncomputable def Sr(F:DB):DB:=λds=>(F ds).bind λb=>U (!b)
noncomputable def mQ(F G:DB):DB:=λds=>(F ds).bind λb=>if b=Uf then G ds else U U'
noncomputable def AQ(F G:DB):DB:=λds=>(F ds).bind λb=>if b=Uf then U Uf else G ds
def UA(h:rp c.K b3 a8):rp c.K (Pa b3) (Sr a8):=by intro O a f e H d b Q S X q;obtain⟨x,h1,X⟩:=j3 X;cases X;exact h O a f e H d x _ S h1 q
def UB{tu:TT}{Fu:DB}(h:rp c.K b3 a8)(k:rp c.K tu Fu):rp c.K (Pd b3 tu) (mQ a8 Fu):=by
 intro O a i g H e b Q S X q;obtain⟨x,h1,X⟩:=j3 X;refine h O a i g H e x _ S h1 λf d=>?_
 cases x with
 |true=>exact k O a i g f e b Q (S.grow d) X λl j=>q l (d.trans j)
 |false=>cases X;exact q f d
def Xm{tu:TT}{Fu:DB}(h:rp c.K b3 a8)(k:rp c.K tu Fu):rp c.K (Xt b3 tu) (AQ a8 Fu):=by
 intro O a i g H e b Q S X q;obtain⟨x,h1,X⟩:=j3 X;refine h O a i g H e x _ S h1 λf d=>?_
 cases x with
 |false=>exact k O a i g f e b Q (S.grow d) X λl j=>q l (d.trans j)
 |true=>cases X;exact q f d
def Vl(h:cR c e b3 a8):cR c (.UnaryOp .Not e p) (Pa b3) (Sr a8):=⟨Yp h.p,UA h.t⟩
def PY(h:cR c e b3 a8):ow c (.BoolOp .And [e] p) b3 a8:=⟨pw_and1 h.p,h.t⟩
def Vi(h:cR c e b3 a8):ow c (.BoolOp .Or [e] p) b3 a8:=⟨pw_or1 h.p,h.t⟩
def Vj{tu:TT}{Fu:DB}(h:cR c e b3 a8)(k:ow c (.BoolOp .And (E::Z) p) tu Fu):ow c (.BoolOp .And (e::E::Z) p) (Pd b3 tu) (mQ a8 Fu):=⟨pw_and h.p k.p,UB h.t k.t⟩
def Yn{tu:TT}{Fu:DB}(h:cR c e b3 a8)(k:ow c (.BoolOp .Or (E::Z) p) tu Fu):ow c (.BoolOp .Or (e::E::Z) p) (Xt b3 tu) (AQ a8 Fu):=⟨pw_or h.p k.p,Xm h.t k.t⟩
theorem ow.pt(h:ow c e b3 a8):cR c e b3 a8:=⟨PW.pt h.p,h.t⟩
noncomputable def Js(Fa Fb:DV):DV:=λds=>(o8 Fa ds).bind λb=>if b=Uf then Fb ds else U (.dat (.bool U'))
noncomputable def TL(Fa Fb:DV):DV:=λds=>(o8 Fa ds).bind λb=>if b=Uf then U (.dat (.bool Uf))else Fb ds
noncomputable def Dg(Fa:DV):DV:=λds=>(o8 Fa ds).bind λb=>U (.dat (.bool !b))
def Yc{op}(h:PX c I e u r):PX c I (.BoolOp op [e] p) u r:=⟨YA h.p,h.t⟩
def Ym{tb:TE}{Fb:DV}(h:PX c I e u r)(k:PX c I (.BoolOp .And (E::Z) p) tb Fb):PX c I (.BoolOp .And (e::E::Z) p) (Tg u tb) (Js r Fb):=⟨YH h.p k.p,by
 intro O X j i H f pv Q S d q;obtain⟨x,h1,d⟩:=j3 d;refine wu h.t O X j i H f x _ S h1 λg a=>?_
 cases x with
 |true=>exact k.t O X j i g f pv Q (S.grow a) d λv m l b=>q v m (a.trans l) (b.back a)
 |false=>cases d;exact q _ g a (Dt.bl _)⟩
def a0I{tb:TE}{Fb:DV}(h:PX c I e u r)(k:PX c I (.BoolOp .Or (E::Z) p) tb Fb):PX c I (.BoolOp .Or (e::E::Z) p) (Xs u tb) (TL r Fb):=⟨a0O h.p k.p,by
 intro O X j i H f pv Q S d q;obtain⟨x,h1,d⟩:=j3 d;refine wu h.t O X j i H f x _ S h1 λg a=>?_
 cases x with
 |false=>exact k.t O X j i g f pv Q (S.grow a) d λv m l b=>q v m (a.trans l) (b.back a)
 |true=>cases d;exact q _ g a (Dt.bl _)⟩
def Ye(h:PX c I e u r):PX c I (.UnaryOp .Not e p) (Tc u) (Dg r):=⟨YC h.p,by intro O b i g H d pv Q S X q;obtain⟨x,h1,X⟩:=j3 X;cases X;exact wu h.t O b i g H d x _ S h1 λa f=>q _ a f (Dt.bl _)⟩
noncomputable def hZ(Ft:DB)(Fa Fb:DV):DV:=λds=>(Ft ds).bind λb=>if b=Uf then Fa ds else Fb ds
def a0K{X:Expr}{tb:TE}{Fb:DV}(n:cR c X b3 a8)(h:PX c I e u r)(k:PX c I E tb Fb):PX c I (.IfExp X e E p) (tIf b3 u tb) (hZ a8 r Fb):=⟨QD n.p h.p k.p,by
 intro O d m l H g pv Q S f q;obtain⟨x,h1,f⟩:=j3 f;refine n.t O d m l H g x _ S h1 λo a=>?_
 cases x with
 |true=>exact h.t O d m l o g pv Q (S.grow a) f λv j i b=>q v j (a.trans i) (b.back a)
 |false=>exact k.t O d m l o g pv Q (S.grow a) f λv j i b=>q v j (a.trans i) (b.back a)⟩
noncomputable def l7:DL:=λ_=>U []
noncomputable def f6(F:DV)(G:DL):DL:=λds=>(F ds).bind λx=>(G ds).bind λl=>U (x.d::l)
def GL:cT c I [] qs l7:=⟨rV,by intro O a d e H X l Q S b q;cases b;exact q [] H (m3.refl H) .nil⟩
def QH(h:PX c I e u r)(k:cT c I Z M S)(hs:autoParam (m8 (e::Z) c.env=(U',eval e c.env)::m8 Z c.env) k6):cT c I (e::Z) (qu u M) (f6 r S):=⟨lW h.p k.p hs,by
 intro O a i g H X l Q F b q;unfold f6 at b;cases h1:r X with
 |none=>simp_all
 |some x =>
  cases h2:S X with
  |none=>rw[h1,h2]at b;exact nE b
  |some m =>
   rw[h1,h2]at b;cases b;refine h.t O a i g H X x _ F h1 λv s f n=>?_;refine k.t O a i g s X m _ (F.grow f) h2 λt o d j=>?_
   exact q (v::t) o (f.trans d) (.cons ((n.grow d).dt F.dm) j)⟩
def qm.fresh(D:qm H y O)(h:H z=J):z∉O/\U z∉y:=by
 refine⟨λp=>?_,λp=>?_⟩;obtain⟨u,p⟩:=D.o z p;lia;obtain⟨u,p⟩:=D.a z p;lia
def wD(D:qm H y O)(h:H z=J)(hd:u5 g (p7 H y O) L P):RX g O y H (upd H z (.tup L)) (.ref z) (.dat (.tuple P)):=by obtain⟨a,b⟩:=D.fresh h;exact Dt.tup (T9.of (A0.mpr ⟨a,b,J8⟩)) (hd.same (L0 (m3.new h)))
def mB(h:H z=J)(hd:u5 g (p7 H y O) L P):RX g O y H (upd H z (.lst L)) (.ref z) (.own P):=by
 refine⟨z,L,rfl,h,J8,hd.same (eR λb o c d a=>⟨c,λK=>?_,?_⟩)⟩
 . simp_all
 exact m3.new h _ _ a
noncomputable def n9(Fl:DL):DV:=λds=>(Fl ds).bind λl=>if l.length<=1000000 then U (.dat (.tuple l))else J
noncomputable def E2(Fl:DL):DV:=λds=>(Fl ds).bind λl=>if l.length<=1000000 then U (.own l)else J
def nU(h:m<=1000000):m<=A5:=p5 h (by rw[pT];decide)
def Ya{x1}(h:cT c I Z M S):PX c I (.Tuple Z x1 p) (OZ M) (n9 S):=⟨Lh h.p,by
 intro O b j i H f pv Q t a q;obtain⟨l,h1,a⟩:=j3 a;obtain⟨g,a⟩:=D7 a;cases a;refine h.t O b j i H f l _ t h1 λk m X d=>⟨by rw[d.length];exact nU g,λn e=>?_⟩
 exact q _ _ (X.trans (m3.new e)) (RX.back (wD (t.grow X).dm e d) X)⟩
def Yg(h:cT c I Z M S):PX c I (.List Z p) (Xu M) (E2 S):=⟨YE h.p,by
 intro O b j i H f pv Q t a q;obtain⟨l,h1,a⟩:=j3 a;obtain⟨g,a⟩:=D7 a;cases a;refine h.t O b j i H f l _ t h1 λk m e X=>⟨by rw[X.length];exact nU g,λn d=>?_⟩
 exact q _ _ (e.trans (m3.new d)) (RX.back (mB d X) e)⟩
noncomputable def f9(F:FV)(Fl:DL):DV:=λds=>(Fl ds).bind F
def SS(j:vi c.K i7 d3)(h:cT c I Z M S):TX c.K I (BH i7 M) (f9 d3 S):=by
 intro O a e o H d pv Q t b q;obtain⟨l,h1,b⟩:=j3 b;refine h.t O a e o H d l _ t h1 λk n X g=>?_;refine j O (X4 I e) n k l pv Q (t.grow X).dm g b λw p m i=>?_;exact q w p (X.trans m) (i.back X)
def vC{id:String}{r:List V->Hp->VK->Prop}(l:dB c (.builtin id) r)(k:vi c.K r d3)(g:Gl c o)(h:c.mg o=J)(i:dM o=U (.builtin id))(X:cT c I (e::Z) M S)(d:autoParam (o ≠ "__name__") E5)(b:autoParam ((o==("__debug__" : Str))=U') E5)(j:autoParam (m8 (e::Z) c.env=(U',eval e c.env)::m8 Z c.env) k6)(a:autoParam ((C6 A (m8 Z c.env)).any (·.1)=U') k6):PX c I (.Call (.Name o p) (e::Z) [] A) (BH r M) (f9 d3 S):=⟨QG l g h i X.p d b j a,SS k X⟩
def Ap{T:String}{r:List V->Hp->VK->Prop}(l:dB c (.type T) r)(k:vi c.K r d3)(g:Gl c o)(h:c.mg o=J)(i:dM o=U (.type T))(X:cT c I (e::Z) M S)(d:autoParam (o ≠ "__name__") E5)(b:autoParam ((o==("__debug__" : Str))=U') E5)(j:autoParam (m8 (e::Z) c.env=(U',eval e c.env)::m8 Z c.env) k6)(a:autoParam ((C6 A (m8 Z c.env)).any (·.1)=U') k6):PX c I (.Call (.Name o p) (e::Z) [] A) (BH r M) (f9 d3 S):=⟨Li l g h i X.p d b j a,SS k X⟩
def B5(K:n6)(F:FV):Sp:=λvs H Q _=>∃(O:List Addr) (ds:List f7) (pv:PV),(∀a∈O,∃u,H a=U u)/\u5 K (p7 H [] O) vs ds/\F ds=U pv/\∀v H',m3 H H'->RX K O [] H H' v pv->Q v H'
def Uy{fr:Bool}(h:cT c fr Z M S):TX c.K fr (qv (B5 c.K d3) [] c8 M) (f9 d3 S):=by
 intro O k g t H A pv Q E m q;obtain⟨l,h1,m⟩:=j3 m;refine h.t O k g t H A l _ E h1 λN P p I=>?_;have D:=(E.grow p).dm (fr:=fr);rw[aX];have z:∀H,p7 H (X4 fr g) O=p7 H [] (O++(X4 fr g).filterMap id):=λH=>pG (bs:=[]);refine⟨O++(X4 fr g).filterMap id,l,pv,λa i=>?_,by rw[<-z];exact I,m,λv B C r=>q v B (p.trans C) ?_⟩
 . rcases List.mem_append.mp i with i|i
   exact D.o a i;obtain⟨x,G,e⟩:=List.mem_filterMap.mp i;subst e;exact D.a a G
 . cases pv with
   |dat d =>
    have j:Dt c.K (p7 B [] (O++(X4 fr g).filterMap id)) v d:=r;rw[<-z]at j;exact j
   |own l =>
    obtain⟨a,F,u,y,s,n⟩:=r;refine⟨a,F,u,p.free y,s,?_⟩;rw[show(U a::X4 fr g)=[U a]++X4 fr g from rfl,pG];exact n
   |ob w X =>
    obtain⟨o,R,u,y,s,n⟩:=r;refine⟨o,R,u,y,λb L=>p.free (s b L),?_⟩;rw[pG];rw[aX]at n;exact n
def Vh(G:ar c.prog c.w c.K c.mg c.base d6 m z b9 Q (B5 c.K d3))(i:K7 m c.A)(l:Gl c o)(X:c.mg o=U (.ref z))(n:gA c.K (.ref z)=Uf)(j:Binds c.K b9 Q [])(t:Passes d6 c c8)(g:cT c I (e::Z) M S)(b:autoParam ((o==("__debug__" : Str))=U') E5)(h:autoParam (m8 (e::Z) c.env=(U',eval e c.env)::m8 Z c.env) k6)(a:autoParam ((C6 A (m8 Z c.env)).any (·.1)=U') k6):
  PX c I (.Call (.Name o p) (e::Z) [] A) (qv (B5 c.K d3) [] c8 M) (f9 d3 S):=⟨GK G i l X n j .nil t g.p b h a,Uy g⟩
end
def dG(ds:Ds):Ds:=ds.map (Option.map λpv=>.dat pv.d)
def lS:U z∉(w5 m J:As):=λb=>by simp_all
def Wu:p7 H (w5 m J) O=p7 H [] O:=by
 funext b
 delta p7;simp
section
variable{K:n6}
def JJ.dG{i:Option (Option V)}{k:List Addr}{bs:As}(S:DS K O q y D H G)(h:JJ K O y H i d2)(e:∀b,U b∈bs->U b∈y)(j:∀b,(match d2 with | .own _=>i=U (U (.ref b)) | .ob _ _=>U b∈y|_=>False)->U b∉bs):bD K O bs H i k (.dat d2.d):=by
 cases d2 with
 |dat d=>obtain⟨v,f,h⟩:=h;exact⟨v,f,h.same (Y7 (m3.refl _) e)⟩
 |own l =>
  obtain⟨a,n,f,g,m,h⟩:=h;exact⟨_,f,.lst (K6.of (A0.mpr ⟨S.nO g,j a f,m⟩)) (h.same (Y7 (m3.refl _) e))⟩
 |ob w c=>obtain⟨v,R,f,_,g,h⟩:=h;exact⟨_,f,h.dt (Y7 (m3.refl _) e) λb e u z=>A0.mpr ⟨S.nO (g b e),j b (g b e),z⟩⟩
theorem DS.dG{O:List Addr}{u3:Hp}{H:Hp}{as:As}{σ:St}{ds:Ds}(S:DS K O u3 as σ H ds):DS K O u3 (w5 ds.length J) σ H (dG ds) where
 ls:=by simp[L2.dG,S.ls]
 same:=S.same
 new:=λa h=>absurd h lS
 ee:=S.ee
 fX:=⟨λ_=>[],λi b z=>absurd z t7,λi j b z=>absurd z t7,λi pv h=>by
  unfold L2.dG at h;rw[L1]at h;cases hd:ds[i]? with
  |none=>simp_all
  |some x =>
   cases x with
   |none=>simp_all
   |some w =>
    rw[hd]at h;cases h;exact(S.slot i w hd).dG S (λb z=>absurd z lS) (λa _=>lS)⟩
noncomputable def zP(i:Nat)(ds:Ds):Ds:=match ds[i]? with
 |some (U (.own l))=>ds.set i (U (.dat (.list l)))
 |_=>ds
set_option tactic.hygienic true in
theorem DS.zP(S:DS K O q y D H G)(i:Nat):∃n,DS K O q n D H (zP i G):=by
 delta L2.zP;split
 . rename_i l A;obtain⟨f,t,s,p⟩:=S.fX;refine⟨y.filter λx=>decide (∀b∈f i,x≠U b),?_⟩
   have sub:∀b,U b∈y.filter (λx=>decide (∀b∈f i,x≠U b))->U b∈y/\b∉f i:=λb z=>by obtain⟨E,u⟩:=List.mem_filter.mp z;exact⟨E,λσ=>nA u b σ rfl⟩
   have sm:m3 (p7 H y O) (p7 H (y.filter λx=>decide (∀b∈f i,x≠U b)) O):=Y7 (m3.refl _) λb z=>(sub b z).1;refine⟨by simp[S.ls],S.same,λa h=>S.new a (sub a h).1,S.ee,λj=>if j=i then[]else f j,λj b d=>?_,λj k b m g=>?_,λj pv h=>?_⟩;dsimp only at d;split at d;simp at d;rename_i v;exact List.mem_filter.mpr ⟨t j b d,du λC σ e=>v (s j i b d (by cases e;exact σ))⟩;dsimp only at m g;split at m;simp at m;split at g;simp at g;exact s j k b m g;rw[ym]at h;by_cases c:i=j;subst c;rw[j2 rfl]at h;obtain⟨_,h⟩:=D7 h;cases h;obtain⟨a,F,w,r,B,h⟩:=p i _ A;exact⟨_,w,.lst (K6.of (A0.mpr ⟨S.nO (t i a r),λz=>(sub a z).2 r,B⟩)) (h.same sm)⟩;rw[j1 c]at h;dsimp only;rw[j1 (λz=>c z.symm)];exact(p j pv h).Ao sm (λb _ o z=>z) λb z=>z
 exact⟨y,S⟩
end
noncomputable def oK(F:DV):DV:=λds=>F (dG ds)
def Yl(h:PX c Uf e u r):PX c U' e u (oK r):=⟨h.p,by
 intro O a g d H i pv Q S f q;refine h.t O a _ d H _ pv Q S.dG f λv X e F=>q v X e ?_
 exact F.less λb z=>by simp[X4]at z⟩
def a0n(K:n6)(O:List Addr)(Hb:Hp)(Jff:It)(items:List f7):Prop :=
 ∀H',m3 Hb H'->∀i,(i<items.length->Jff.go i H')/\(items.length<=i->Jff.stop i H') /\
  ∀x H'',Jff.SM i H' x H''->i<items.length->m3 H' H''/\∃d,items[i]? = U d/\∀vb:As,(∀b,U b∈vb->Hb b=J/\∃o,H' b=U o)->(∀b∈O,∃o,Hb b=U o)->Dt K (p7 H'' vb O) x d
def TIX(K:n6)(fr:Bool)(wi:TI)(Fi:DL):Prop :=
 ∀(O:List Addr) (u3:Hp) (as:As) (σ:St) (H:Hp) (ds:Ds) (items:List f7) (R:It->Hp->Prop),DS K O u3 as σ H ds->Fi ds=U items->(∀Jff H1,m3 H H1->a0n K O (p7 H1 (X4 fr as) []) Jff items->R Jff H1)->wi σ H R
structure eU(X:Cx)(fr:Bool)(tg e:Expr)(wi:TI)(Fi:DL):Prop where
 p:PI X tg e wi
 t:TIX X.K fr wi Fi
def ZH(K:n6)(tl:TE):TI:=λσ H R=>tl σ H λx H1=>∃a,x=.ref a/\(((∃xs,K6 K H1 a xs)/\R (Itl K a) H1)\/((∃xs,T9 K H1 a xs)/\R (Itt K a) H1))
def Yv(l:PE c E u):PI c e E (ZH c.K u):=by
 intro g s r H R I h;refine C4 (l g s r H _ I h) λv d ⟨x,j,X,k,t⟩=>?_;obtain⟨a,w,(⟨⟨y,hq⟩,q⟩|⟨⟨y,hq⟩,q⟩)⟩:=t
 . subst w;cases k;obtain⟨f,z,p,n⟩:=X.list hq;refine wpAny_pyIter_list p.isList ?_;refine⟨d.heap.objs.size,[d.heap.objs.size],_,_,j,rfl,X.kept λb o w=>F8 _ w,Kc a _,⟨_,U1 _ rfl,rfl,rfl⟩,λb i=>?_,q⟩
   have w:b=d.heap.objs.size:=by simpa using i
   subst w;exact X.zQ y4 (X.E7.fresh y4)
 . subst w;cases k;obtain⟨f,z,p,n⟩:=X.tuple hq;refine wpAny_pyIter_tuple (show d.heap.IsTuple a f.toArray from p) ?_;refine⟨d.heap.objs.size,[d.heap.objs.size],_,_,j,rfl,X.kept λb o w=>F8 _ w,HV a _,⟨_,U1 _ rfl,rfl,rfl⟩,λb i=>?_,q⟩
   have w:b=d.heap.objs.size:=by simpa using i
   subst w;exact X.zQ y4 (X.E7.fresh y4)
noncomputable def lE:f7->Option (List f7)
 | .list l=>U l
 | .tuple l=>U l
 |_=>J
noncomputable def M7(F:DV):DL:=λds=>(F ds).bind λpv=>lE pv.d
def pA{a:Hp}{K:As}(h:Dt g (p7 H y O) a7 c9)(e:m3 (p7 H y []) q)(k:m3 q a)(j:∀b,U b∈K->p7 H y [] b=J/\∃o,q b=U o):Dt g (p7 a K O) a7 c9 :=
 h.same (eR λb o m l i=>by
  have f:p7 H y [] b=U o:=A0.mpr ⟨by simp,l,i⟩;refine⟨m,λz=>?_,k _ _ (e _ _ f)⟩
  simp_all)
def ur:m3 (p7 H y O) (p7 H y []):=eR λb o _ d c=>⟨by simp,d,c⟩
section
set_option tactic.hygienic true in
def VB(h:PX c I e u r):eU c I E e (ZH c.K u) (M7 r):=⟨Yv h.p,by
 intro O g G F H B w R S f q;obtain⟨pv,h1,f⟩:=j3 f;refine h.t O g G F H B pv _ S h1 λv D C M=>?_
 have d:=M.dt S.dm;generalize pv.d=z at d f;cases d with
 |lst n k =>
  rename_i a X l;cases f;have:=k.length;refine⟨a,rfl,.inl ⟨⟨X,t9.seq n⟩,q _ D C λp j i=>?_⟩⟩;have b:=j.seq (ur.seq n);refine⟨λm=>⟨X,X[i]'j7,b,F2 _⟩,λm=>⟨X,b,by simp[*]⟩,λx o y m=>?_⟩;obtain⟨t,y⟩:=y;subst t;obtain⟨d,K,A⟩:=k.get' (y X b);exact⟨m3.refl _,d,K,λL s _=>pA A j (m3.refl _) s⟩
 |tup n k =>
  rename_i a X l;cases f;have:=k.length;refine⟨a,rfl,.inr ⟨⟨X,t9.fP n⟩,q _ D C λp j i=>?_⟩⟩;have b:=j.fP (ur.fP n);refine⟨λm=>⟨X,X[i]'j7,b,F2 _⟩,λm=>⟨X,b,by simp[*]⟩,λx o y m=>?_⟩;obtain⟨t,y⟩:=y;subst t;obtain⟨d,K,A⟩:=k.get' (y X b);exact⟨m3.refl _,d,K,λL s _=>pA A j (m3.refl _) s⟩
 |_=>exact nE f⟩
def Q1(lo:Int)(n:Nat):List f7:=(A3 n).map λk=>.int (lo+(k:Nat))
def Mi:a0n g O H (OC a6 m) (Q1 a6 m):=by
 intro K e i;have b:(Q1 a6 m).length=m:=by simp[Q1]
 refine⟨λa=>(by rw[b]at a;exact a),λa=>(by rw[b]at a;exact a),λx d y a=>?_⟩;obtain⟨f,c⟩:=y;subst f;subst c;rw[b]at a;refine⟨m3.refl _,.int (a6+i),?_,λh _ _=>.int _⟩;simp[Q1,nI a]
def C9:List f7->Option (List f7)
 | [.int j]=>@ite _ (-(4611686018427387904)<=j/\j<4611686018427387904) (yB _) (U (Q1 0 j.toNat)) J
 |_=>J
def jx:List f7->Option (List f7)
 | [.int i,.int j]=>@ite _ ((-(4611686018427387904)<=i/\i<4611686018427387904)/\-(4611686018427387904)<=j/\j<4611686018427387904) (yB _) (U (Q1 i (j-i).toNat)) J
 |_=>J
noncomputable def x9(f:List f7->Option (List f7))(Fl:DL):DL:=λds=>(Fl ds).bind f
set_option tactic.hygienic true in
def Iw(i:Gl c "range")(n:c.mg "range" = J)(a:cT c I [E] M S)(hs:autoParam (m8 [E] c.env=[(U',eval E c.env)]) k6):eU c I e (.Call (.Name "range" p) [E] [] A) (TF M) (x9 C9 S):=⟨Lg i n a.p hs,by
 intro O X k m H f d R t b q;obtain⟨l,h1,b⟩:=j3 b;refine a.t O X k m H f l _ t h1 λv h s u=>?_;unfold C9 at b;split at b
 . rename_i j;split at b
   . rename_i g;cases b;cases u with
     |cons r o =>
      cases r;cases o;exact⟨j,rfl,g.1,g.2,q _ h s Mi⟩
   exact nE b
 . exact nE b⟩
set_option tactic.hygienic true in
def Iv{b:Expr}(o:Gl c "range")(v:c.mg "range" = J)(k:cT c I [E,b] M S)(hs:autoParam (m8 [E,b] c.env=[(U',eval E c.env),(U',eval b c.env)]) k6)(h:autoParam (m8 [b] c.env=[(U',eval b c.env)]) k6):eU c I e (.Call (.Name "range" p) [E,b] [] A) (TC M) (x9 jx S):=⟨Lf o v k.p hs h,by
 intro O d s u H m g R t X q;obtain⟨l,h1,X⟩:=j3 X;refine k.t O d s u H m l _ t h1 λy n w x=>?_;unfold jx at X;split at X
 . rename_i i j;split at X
   . rename_i a;cases X;cases x with
     |cons r f =>
      cases r;cases f with
      |cons r f =>
       cases r;cases f;exact⟨i,j,rfl,⟨a.1.1,a.1.2,a.2.1,a.2.2⟩,q _ n w Mi⟩
   exact nE X
 . exact nE X⟩
def TB(K:n6)(ta:TA):TI:=λσ H R=>ta σ H λvs H1=>∃a b k1 k2,vs=[.ref a,.ref b]/\(∃xs,fL k1 K H1 a xs)/\(∃ys,fL k2 K H1 b ys)/\R (Itz k1 k2 K a b) H1
def VD{tp:Pos}(D:Gl c "zip")(F:c.mg "zip" = J)(t:PA c [e,E] M)(hs:autoParam (m8 [e,E] c.env=[(U',eval e c.env),(U',eval E c.env)]) k6)(i:autoParam (m8 [E] c.env=[(U',eval E c.env)]) k6):
  PI c (.Tuple Z m tp) (.Call (.Name "zip" p) [e,E] [] A) (TB c.K M):=by
 intro d s W H R I h;refine Call_ (iF I D F boot_zip (oC (C4 (t A d s W H _ I h) λz X ⟨L,l,g,O,b⟩=>?_) (by rw[hs,i]) (by rw[i];rfl)));obtain⟨x,y,Q,k2,a,⟨S,N⟩,⟨P,C⟩,q⟩:=b;subst a;obtain⟨u,v,a,G,B⟩:=vals2 O;subst a;cases G;cases B;obtain⟨z,K⟩:=g.aZ N;obtain⟨L,w⟩:=g.aZ C;refine MM K w λk T n=>?_;refine EB T.hz ?_;have r:Inv c d W l {X with heap:=k}:=g.kept n;refine⟨(hz X)+4,_,_,_,l,rfl,r,OS (OH _),T,λE o=>?_,q⟩
 have j:E=(hz X)+4\/E=(hz X)+2\/E=(hz X)+3\/E=(hz X)\/E=(hz X)+1:=by simpa using o
 have f:(hz X)<=E:=by
  rcases j with a|a|a|a|a<;>rw[a]
  exact jV _ _;exact jV _ _;exact jV _ _;exact X1 _;exact jV _ _
 exact g.zQ f (g.E7.fresh f)
def m3.aZ(e:m3 H q)(h:fL I g H z L):fL I g q z L:=by
 cases I;exact e.seq h;exact e.fP h
def Dt.aZ(h:Dt g H a7 c9)(hd:lE c9=U P):∃a e xs,a7=.ref a/\fL e g H a xs/\u5 g H xs P:=by
 cases h with
 |lst b c=>cases hd;exact⟨_,U',_,rfl,b,c⟩
 |tup b c=>cases hd;exact⟨_,Uf,_,rfl,b,c⟩
 |_=>exact nE hd
noncomputable def cq:List f7->Option (List f7)
 | [d,e]=>(lE d).bind λl=>(lE e).bind λm=>U (pW (λx y=>.tuple [x,y]) l m)
 |_=>J
set_option tactic.hygienic true in
def VA{tp:Pos}(hg:Gl c "zip")(W:c.mg "zip" = J)(w:cT c I [e,E] M S)(hs:autoParam (m8 [e,E] c.env=[(U',eval e c.env),(U',eval E c.env)]) k6)(v:autoParam (m8 [E] c.env=[(U',eval E c.env)]) k6):
  eU c I (.Tuple Z m tp) (.Call (.Name "zip" p) [e,E] [] A) (TB c.K M) (x9 cq S):=⟨VD hg W w.p hs v,by
 intro O j as V H D u R K X q;obtain⟨l,h1,X⟩:=j3 X;refine w.t O j as V H D l _ K h1 λvs Q N r1=>?_;unfold cq at X;split at X
 . rename_i d1 T;obtain⟨l1,hl,X⟩:=j3 X;obtain⟨l2,hl2,X⟩:=j3 X;cases X;cases r1 with
   |cons r s =>
    cases s with
    |cons r' s =>
     cases s;obtain⟨e,k1,Fl,rfl,fr,k⟩:=r.aZ hl;obtain⟨E,k2,h,rfl,B,C⟩:=r'.aZ hl2;refine⟨e,E,k1,k2,rfl,⟨Fl,t9.aZ fr⟩,⟨h,t9.aZ B⟩,q _ Q N λH' g i=>?_⟩;have b:=g.aZ (ur.aZ fr);have f:=g.aZ (ur.aZ B);have:=k.length;have:=C.length;rw[NG];refine⟨λF=>⟨Fl,h,Fl[i]'j7,h[i]'j7,b,f,F2 _,F2 _⟩,λF=>⟨Fl,h,b,f,by lia⟩,λx L y F=>?_⟩;obtain⟨pp,z1,d,x',y',z3,a⟩:=y;obtain⟨z5,G⟩:=a Fl h b f;subst z1;subst z3;obtain⟨dx,ex,ta⟩:=k.get' z5;obtain⟨P,t,hy⟩:=C.get' G;refine⟨m3.new d,.tuple [dx,P],by rw[List.getElem?_zipWith,ex,t],λvb n Y=>?_⟩;refine .tup (T9.of (A0.mpr ⟨λz=>?_,λz=>?_,J8⟩)) (.cons (pA ta g (m3.new d) n) (.cons (pA hy g (m3.new d) n) .nil));obtain⟨o,z⟩:=Y _ z;rw[g _ _ z]at d;exact nS d;obtain⟨_,o,z⟩:=n _ z;rw[z]at d;exact nS d
 . exact nE X⟩
end
def sH(K:n6)(n:Nat)(g:TG)(gt:f7->Option (List f7)):Prop :=
 ∀(O:List Addr) (va:As) (H:Hp) (v:V) (d:f7) (σ:St) (bs:List f7) (Q:St->Hp->Prop),Dt K (p7 H va O) v d->gt d=U bs->(∀vs,u5 K (p7 H va O) vs bs->vs.length=n->Q (vs.map U++σ) H)->g v (w5 n J++σ) H Q
def p6:f7->Option (List f7):=λd=>U [d]
noncomputable def N5(n:Nat):f7->Option (List f7)
 | .tuple l=>if l.length=n then U l else J
 |_=>J
def OY:sH g 1 (Y9 0) p6:=by intro O e H v d c bs Q a b q;cases b;exact q [v] (.cons a .nil) rfl
def a2t:∀{l:List c6},l.length=2->∃x y,l=[x,y]
 | [x,y],_=>⟨x,y,rfl⟩
set_option tactic.hygienic true in
def OX:sH g 2 (CQ g 2 (uD (Y9 0) (uD (Y9 1) Jq))) (N5 2):=by
 intro O k H v d i bs Q h e q;cases h with
 |tup K c =>
  rename_i a j l;have b:=e;obtain⟨f,b⟩:=D7 b;rw[(R1 b)]at c f;obtain⟨x,y,rfl⟩:=a2t (c.length.trans f);exact⟨a,[x,y],rfl,t9.fP K,rfl,x,[y],rfl,y,[],rfl,rfl,q [x,y] c rfl⟩
 |_=>exact nE e
def N8(l:List f7):Ds:=l.map λd=>U (.dat d)
@[simp] theorem qM:N8 []=[]:=rfl
@[simp] theorem oq(d:f7)(l:List f7):N8 (d::l)=sd d::N8 l:=rfl
def u5.slots(h:u5 g H L P)(e:(N8 P)[m]? = U (U d2)):∃d v,d2=.dat d/\L[m]? = U v/\Dt g H v d:=by
 unfold N8 at e;rw[L1]at e;cases hd:P[m]? with
 |none=>simp_all
 |some d =>
  rw[hd]at e;cases e;obtain⟨x,b,a⟩:=h.get hd;exact⟨d,x,rfl,b,a⟩
def zL:p7 H (w5 m J++y) O=p7 H y O:=by
 funext b
 delta p7;simp
set_option tactic.hygienic true in
def DS.pre(S:DS g O q y D H G)(h:u5 g (p7 H y O) L P):
  DS g O q (w5 P.length J++y) (L.map U++D) H (N8 P++G) where
 ls:=by simp[N8,S.ls,h.length]
 same:=S.same
 new:=λa z=>S.new a ((List.mem_append.mp z).elim (λz=>absurd z lS) id)
 ee:=S.ee
 fX:=by
  obtain⟨m,s,k,p⟩:=S.fX;have n:=h.length;have r:(N8 P).length=P.length:=by simp[N8]
  refine⟨λi=>if i<P.length then[]else m (i-P.length),λi b z=>?_,λi j b f c=>?_,λi pv e=>?_⟩;dsimp only at z;split at z;simp at z;exact F4 _ (s _ b z)
  . dsimp only at f c;split at f;simp at f;split at c;simp at c;have:=k _ _ b f c;lia
  rw[NO]at e;split at e;rename_i K;obtain⟨d,v,rfl,f,c⟩:=h.slots e;refine⟨v,?_,by rw[zL];exact c⟩;rw[iU (by simp;simp_all),L1,f];rfl;rename_i K;rw[r]at K e;dsimp only;rw[j1 K,oB (by simp;simp_all)];simp only[A6,n];exact(p _ pv e).Ao (by rw[zL];exact m3.refl _) (λb _ o z=>z) λb z=>z
noncomputable def L8(gt:f7->Option (List f7))(Fc:DB)(Fe:DV)(ds:Ds):List f7->Option (List f7)
 | []=>U []
 |x::r=>(gt x).bind λbs=>(Fc (N8 bs++ds)).bind λb=>if b=Uf then(Fe (N8 bs++ds)).bind λy=>(L8 gt Fc Fe ds r).bind λl=>U (y.d::l)else L8 gt Fc Fe ds r
noncomputable def p9(Fi:DL)(gt:f7->Option (List f7))(Fc:DB)(Fe:DV):DV:=λds=>(Fi ds).bind λitems=>if items.length<=1000000 then(L8 gt Fc Fe ds items).bind λl=>U (.own l)else J
structure lJ(X:Cx)(ifs:List Expr)(t:TT)(F:DB):Prop where
 p:Ab X ifs t
 t:rp X.K t F
noncomputable def q5:DB:=λ_=>U Uf
def Le:lJ c [] wz q5:=⟨vF,by intro O a d e H f b Q S X q;cases X;exact q H (m3.refl H)⟩
def Ld(h:cR c e b3 a8):lJ c [e] b3 a8:=⟨Qx h.p,h.t⟩
def yR{nb:List Str}{j:Expr}{pos:Pos}{wi:TI}{g:TG}(hc:c.calm=Uf)(B:jq c Q nb c5)(hi:eU c Uf e j wi S)(go:jg Q.length g)(hg:∀cl C fp s H pins,PG (S7 c Q nb c5 cl C fp s H pins) e g)(T:sH c.K Q.length g g8)(ht:∀cl C fp s H pins,lJ (S7 c Q nb c5 cl C fp s H pins) Z b3 a8)(he:∀cl C fp s H pins,PX (S7 c Q nb c5 cl C fp s H pins) Uf E u r)(hs:autoParam (∀x,dw j c.env x=pure x) Q4):PX c Uf (.ListComp E [⟨e,j,Z,0⟩] c5 pos) (gF Q wi g b3 u) (p9 S g8 a8 r):=⟨GJ hc B hi.p go hg (λ_ _ _ _ _ _=>(ht _ _ _ _ _ _).p) (λ_ _ _ _ _ _=>(he _ _ _ _ _ _).p) hs,by
 intro O h v σ H n pv Y K f q;obtain⟨a,h1,f⟩:=j3 f;obtain⟨hn,f⟩:=D7 f;obtain⟨l,h2,f⟩:=j3 f;cases f;refine hi.t O h v σ H n a _ K h1 λJff H1 N it=>?_;have S1:=K.grow N;refine⟨a.length,λi ys L=>i<=a.length/\m3 H1 L/\∃F M,u5 c.K (p7 L v O) ys F/\L8 g8 a8 r n (a.drop i)=U M/\F++M=l,nU hn,⟨gs _,m3.refl _,[],l,.nil,h2,rfl⟩,?_⟩;rintro i ys L ⟨hi',bs,F,M,d1,X,I⟩;have S2:=S1.grow bs;obtain⟨R,st',V⟩:=it L (t9.trans bs) i;by_cases A:i<a.length
 . refine .inr ⟨R A,A,λx m y=>?_⟩
   obtain⟨D,d,ed,dt⟩:=V x m y A;have dx:=dt v (λb G=>⟨by delta p7;rw[j2 (.inr G)],let ⟨_,z⟩:=(S2.new b G).2;⟨_,z⟩⟩) λb G=>by
    obtain⟨o,z⟩:=K.ee b G;refine⟨o,A0.mpr ⟨by simp,λz2=>?_,S1.same _ _ z⟩⟩;rw[(K.new b z2).1]at z;exact nE z
   have P:a.drop i=d::a.drop (i+1):=by
    rw[qk A];have:a[i]=d:=by have z:=F2 A;rw[ed]at z;exact(R1 z).symm
    rw[this]
   rw[P]at X;obtain⟨k,h3,X⟩:=j3 X;obtain⟨b,h4,X⟩:=j3 X;refine T O v m x d σ k _ dx h3 λvs dv lv=>?_;have W:=(S2.grow D).pre dv;refine((ht [] 0 [] c.R5 c.u3 []).t) O h _ _ m _ b _ W h4 λH5 w=>?_
   cases b with
   |false =>
    exact⟨A,(bs.trans D).trans w,F,M,d1.same (L0 (D.trans w)),X,I⟩
   |true =>
    obtain⟨yv,h5,X⟩:=j3 X;obtain⟨l3,h6,X⟩:=j3 X;cases X;refine((he [] 0 [] c.R5 c.u3 []).t) O h _ _ H5 _ yv _ (W.grow w) h5 λt H6 e6 r6=>?_
    have d7:Dt c.K (p7 H6 v O) t yv.d:=by have z:Dt c.K (p7 H6 (w5 k.length J++v) O) t yv.d:=(r6.dt (W.grow w).dm);rw[zL]at z;exact z
    exact⟨A,((bs.trans D).trans w).trans e6,F++[yv.d],l3,(d1.same (L0 ((D.trans w).trans e6))).append (.cons d7 .nil),h6,by rw[<-I];simp⟩
 . have hi2:i=a.length:=by lia
   subst hi2;rw[EA]at X;cases X;rw[aX]at I;subst I;exact .inl ⟨st' y4,λp hp=>q _ _ ((N.trans bs).trans (m3.new hp)) (RX.back (mB hp d1) (N.trans bs))⟩⟩
inductive Out where
 |next (ds:Ds)
 |ret (pv:PV)
 |brk (ds:Ds)
 |cont (ds:Ds)
 |up (x:f7)
 |retO (pv:PV) (ds:Ds)
abbrev DO:=Ds->Option Out
variable{b4:DO}
def a2B(K:n6)(O:List Addr)(H:Hp)(ea:Addr)(x:f7):Prop:=∃C dx fld v d,x=RK C fld d/\a0o K C/\ai K (.ref C) fld=U J/\H ea=U (.ext (BA ea C (U dx)))/\H dx=U (.xd [(fld,v)])/\dx∉O/\Dt K (p7 H [] (ea::O)) v d
def yL(X:Cx)(O:List Addr)(u3:Hp)(D:Ends):Out->Prop
 | .next ds=>∀as σ H,DS X.K O u3 as σ H ds->D.nx σ H
 | .brk ds=>∀as σ H,DS X.K O u3 as σ H ds->D.bk σ H
 | .cont ds=>∀as σ H,DS X.K O u3 as σ H ds->D.ct σ H
 | .ret pv=>∀v H,m3 u3 H->RX X.K O [] u3 H v pv->D.rt v H
 | .up x=>∀ea H,m3 u3 H->u3 ea=J->a2B X.K O H ea x->∀pins σ s,Inv X pins σ H s->X.xe (.ref ea) s
 | .retO pv ds=>∀as σ Hm H v,DS X.K O u3 as σ Hm ds->m3 Hm H->RX X.K O as Hm H v pv->D.rt v H
def TSX(X:Cx)(t:TS)(G:DO):Prop :=
 ∀(O:List Addr) (u3:Hp) (as:As) (σ:St) (H:Hp) (ds:Ds) (D:Ends) (o:Out),DS X.K O u3 as σ H ds->G ds=U o->yL X O u3 D o->t D σ H
structure H0(X:Cx)(st:Stmt)(t:TS)(G:DO):Prop where
 p:PS X st t
 t:TSX X t G
structure iP(X:Cx)(st:List Stmt)(t:TS)(G:DO):Prop where
 p:oy X st t
 t:TSX X t G
noncomputable def E4:DO:=λds=>U (.next ds)
noncomputable def j9(G1 G2:DO):DO:=λds=>(G1 ds).bind λo=>match o with
 | .next ds'=>G2 ds'
 |o=>U o
section
def Qm:iP c [] Td E4:=⟨Vv,by intro O a X b H e D o S d q;cases d;exact q X b H S⟩
def Ql{t:TS}(h:H0 c d9 t b4):iP c [d9] t b4:=⟨Vu h.p,h.t⟩
set_option tactic.hygienic true in
def KZ{rest:List Stmt}{t u:TS}{G2:DO}(g:H0 c d9 t b4)(h:iP c rest u G2):iP c (d9::rest) (Xr t u) (j9 b4 G2):=⟨Qn g.p h.p,by
 intro O X k j H i D o S a q;obtain⟨f,e1,a⟩:=j3 a;refine g.t O X k j H i {D with nx:=u D} f S e1 ?_
 cases f with
 |next b=>exact λd e l m=>h.t O X d e l b D o m a q
 |ret pv=>cases a;exact q
 |brk b=>cases a;exact q
 |cont b=>cases a;exact q
 |up x=>cases a;exact q
 |retO pv b=>cases a;exact q⟩
noncomputable def uC(i:Nat)(G:DO):DO:=λds=>G (zP i ds)
def Qj{t:TS}(i:Nat)(h:H0 c d9 t b4):H0 c d9 t (uC i b4):=⟨h.p,by intro O a f X H g D o S e q;obtain⟨b,d⟩:=S.zP i;exact h.t O a b X H _ D o d e q⟩
theorem DS.set(S:DS g O q y D H G)(i:Nat)(h:Dt g (p7 H y O) a7 c9):DS g O q y (D.set i (U a7)) H (G.set i (sd c9)):=by
 obtain⟨f,l,e,k⟩:=S.fX;refine⟨by simp[S.ls],S.same,S.new,S.ee,f,l,e,λj pv a=>?_⟩;by_cases b:i=j;subst b;rw[ym]at a;rw[j2 rfl]at a;obtain⟨K,a⟩:=D7 a;cases a;exact⟨a7,by rw[tQ (by rw[S.ls];exact K)],h⟩;rw[gM b]at a;rw[gM b];exact k j pv a
def kz{R:List Addr}(h:m3 H q)(f:∀b∈R,H b=J):m3 (p7 H y O) (p7 q (R.map U++y) O):=eR λb o i g a=>⟨i,λz=>by
 rcases List.mem_append.mp z with z|z
 obtain⟨j,e,d⟩:=mem_map.mp z;cases d;rw[f b e]at a;exact nE a
 . exact g z,h _ _ a⟩
set_option tactic.hygienic true in
def DS.store{f:Hp}(S:DS g O q y D H G)(t:m3 H f)(i:Nat)(r:RX g O y H f a7 d2):∃n,DS g O q n (D.set i (U a7)) f (G.set i (U d2)):=by
 have W:=S.grow t;have Z:∀R:List Addr,(∀b∈R,H b=J)->(∀b∈R,∃u:Cl,f b=U u.1)->DS g O q (R.map U++y) D f G/\∀b∈R,q b=J/\U b∉y/\∃u:Cl,f b=U u.1:=λR p u3=>by
  have X:∀b∈R,U b∉y:=λb e z=>by obtain⟨_,o,z⟩:=S.new b z;rw[p b e]at z;exact nE z
  have B:∀b∈R,q b=J/\U b∉y/\∃u:Cl,f b=U u.1:=λb e=>⟨S.same.free (p b e),X b e,u3 b e⟩;obtain⟨F,v,M,I⟩:=S.fX;refine⟨⟨S.ls,W.same,λb e=>?_,S.ee,F,λi b z=>F4 _ (v i b z),M,λj d2 K=>(I j d2 K).Ao (kz t p) (λb _ o z=>t _ _ z) λb z=>z⟩,B⟩
  rcases List.mem_append.mp e with z|z
  obtain⟨b',A,E⟩:=mem_map.mp z;cases E;exact⟨(B b A).1,(B b A).2.2⟩;exact W.new b z
 have N:∀R:List Addr,(∀b∈R,H b=J)->(∀b∈R,∃u:Cl,f b=U u.1)->bD g O (R.map U++y) f (U (U a7)) R d2->∃n,DS g O q n (D.set i (U a7)) f (G.set i (U d2)):=λR p u3 Y=>by
  obtain⟨T,B⟩:=Z R p u3;obtain⟨F,v,M,I⟩:=S.fX;refine⟨_,by simp[S.ls],W.same,T.new,S.ee,λj=>if j=i then R else F j,λj b e=>?_,λj k b x s=>?_,λj d2 K=>?_⟩;dsimp only at e;split at e;exact P9 _ (mem_map.mpr ⟨b,e,rfl⟩);exact F4 _ (v j b e);dsimp only at x s;split at x;split at s;rename_i A E;rw[A,E];exact absurd (v k b s) (B b x).2.1;split at s;exact absurd (v j b x) (B b s).2.1;exact M j k b x s;by_cases m:i=j;subst m;rw[ym]at K;rw[j2 rfl]at K;obtain⟨Q,K⟩:=D7 K;cases K;dsimp only;rw[j2 rfl,tQ (by rw[S.ls];exact Q)];exact Y;rw[gM m]at K;dsimp only;rw[j1 (λz=>m z.symm),gM m];exact(I j d2 K).Ao (kz t p) (λb _ o z=>t _ _ z) λb z=>z
 cases d2 with
 |dat d=>exact⟨_,W.set i r⟩
 |ob w c =>
  obtain⟨o,R,rfl,L,C,h⟩:=r;exact N R C h.at ⟨o,R,rfl,L,λb z=>z,h⟩
 |own l =>
  obtain⟨a,P,rfl,L,C,h⟩:=r;refine N [a] (λb e=>?_) (λb e=>?_) ⟨a,P,rfl,v8,C,h⟩;rw[mem_singleton.mp e];exact L;rw[mem_singleton.mp e];exact⟨Cl.l P,C⟩
noncomputable def O8(i:Nat)(F:DV):DO:=λds=>(F ds).bind λpv=>U (.next (ds.set i (U pv)))
noncomputable def k9(i:Nat)(F:DV):DO:=λds=>(F ds).bind λpv=>U (.next (ds.set i (U (.dat pv.d))))
def Vp(i:c.N.Nodup)(l:c.N[m]? = U o)(k:Loc c.env.scope o)(d:PX c Uf e u r)(hs:autoParam (ag e (U (.Name o A)) p.line c.env=pure U') k6)(n:autoParam (c.fn o=Uf\/c.env.scope.names.lookup o=U .local) bC):
  H0 c (.Assign [.Name o A] e p) (fO u (Y9 m)) (O8 m r):=⟨BZ i l k d.p hs n,by
 intro O b j g H f D a S h q;obtain⟨pv,e1,h⟩:=j3 h;cases h;refine d.t O b j g H f pv _ S e1 λv w x s=>?_
 obtain⟨X,F⟩:=S.store x m s;exact q X _ _ F⟩
def Qb(n:c.N.Nodup)(k:c.N[m]? = U o)(j:Loc c.env.scope o)(X:PX c Uf e u r)(hs:autoParam (ag e (U (.Name o A)) p.line c.env=pure U') k6)(i:autoParam (c.fn o=Uf\/c.env.scope.names.lookup o=U .local) bC):
  H0 c (.Assign [.Name o A] e p) (fO u (Y9 m)) (k9 m r):=⟨BZ n k j X.p hs i,by
 intro O b g f H d D x S h q;obtain⟨pv,e1,h⟩:=j3 h;cases h;refine X.t O b g f H d pv _ S e1 λv s l F=>?_
 exact q _ _ _ ((S.grow l).set m (F.dt S.dm))⟩
noncomputable def A1(F:DV):DO:=λds=>(F ds).bind λpv=>U (.ret pv)
def GG{fr:Bool}(X:PX c fr e u r):H0 c (.Return (U e) p) (HZ u) (A1 r):=⟨Ca X.p,by
 intro O a g f H d D o S h q;obtain⟨pv,e1,h⟩:=j3 h;cases h;refine X.t O a g f H d pv _ S e1 λv k i j=>?_
 exact q v k (S.same.trans i) ((j.back S.same).less λb z=>by simp at z)⟩
noncomputable def Y8(i:Nat):DO:=λds=>match ds[i]? with
 |some (U pv)=>U (.ret pv)
 |_=>J
set_option tactic.hygienic true in
def Qd(i:Nat)(h:PE c e (G4 i)):H0 c (.Return (U e) p) (HZ (G4 i)) (Y8 i):=⟨Ca h,by
 intro O j B A H E D o S h q;unfold Y8 at h;split at h
 . rename_i pv n;cases h;have g:=S.slot i pv n;cases pv with
   |dat d =>
    obtain⟨v,f,h⟩:=g;exact⟨v,f,q v H S.same (Dt.same (Y7 (m3.refl _) λb z=>by simp at z) h)⟩
   |own l =>
    obtain⟨a,u,f,k,s,h⟩:=g;refine⟨_,f,q _ H S.same ⟨a,u,rfl,(S.new a k).1,s,h.same (Y7 (m3.refl _) λb z=>?_)⟩⟩
    simp_all
   |ob w X =>
    obtain⟨o,R,f,y,m,h⟩:=g;refine⟨_,f,q _ H S.same ⟨o,R,rfl,y,λb t=>(S.new b (m b t)).1,h.same (Y7 (m3.refl _) λb z=>?_) (λ_ _ _ z=>z)⟩⟩;rw[aX]at z;obtain⟨C,r,x⟩:=mem_map.mp z;cases x;exact m b r
 . exact nE h⟩
noncomputable def M0(Ft:DB)(G1 G2:DO):DO:=λds=>(Ft ds).bind λb=>if b=Uf then G1 ds else G2 ds
def Yq{sa sb:List Stmt}{t u:TS}{G2:DO}(g:cR c e b3 a8)(k:iP c sa t b4)(i:iP c sb u G2):H0 c (.If e sa sb p) (Xv b3 t u) (M0 a8 b4 G2):=⟨a0M g.p k.p i.p,by
 intro O a f X H d D o S h q;obtain⟨b,e1,h⟩:=j3 h;refine g.t O a f X H d b _ S e1 λl j=>?_
 cases b with
 |true=>exact k.t O a f X l d D o (S.grow j) h q
 |false=>exact i.t O a f X l d D o (S.grow j) h q⟩
noncomputable def xq:DO:=λ_=>J
def KW:H0 c d9 Ki xq:=⟨Qp,by exact λO a X b H d D o S h q=>nE h⟩
end
def DS.wo{e:PV}{u:Cl}{c:Nat->List Addr}(S:DS g O q y D H G)(hd:G[m]? = U (U d2))(i:∀m b,b∈c m->U b∈y)(n:∀m j b,b∈c m->b∈c j->m=j)(s:∀(m:Nat) (d2:PV),G[m]? = U (U d2)->bD g O y H D[m]? (c m) d2)(l:z∈c m)(r:m3 (p7 H y O) (p7 (upd H z u.1) y O)->bD g O y (upd H z u.1) D[m]? (c m) e):DS g O q y D (upd H z u.1) (G.set m (U e)):=by
 have sm:m3 (p7 H y O) (p7 (upd H z u.1) y O):=eR λb o t p v=>⟨t,p,by rw[E3 (λa=>p (by rw[a];exact i m z l))];exact v⟩;have f:=(List.getElem?_eq_some_iff.mp hd).1;refine⟨by simp[S.ls],λb o h=>?_,λb K=>⟨(S.new b K).1,?_⟩,S.ee,c,i,n,λj d2 k=>?_⟩;rw[E3 (λa=>?_)];exact S.same _ _ h;rw[a,(S.new z (i m z l)).1]at h;exact nE h;by_cases a:b=z;exact⟨u,by rw[a];exact J8⟩;obtain⟨_,o,h⟩:=S.new b K;exact⟨o,by rw[E3 a];exact h⟩;by_cases d:m=j;subst d;rw[tQ f]at k;cases k;exact r sm;rw[gM d]at k;refine(s j d2 k).Ao sm (λb K o a=>?_) λb a=>a;rw[E3 (λw=>d (n m j z l (by rw[<-w];exact K)))];exact a
def DS.turn{h:List f7}(S:DS g O q y D H G)(hd:G[m]? = U (U (.own P)))(f:D[m]? = U (U (.ref z)))(k:u5 g (p7 H y O) L h):
  DS g O q y D (upd H z (.lst L)) (G.set m (U (.own h))):=by obtain⟨n,l,j,K⟩:=S.fX;obtain⟨r,p,e,d,o,c⟩:=K m _ hd;rw[f]at e;cases e;exact S.wo (u:=Cl.l L) hd l j K d λsm=>⟨z,L,f,d,J8,k.same sm⟩
noncomputable def cy(i:Nat)(F:DV):DO:=λds=>(F ds).bind λpv=>match ds[i]? with
 |some (U (.own l))=>if l.length<1000000 then U (.next (ds.set i (U (.own (l++[pv.d])))))else J
 |_=>J
section
set_option tactic.hygienic true in
def Vt {apos:Pos} (i:Nat) (C:PE c E (G4 i)) (w:PX c Uf e u r) (f:autoParam (m8 [e] c.env=(U',eval e c.env)::m8 [] c.env) k6) (X:autoParam (Z2 E "append" c.env (eval E c.env)=eval E c.env) k6) (j:autoParam (((C6 A (m8 [e] c.env)).all (λx=>!x.1)&&(aQ A (dq [] c.env)).all (λx=>x.1.isSome)
   && decide ([e].length+([]:List aa).length+(if ([]:List aa).isEmpty then 0 else 1)<30))=Uf) k6)
  (d:autoParam ((apos.endLine==A.line)=Uf) k6) (b:autoParam ((C6 A (m8 [] c.env)).any (·.1)=U') k6)
  (hs:autoParam (ag (.Call (.Attribute E "append" apos) [e] [] A) J p.line c.env=pure U') k6) :
  H0 c (.Expr (.Call (.Attribute E "append" apos) [e] [] A) p) (ub (Gp c.K "list" yQ (G4 i) (qu u qs))) (cy i r) :=
 ⟨oY (wO qj Oq Oo Av C (lW w.p rV f) X j d f b) hs,by
 intro O g F n H z D E S h q;obtain⟨pv,e1,h⟩:=j3 h;split at h;rename_i l m;obtain⟨G,h⟩:=D7 h;cases h;obtain⟨a,K,t,o,s,y⟩:=S.slot i _ m;refine⟨_,t,.inl ⟨rfl,K,K6.of s⟩,?_⟩;refine w.t O g F n H z pv _ S e1 λv I k B=>?_;have:=y.length;refine⟨a,K,v,rfl,rfl,k _ _ s,J4 o9 (nU y4),q F n _ ?_⟩;exact(S.grow k).turn m t ((y.same (L0 k)).append (.cons (B.dt S.dm) .nil))
 . exact nE h⟩
end
def DS.rebase(S:DS g O q y D H G):DS g O (p7 H y []) y D H G where
 ls:=S.ls
 same:=t9
 new:=λa h=>⟨by delta p7;rw[j2 (.inr h)],(S.new a h).2⟩
 ee:=λa h=>by
  obtain⟨o,z⟩:=S.ee a h;refine⟨o,A0.mpr ⟨by simp,λK=>?_,S.same _ _ z⟩⟩;rw[(S.new a K).1]at z;exact nE z
 fX:=S.fX
def DS.oU{Hb:Hp}(S:DS g O Hb y D H G)(e:m3 q Hb)(hd:∀a∈O,∃o,q a=U o):DS g O q y D H G :=
 ⟨S.ls,e.trans S.same,λa h=>⟨e.free (S.new a h).1,(S.new a h).2⟩,hd,S.fX⟩
def DS.Xo(S:DS g O q y D H G):m3 q (p7 H y []):=λb o h=>by
 refine A0.mpr ⟨by simp,λK=>?_,S.same _ _ h⟩;rw[(S.new b K).1]at h;exact nE h
set_option tactic.hygienic true in
theorem yL.oU{X:Cx}{O:List Addr}{u3 Hb:Hp}{D:Ends}{o:Out}(h:yL X O u3 D o)(e:m3 u3 Hb)(hd:∀a∈O,∃u,u3 a=U u):yL X O Hb D o:=by
 cases o with
 |next d=>exact λc b H S=>h c b H (S.oU e hd)
 |brk d=>exact λc b H S=>h c b H (S.oU e hd)
 |cont d=>exact λc b H S=>h c b H (S.oU e hd)
 |ret pv=>exact λv H s r=>h v H (e.trans s) (r.back e)
 |up x=>exact λf H s n u=>h f H (e.trans s) (e.free n) u
 |retO pv d=>exact λc b g H v S s r=>h c b g H v (S.oU e hd) s r
def Ui(K:n6)(g:TG)(gt:f7->DD):Prop :=
 ∀(O:List Addr) (u3:Hp) (as:As) (σ:St) (H:Hp) (ds ds':Ds) (v:V) (d:f7) (Q:St->Hp->Prop),DS K O u3 as σ H ds->Dt K (p7 H as O) v d->gt d ds=U ds'->(∀as' σ',DS K O u3 as' σ' H ds'->Q σ' H)->g v σ H Q
def C1(i:Nat):f7->DD:=λd ds=>U (ds.set i (U (.dat d)))
def OV:Ui g (Y9 m) (C1 m):=by intro O a f c H K b v d Q S h e q;cases e;exact q _ _ (S.set m h)
def JI(K:n6)(g:pK)(gt:List f7->DD):Prop :=
 ∀(O:List Addr) (u3:Hp) (as:As) (σ:St) (H:Hp) (ds ds':Ds) (vs:List V) (l:List f7) (Q:St->Hp->Prop),DS K O u3 as σ H ds->u5 K (p7 H as O) vs l->gt l ds=U ds'->(∀as' σ',DS K O u3 as' σ' H ds'->Q σ' H)->g vs σ H Q
def cZ:List f7->DD
 | [],ds=>U ds
 |_,_=>J
def G3(i:Nat)(r:List f7->DD):List f7->DD
 |d::l,ds=>r l (ds.set i (U (.dat d)))
 | [],_=>J
def cY(n:Nat)(r:List f7->DD):f7->DD
 | .tuple l,ds=>if l.length=n then r l ds else J
 |_,_=>J
def OW:JI g Jq cZ:=by
 intro O a d c H f b K l Q S h e q;cases h with
 |nil=>cases e;exact⟨rfl,q _ _ S⟩
 |cons _ _=>exact nE e
def Kg{K:pK}{r:List f7->DD}(c:JI g K r):JI g (uD (Y9 m) K) (G3 m r):=by
 intro O a f d H j b k l Q S h e q;cases h with
 |nil=>exact nE e
 |cons h t =>
  exact⟨_,_,rfl,c O a _ _ H _ b _ _ Q (S.set m h) t e q⟩
set_option tactic.hygienic true in
def UC{K:pK}{r:List f7->DD}(t:JI g K r):Ui g (CQ g m K) (cY m r):=by
 intro O b p n H k ds' v d Q S h e q;cases h with
 |tup s i =>
  rename_i a j l;have f:=e;obtain⟨o,f⟩:=D7 f;exact⟨a,j,rfl,t9.fP s,by rw[i.length];exact o,t O b p n H k ds' j l Q S i f q⟩
 |_=>exact nE e
noncomputable def X7(gt:f7->DD)(G:DO):List f7->DO
 | [],ds=>U (.next ds)
 |x::r,ds=>(gt x ds).bind λds1=>(G ds1).bind λo=>match o with
  | .next ds2=>X7 gt G r ds2
  | .cont ds2=>X7 gt G r ds2
  | .brk ds2=>U (.next ds2)
  | .ret pv=>U (.ret pv)
  | .up x=>U (.up x)
  | .retO pv ds2=>U (.retO pv ds2)
noncomputable def D4(Fi:DL)(gt:f7->DD)(G:DO):DO:=λds=>(Fi ds).bind λitems=>X7 gt G items ds
section
set_option tactic.hygienic true in
def Vr{body:List Stmt}{wi:TI}{g:TG}{tb:TS}(hp:sP (model c.prog c.w) c.A c.env c.xe)(hc:c.calm=Uf)(hi:eU c Uf e E wi S)(hg:PG c e g)(Z:Ui c.K g i8)(C:iP c body tb b4)(hs:autoParam (∀x,dw E c.env x=pure x) Q4):H0 c (.For e E body [] p) (Pc wi g tb) (D4 S i8 b4):=⟨Yr hp hc hi.p hg C.p hs,by
 intro O M N σ H W D o w h q;obtain⟨a,e1,h⟩:=j3 h;refine hi.t O M N σ H W a _ w e1 λJff H1 s1 it=>?_;have S1:=w.grow s1;have L:=q.oU S1.Xo w.ee;refine⟨λi m l n=>i<=a.length/\m=a.length-i/\∃r k,DS c.K O (p7 H1 N []) r l n k/\X7 i8 b4 (a.drop i) k=U o,⟨_,gs _,rfl,N,W,S1.rebase,h⟩,?_⟩;rintro i m I H2 ⟨hi',em,s,t,B,X⟩;obtain⟨R,st',V⟩:=it H2 B.same i;by_cases G:i<a.length
 . have ed':=qk G;rw[ed']at X;obtain⟨v,e3,X⟩:=j3 X;obtain⟨o4,e4,X⟩:=j3 X;refine .inr ⟨R G,λl n=>∃r k,DS c.K O (p7 H1 N []) r l n k/\X7 i8 b4 (a.drop (i+1)) k=U o,λl n z=>⟨a.length-(i+1),by lia,G,rfl,z⟩,λx n y=>?_⟩
   obtain⟨e5,d,ed,dt⟩:=V x n y G;have Q:a[i]=d:=by rw[F2 G]at ed;exact R1 ed
   rw[Q]at e3;refine Z O _ s I n t v x d _ (B.grow e5) (dt s (λb C=>⟨(B.new b C).1,let ⟨_,z⟩:=(B.new b C).2;⟨_,z⟩⟩) B.ee) e3 λY σ4 S4=>?_
   refine C.t O _ Y σ4 n v _ o4 S4 e4 ?_;cases o4 with
   |next j=>exact λf u P F=>⟨f,j,F,X⟩
   |cont j=>exact λf u P F=>⟨f,j,F,X⟩
   |brk j=>cases X;assumption
   |ret pv=>cases X;exact L
   |up x=>cases X;exact L
   |retO pv j=>cases X;exact L
 . have T:i=a.length:=by lia
   subst T;rw[EA]at X;cases X;exact .inl ⟨st' y4,L s I H2 B⟩⟩
noncomputable def J7(Fc:DB)(G:DO):Nat->DO
 | 0,_=>J
 |n+1,ds=>(Fc ds).bind λb=>if b=Uf then(G ds).bind λo=>match o with
   | .next ds2=>J7 Fc G n ds2
   | .cont ds2=>J7 Fc G n ds2
   | .brk ds2=>U (.next ds2)
   | .ret pv=>U (.ret pv)
   | .up x=>U (.up x)
   | .retO pv ds2=>U (.retO pv ds2)
  else U (.next ds)
noncomputable def kA(μ:Ds->Nat)(Fc:DB)(G:DO):DO:=λds=>J7 Fc G (μ ds) ds
set_option tactic.hygienic true in
def KO{body:List Stmt}{tb:TS}(μ:Ds->Nat)(P:sP (model c.prog c.w) c.A c.env c.xe)(C:cR c e b3 a8)(y:iP c body tb b4):H0 c (.While e body [] p) (Kh b3 tb) (kA μ a8 b4):=⟨Qo P C.p y.p,by
 intro O d M Q H N D o S h q;refine⟨λm i r=>∃k f,DS c.K O d k i r f/\J7 a8 b4 m f=U o,⟨_,M,N,S,h⟩,?_⟩
 rintro m j I ⟨l,g,s,a⟩;cases m with
 |zero=>exact nE a
 |succ m =>
  obtain⟨b,e1,a⟩:=j3 a;refine C.t O d l j I g b _ s e1 λF E=>?_
  cases b with
  |false =>
   cases a;exact q l j F (s.grow E)
  |true =>
   obtain⟨B,e4,a⟩:=j3 a;refine⟨λi r=>∃k f,DS c.K O d k i r f/\J7 a8 b4 m f=U o,λi r z=>⟨m,tI _,z⟩,?_⟩
   refine y.t O d l j F g _ B (s.grow E) e4 ?_;cases B with
   |next X=>exact λn u L v=>⟨n,X,v,a⟩
   |cont X=>exact λn u L v=>⟨n,X,v,a⟩
   |brk X=>cases a;exact q
   |ret pv=>cases a;exact q
   |up x=>cases a;exact q
   |retO pv X=>cases a;exact q⟩
end
def Iz:Out->Option PV
 | .ret pv=>U pv
 | .next _=>U (.dat .none)
 |_=>J
noncomputable def E1(n N:Nat)(G:DO):FV:=λl=>if l.length=n then(G (N8 l++w5 (N-n) J)).bind Iz else J
section
variable{w:x5}{K:n6}{mg:Str->Option j5}
theorem DS.start(c:∀a∈O,∃u,H a=U u)(h:u5 K (p7 H [] O) L P):DS K O H (w5 (N8 P++w5 (Q.length-P.length) J).length J) (start Q L) H (N8 P++w5 (Q.length-P.length) J):=by
 have d:DS K O H (w5 (Q.length-P.length) J) (w5 (Q.length-P.length) J) H (w5 (Q.length-P.length) J) :=
  ⟨by simp,m3.refl H,λa z=>absurd z lS,c,λ_=>[],λi b z=>absurd z t7,λi j b z=>absurd z t7,λi pv z=>by have:=nL z;simp[NA]at this⟩
 have e:(w5 (N8 P++w5 (Q.length-P.length) J).length J:As)=w5 P.length J++w5 (Q.length-P.length) J:=by
  congr 1
  simp[N8]
 rw[e];delta L2.start;rw[h.length];exact(d.pre (by rw[Wu];exact h))
set_option tactic.hygienic true in
def tU.okF {b:Str} {g:List Str} (F:tU K o b d9 z b9) (S:jQ Q g (J2 d9)) (R:g.length<=Q.length) (d:∀(c:j5) (A:X9) (outer:List Env) (s:l5) (H:Hp) (E:XK),K7 m (A.deeper (eV b (J2 d9) (hz s) z c)) ->
   ∃t,iP (oM rE b5 w K mg a9 Q b (J2 d9) z c A outer s H E).Au (bj d9) t b4):ar b5 w K mg a9 rE (m+1) z b9 g (B5 K (E1 g.length Q.length b4)):=by
 have D:∀j H i E,B5 K (E1 g.length Q.length b4) j H i E->j.length=g.length:=λj H i E h=>by obtain⟨O,n,pv,x,u,a,q⟩:=h;obtain⟨l,a⟩:=D7 a;rw[u.length];exact l
 refine F.ok S D λc A outer s H j i E B h=>?_
 obtain⟨O,n,pv,x,u,a,q⟩:=h;obtain⟨t,y⟩:=d c A outer s H E B;refine⟨t,y.p,?_⟩;obtain⟨l,a⟩:=D7 a;rw[<-l]at a;obtain⟨P,e1,a⟩:=j3 a;refine y.t O H _ (L2.start Q j) H _ _ P (DS.start x u) e1 ?_;cases P with
 |next e=>cases a;exact λM L f I=>q _ f I.same Dt.non
 |ret C=>cases a;assumption
 |brk e=>exact nE a
 |cont e=>exact nE a
 |up o=>exact nE a
 |retO pv e=>exact nE a
end
instance {m:Nat} {i:Int}:Decidable (Bt m i):=decidable_of_iff (i.natAbs<2 ^ m) ⟨λh=>⟨h⟩,λh=>h.lt⟩
instance {i j:Int}:Decidable (Ac i j):=by delta Ac;infer_instance
noncomputable def Hn(g:Int->Int->f7):f7->f7->Option PV
 | .int i,.int j=>U (.dat (g i j))
 |_,_=>J
noncomputable def su(C:Int->Int->Prop)[∀i j,Decidable (C i j)](g:Int->Int->f7):f7->f7->Option PV
 | .int i,.int j=>if C i j then U (.dat (g i j))else J
 |_,_=>J
section
variable{K:n6}
def rP{g:Int->Int->V}{g':Int->Int->f7}(b:∀i j H,Dt K H (g i j) (g' i j)):dH K (lz g) (Hn g'):=by
 intro O h H x y d e pv Q D c f a q;cases c with
 |int i =>
  cases f with
  |int j =>
   cases a;exact⟨i,j,rfl,rfl,q _ H (m3.refl H) (b i j _)⟩
  |_=>exact nE a
 |_=>exact nE a
def rO{C c:Int->Int->Prop}[∀i j,Decidable (C i j)]{g:Int->Int->V}{g':Int->Int->f7}(k:∀i j,C i j->c i j)(f:∀i j H,Dt K H (g i j) (g' i j)):dH K (rI c g) (su C g'):=by
 intro O n H x y d e pv Q D h l b q;cases h with
 |int i =>
  cases l with
  |int j =>
   have a:=b;obtain⟨m,a⟩:=D7 a;cases a;exact⟨i,j,rfl,rfl,k i j m,q _ H (m3.refl H) (f i j _)⟩
  |_=>exact nE b
 |_=>exact nE b
def dR:=Hn λi j=>.int (i-j)
noncomputable def F7:=su (λi j=>Bt 60000 i/\Bt 60000 j) λi j=>.int (i*j)
def T7:=su (λ_ j=>j≠0/\Bt 8000 j) λi j=>.int (i.fdiv j)
def df:=su (λ_ j=>j≠0) λi j=>.int (i.fmod j)
def qA:=su Ac λi j=>.int (i ^ j.toNat)
def Ib:=su (λ_ j=>0<=j) λi j=>.int (i/2 ^ j.toNat)
def ri:=Hn λi j=>.bool (decide (i<j))
def AE:=Hn λi j=>.bool (decide (i<=j))
def uY:=Hn λi j=>.bool (decide (j<i))
def TH:=Hn λi j=>.bool (decide (j<=i))
def a0s:dH K (lz λi j=>.int (i-j)) dR:=rP λi j H=>.int _
def a0w:dH K (rI (λi j=>Bt 60000 i/\Bt 60000 j) λi j=>.int (i*j)) F7:=rO (λ_ _ h=>h) λi j H=>.int _
def Xa:dH K (rI (λ_ j=>j≠0/\Bt 8000 j) λi j=>.int (i.fdiv j)) T7:=rO (λ_ _ h=>h) λi j H=>.int _
def a0x:dH K (rI (λ_ j=>j≠0) λi j=>.int (i.fmod j)) df:=rO (λ_ _ h=>h) λi j H=>.int _
def a0u:dH K (rI Ac λi j=>.int (i ^ j.toNat)) qA:=rO (λ_ _ h=>h) λi j H=>.int _
def a0t:dH K (rI (λ_ j=>0<=j) λi j=>.int (i/2 ^ j.toNat)) Ib:=rO (λ_ _ h=>h) λi j H=>.int _
def WX:dH K (lz λi j=>.bl (decide (i<j))) ri:=rP λi j H=>.bl _
def a2i:dH K (lz λi j=>.bl (decide (i<=j))) AE:=rP λi j H=>.bl _
def a2k:dH K (lz λi j=>.bl (decide (j<i))) uY:=rP λi j H=>.bl _
def a2l:dH K (lz λi j=>.bl (decide (j<=i))) TH:=rP λi j H=>.bl _
def bP:f7->Option PV
 | .int i=>U (.dat (.int (-i)))
 |_=>J
def a0v:R1X K (rU λi=>.int (-i)) bP:=by
 intro O c H x d pv Q D b a q;cases b with
 |int i=>cases a;exact⟨i,rfl,q _ H (m3.refl H) (Dt.int _)⟩
 |_=>exact nE a
noncomputable def Z7:f7->f7->Option PV
 | .str i,.str j=>U (.dat (.bool (decide (i=j))))
 |d,e=>if ah d=Uf/\ah e=Uf then U (.dat (.bool (U0 d e)))else J
noncomputable def lj:f7->f7->Option PV
 | .str i,.str j=>U (.dat (.bool (!decide (i=j))))
 |d,e=>if ah d=Uf/\ah e=Uf then U (.dat (.bool (!PyData.eqv d e)))else J
def Ij(K:n6):R2:=λx y H Q=>rEq x y H Q\/∃d e,Dt K H x d/\Dt K H y e/\ah d=Uf/\ah e=Uf/\Q (.bl (U0 d e)) H
def Px(K:n6):R2:=λx y H Q=>rNe x y H Q\/∃d e,Dt K H x d/\Dt K H y e/\ah d=Uf/\ah e=Uf/\Q (.bl (!PyData.eqv d e)) H
def Lm(a:c.A.units+64<N6):S8 c (Z0 .Eq) (Ij c.K):=a0X.or (YT a)
def YN(a:c.A.units+64<N6):S8 c (Z0 .NotEq) (Px c.K):=a0T.or (YO a)
set_option tactic.hygienic true in
def Xb:dH K (Ij K) Z7:=by
 intro O g H x y d e pv Q D b f a q;unfold Z7 at a;split at a;cases a;cases b;cases f;rename_i i j;exact .inl ⟨rfl,q _ H (m3.refl H) (by rw[show decide (V.str i=V.str j)=decide (i=j) by simp];exact Dt.bl _)⟩;obtain⟨c,a⟩:=D7 a;cases a;exact .inr ⟨d,e,b.same t9,f.same t9,c.1,c.2,q _ H (m3.refl H) (Dt.bl _)⟩
set_option tactic.hygienic true in
def a2h:dH K (Px K) lj:=by
 intro O g H x y d e pv Q D b f a q;unfold lj at a;split at a;cases a;cases b;cases f;rename_i i j;exact .inl ⟨rfl,q _ H (m3.refl H) (by rw[show decide (V.str i=V.str j)=decide (i=j) by simp];exact Dt.bl _)⟩;obtain⟨c,a⟩:=D7 a;cases a;exact .inr ⟨d,e,b.same t9,f.same t9,c.1,c.2,q _ H (m3.refl H) (Dt.bl _)⟩
def lZ:f7->Bool
 | .none=>Uf
 |_=>U'
def Dt.GU(h:Dt K H a7 c9):decide (a7=.non)=lZ c9:=by cases h<;>rfl
def mI:f7->f7->Option PV
 |d,.none=>U (.dat (.bool (lZ d)))
 |_,_=>J
def gb:f7->f7->Option PV
 |d,.none=>U (.dat (.bool (!lZ d)))
 |_,_=>J
def a2j:dH K (λx y H Q=>y=.non/\Q (.bl (decide (x=.non))) H) mI:=by
 intro O f H x y d e pv Q D b c a q;cases c with
 |non=>cases a;exact⟨rfl,q _ H (m3.refl H) (by rw[b.GU];exact Dt.bl _)⟩
 |_=>exact nE a
def Um:dH K (λx y H Q=>y=.non/\Q (.bl (!decide (x=.non))) H) gb:=by
 intro O f H x y d e pv Q D b c a q;cases c with
 |non=>cases a;exact⟨rfl,q _ H (m3.refl H) (by rw[b.GU];exact Dt.bl _)⟩
 |_=>exact nE a
noncomputable def u9(d:f7):f7->Option PV
 | .int i=>match d with
  | .list l=>(V4 l i).bind λd=>U (.dat d)
  | .tuple l=>(V4 l i).bind λd=>U (.dat d)
  | .str z=>if z.length<=1000000 then(V4 z.cps.toList i).bind λc=>U (.dat (.str ⟨#[c]⟩))else J
  |_=>J
 |_=>J
theorem u5.V4{H:Hp}{xs:List V}{l:List f7}{i:Int}{d:f7}(h:u5 K H xs l)(e:L2.V4 l i=U d):∃x,L2.V4 xs i=U x/\Dt K H x d:=by
 unfold L2.V4 at e ⊢;rw[h.length];cases hi:eQ l.length i with
 |none=>simp_all
 |some j =>
  rw[hi]at e;exact h.get e
def WZ:dH K (wJ K) u9:=by
 intro O r H x y d e pv Q D p m f q;cases m with
 |int i=>cases p with
  |lst j n =>
   obtain⟨d,a,b⟩:=j3 f;cases b;obtain⟨v,h,k⟩:=n.V4 a;exact .inl ⟨_,_,i,v,rfl,rfl,t9.seq j,h,q v H (m3.refl H) k⟩
  |tup j n =>
   obtain⟨d,a,b⟩:=j3 f;cases b;obtain⟨v,h,k⟩:=n.V4 a;exact .inr (.inl ⟨_,_,i,v,rfl,rfl,t9.fP j,h,q v H (m3.refl H) k⟩)
  |str z =>
   obtain⟨o,b⟩:=D7 f;obtain⟨c,a,b⟩:=j3 b;cases b;exact .inr (.inr ⟨z,i,c,rfl,rfl,nU o,a,q _ H (m3.refl H) (Dt.str _)⟩)
  |_=>exact nE f
 |_=>exact nE f
end
def Ts(K:n6):R2:=λx y H Q=>∃a b xs ys,x=.ref a/\y=.ref b/\T9 K H a xs/\T9 K H b ys/\xs.length+ys.length<=A5 /\
 (xs=[]->Q (.ref b) H)/\(xs≠[]->ys=[]->Q (.ref a) H)/\(xs≠[]->ys≠[]->∀p,H p=J->Q (.ref p) (upd H p (.tup (xs++ys))))
def Tt(K:n6):R2:=λx y H Q=>∃a b xs ys,x=.ref a/\y=.ref b/\K6 K H a xs/\K6 K H b ys/\xs.length+ys.length<=A5/\∀p,H p=J->Q (.ref p) (upd H p (.lst (xs++ys)))
def VP:S8 c (V6 .Add) (Ts c.K):=by
 intro X s q H x y v u Q I f l h;obtain⟨a,b,g,w,rfl,rfl,i,j,t,n,q2,B⟩:=h;by_cases d:g=[];subst d;cases f;cases l;obtain⟨A,o,z,_⟩:=I.tuple i;obtain⟨k,C,r,_⟩:=I.tuple j;exact WC z r (o.ui.mpr rfl) ⟨.ref b,H,I,rfl,n rfl⟩;exact VQ X s q H (.ref a) (.ref b) v u Q I f l ⟨a,b,g,w,rfl,rfl,i,j,d,t,λe=>q2 d e,λe p m=>B d e p m⟩
def VR:S8 c (V6 .Add) (Tt c.K):=by
 intro w s V H x y v u Q I A P h;obtain⟨l,b,R,Y,rfl,rfl,G,B,W,q⟩:=h;cases A;cases P;obtain⟨X,r,L,S⟩:=I.list G;obtain⟨a,m,E,T⟩:=I.list B;obtain⟨⟨N,M,o,C⟩,t,D,n,O⟩:=L.isList;obtain⟨⟨p,f,g,i⟩,d,k,z,j⟩:=E.isList;subst D O k j;have e:X.toArray++a.toArray=(X++a).toArray:=by simp
 have:=r.length;have:=m.length;refine xY ⟨_,t,rfl⟩ ⟨_,d,rfl⟩ noFill_list_add seq_list_add PySem.F.slot_list_add PySem.F.entry_list_add (PySem.F.args_list_add_2 _ _) (list_addW l b X.toArray a.toArray n z M f C i (by simp;simp_all)) ⟨t,d,?_⟩;rw[e];exact⟨.ref _,_,I.Zm (r.append m) (by rw[Z4];subst_vars;assumption),rfl,q _ I.fresh⟩
def Ik(K:n6):R2:=λx y H Q=>(lz λi j=>.int (i+j)) x y H Q\/(∃i j,x=.str i/\y=.str j/\i.length+j.length<=A5/\Q (.str (i++j)) H)\/Ts K x y H Q\/Tt K x y H Q
def VS:S8 c (V6 .Add) (Ik c.K):=YU.or (IB.or (VP.or VR))
noncomputable def p8:f7->f7->Option PV
 | .int i,.int j=>U (.dat (.int (i+j)))
 | .str i,.str j=>if i.length+j.length<=1000000 then U (.dat (.str (i++j)))else J
 | .tuple l,.tuple m=>if l.length+m.length<=1000000 then U (.dat (.tuple (l++m)))else J
 | .list l,.list m=>if l.length+m.length<=1000000 then U (.own (l++m))else J
 |_,_=>J
set_option tactic.hygienic true in
def a0A:dH g (Ik g) p8:=by
 intro O A H x y d e pv Q D w r K q;cases w with
 |int i =>
  cases r with
  |int j=>cases K;exact .inl ⟨i,j,rfl,rfl,q _ H (m3.refl H) (Dt.int _)⟩
  |_=>exact nE K
 |str i =>
  cases r with
  |str j =>
   have c:=K;obtain⟨o,c⟩:=D7 c;cases c;exact .inr (.inl ⟨i,j,rfl,rfl,nU o,q _ H (m3.refl H) (Dt.str _)⟩)
  |_=>exact nE K
 |tup s k =>
  cases r with
  |tup h f =>
   rename_i a t l b u m;have c:=K;obtain⟨o,c⟩:=D7 c;cases c;refine .inr (.inr (.inl ⟨a,b,t,u,rfl,rfl,t9.fP s,t9.fP h,by rw[k.length,f.length];exact nU o,λe=>?_,λz v=>?_,λz v p n=>?_⟩));subst e;cases k;exact q _ H (m3.refl H) (Dt.tup h f);subst v;cases f;rw[aX]at q;exact q _ H (m3.refl H) (Dt.tup s k);exact q _ _ (m3.new n) (wD D n (k.append f))
  |_=>exact nE K
 |lst s k =>
  cases r with
  |lst h f =>
   rename_i a t l b u m;have c:=K;obtain⟨o,c⟩:=D7 c;cases c;exact .inr (.inr (.inr ⟨a,b,t,u,rfl,rfl,t9.seq s,t9.seq h,by rw[k.length,f.length];exact nU o,λp n=>q _ _ (m3.new n) (mB n (k.append f))⟩))
  |_=>exact nE K
 |_=>exact nE K
noncomputable def cutD(xs:List c6)(lo hi:Option Int):List c6:=(xs.drop (HT.K9 xs.length 0 lo)).take (HT.K9 xs.length xs.length hi-HT.K9 xs.length 0 lo)
def u5.cut(h:u5 g H L P)(lo a:Option Int):u5 g H (qN L lo a) (cutD P lo a):=by delta qN cutD;rw[h.length];exact(h.drop _).take _
def XN(K:n6):V->Option Int->Option Int->Hp->VK->Prop:=λx lo hi H Q=>∃a xs,x=.ref a/\T9 K H a xs/\(qN xs lo hi=xs->Q (.ref a) H)/\∀p,H p=J->Q (.ref p) (upd H p (.tup (qN xs lo hi)))
def UL:vh c (XN c.K):=by
 intro d s u H x v p q o j w Q I g m k l h;obtain⟨a,b,rfl,i,t,q2⟩:=h;by_cases e:HT.K9 b.length 0 o=0/\HT.K9 b.length b.length j=b.length
 . cases g;obtain⟨f,r,n,y⟩:=I.tuple i;have X:f.toArray.size=b.length:=by rw[R3];exact r.length.symm
   refine⟨"tuple",_,PyProof.Rows.slot_tuple_getitem.lookup,n.typeIs,?_⟩;refine Be n m k l (by rw[X];exact e) ⟨.ref a,H,I,rfl,t ?_⟩
   delta qN;simp_all
 exact XA d s u H (.ref a) v p q o j w Q I g m k l ⟨a,b,rfl,i,e,q2⟩
def XQ(K:n6):V->Option Int->Option Int->Hp->VK->Prop:=λx lo hi H Q=>XN K x lo hi H Q\/XO K x lo hi H Q
def XB:vh c (XQ c.K):=UL.or UM
noncomputable def rN:f7->Option Int->Option Int->Option PV
 | .tuple l,lo,hi=>U (.dat (.tuple (cutD l lo hi)))
 | .list l,lo,hi=>U (.own (cutD l lo hi))
 |_,_,_=>J
def R3X(K:n6)(r:V->Option Int->Option Int->Hp->VK->Prop)(f:f7->Option Int->Option Int->Option PV):Prop :=
 ∀(O:List Addr) (va:As) (H:Hp) (x:V) (lo hi:Option Int) (d:f7) (pv:PV) (Q:VK),qm H va O->Dt K (p7 H va O) x d->f d lo hi=U pv->(∀v H',m3 H H'->RX K O va H H' v pv->Q v H')->r x lo hi H Q
def a2g:R3X g (XQ g) rN:=by
 intro O k H x h f d pv Q D j K q;cases j with
 |tup b c =>
  cases K;refine .inl ⟨_,_,rfl,t9.fP b,λe=>?_,λp a=>q _ _ (m3.new a) (wD D a (c.cut h f))⟩;have i:=c.cut h f;rw[e]at i;exact q _ H (m3.refl H) (Dt.tup b i)
 |lst b c =>
  cases K;exact .inr ⟨_,_,rfl,t9.seq b,λp a=>q _ _ (m3.new a) (mB a (c.cut h f))⟩
 |_=>exact nE K
def TOX(K:n6)(to:TO)(F:Ds->Option (Option Int)):Prop :=
 ∀(O:List Addr) (u3:Hp) (as:As) (σ:St) (H:Hp) (ds:Ds) (b:Option Int) (Q:Option Int->Hp->Prop),DS K O u3 as σ H ds->F ds=U b->(∀H',m3 H H'->Q b H')->to σ H Q
structure MW(X:Cx)(e:Option Expr)(to:TO)(F:Ds->Option (Option Int)):Prop where
 p:PO X e to
 t:TOX X.K to F
noncomputable def uh:Ds->Option (Option Int):=λ_=>U J
def asI:f7->Option Int
 | .int i=>U i
 |_=>J
noncomputable def Y5(F:DV):Ds->Option (Option Int):=λds=>(F ds).bind λpv=>(asI pv.d).bind λi=>U (U i)
def Qt:MW c J Gn uh:=⟨Vy,by intro O a e f H d b Q S X q;cases X;exact q H (m3.refl H)⟩
def Qs{fr:Bool}(h:PX c fr e u r):MW c (U e) (Ta u) (Y5 r):=⟨Vx h.p,by
 intro O X k l H f b Q S a q;obtain⟨pv,h1,a⟩:=j3 a;refine h.t O X k l H f pv _ S h1 λv g m j=>?_
 have d:=j.dt S.dm;generalize pv.d=z at d a;cases d with
 |int i=>cases a;exact⟨i,rfl,q g m⟩
 |_=>exact nE a⟩
noncomputable def mN(f:f7->Option Int->Option Int->Option PV)(F:DV)(Fl Fh:Ds->Option (Option Int)):DV:=λds=>(F ds).bind λx=>(Fl ds).bind λlo=>(Fh ds).bind λhi=>f x.d lo hi
def PD{F:DV}{r:V->Option Int->Option Int->Hp->VK->Prop}{f:f7->Option Int->Option Int->Option PV}{lo K:Option Expr}{z t:TO}{n o:Ds->Option (Option Int)}(N:vh c r)(C:R3X c.K r f)(s:PX c I e u F)(y:MW c lo z n)(B:MW c K t o):
  PX c I (.Subscript e (.Slice lo K J p) A) (tSl r u z t) (mN f F n o):=⟨QB N s.p y.p B.p,by
 intro O a k m H X pv Q S b q;unfold mN at b;cases h1:F X with
 |none=>simp_all
 |some x =>
  cases h2:n X with
  |none=>rw[h1,h2]at b;exact nE b
  |some l =>
   cases h3:o X with
   |none=>rw[h1,h2,h3]at b;exact nE b
   |some h =>
    rw[h1,h2,h3]at b;refine s.t O a k m H X x _ S h1 λv L g D=>?_;refine y.t O a k m L X l _ (S.grow g) h2 λM i=>?_;refine B.t O a k m M X h _ ((S.grow g).grow i) h3 λG j=>?_;refine C O (X4 I k) G v l h x.d pv Q (((S.grow g).grow i).grow j).dm ((D.grow (i.trans j)).dt S.dm) b λw P E d=>?_
    exact q w P (((g.trans i).trans j).trans E) (d.back ((g.trans i).trans j))⟩
def d1(f:f7->Option PV):FV
 | [d]=>f d
 |_=>J
def vi.one{f:f7->Option PV}(h:R1X g (λx=>i7 [x]) f):vi g i7 (d1 f):=by
 intro O c H K i pv Q D b a q;cases b with
 |nil=>exact nE a
 |cons e t =>
  cases t with
  |nil=>exact h O c H _ _ pv Q D e a q
  |cons _ _=>exact nE a
def Pz(K:n6):List V->Hp->VK->Prop:=λxs H Q=>(∃p ys,xs=[.ref p]/\(K6 K H p ys\/T9 K H p ys)/\Q (.int ys.length) H)\/(∃z,xs=[.str z]/\z.length<=A5/\Q (.int z.length) H)
def MO:dB c (.builtin "len") (Pz c.K):=Dz.or Dx
noncomputable def A9:FV:=d1 fun
 | .list l=>U (.dat (.int (l.length:Nat)))
 | .tuple l=>U (.dat (.int (l.length:Nat)))
 | .str z=>if z.length<=1000000 then U (.dat (.int (z.length:Nat)))else J
 |_=>J
def u5.inv1(h:u5 g H L [c9]):∃x,L=[x]/\Dt g H x c9:=by
 cases h with
 |cons h t=>cases t;exact⟨_,rfl,h⟩
def a0z:vi g (Pz g) A9:=.one λO K H x i pv Q D b a q=>by
 cases b with
 |lst c d=>cases a;exact .inl ⟨_,_,rfl,.inl (t9.seq c),q _ H (m3.refl H) (by rw[d.length];exact Dt.int _)⟩
 |tup c d=>cases a;exact .inl ⟨_,_,rfl,.inr (t9.fP c),q _ H (m3.refl H) (by rw[d.length];exact Dt.int _)⟩
 |str =>
  obtain⟨e,a⟩:=D7 a;cases a;exact .inr ⟨_,rfl,nU e,q _ H (m3.refl H) (Dt.int _)⟩
 |_=>exact nE a
noncomputable def oP:FV:=d1 fun
 | .int i=>U (.dat (.int (if i<0 then -i else i)))
 |_=>J
def a0B:vi g (λxs H Q=>∃i,xs=[.int i]/\Q (.int (if i<0 then -i else i)) H) oP:=.one λO c H x d pv Q D b a q=>by
 cases b with
 |int=>cases a;exact⟨_,rfl,q _ H (m3.refl H) (Dt.int _)⟩
 |_=>exact nE a
noncomputable def cW:FV:=d1 fun
 | .list l=>U (.dat (.tuple l))
 | .tuple l=>U (.dat (.tuple l))
 |_=>J
def Ul:vi g (λxs H Q=>∃p ys,xs=[.ref p]/\((K6 g H p ys/\∀l,H l=J->Q (.ref l) (upd H l (.tup ys)))\/(T9 g H p ys/\Q (.ref p) H))) cW:=.one λO f H x K pv Q D d a q=>by
 cases d with
 |lst b c=>cases a;exact⟨_,_,rfl,.inl ⟨t9.seq b,λp e=>q _ _ (m3.new e) (wD D e c)⟩⟩
 |tup b c=>cases a;exact⟨_,_,rfl,.inr ⟨t9.fP b,q _ H (m3.refl H) (Dt.tup b c)⟩⟩
 |_=>exact nE a
noncomputable def xh:FV:=d1 fun
 | .list l=>U (.own l)
 | .tuple l=>U (.own l)
 |_=>J
def WY:vi g (λxs H Q=>∃p ys,xs=[.ref p]/\(K6 g H p ys\/T9 g H p ys)/\∀l,H l=J->Q (.ref l) (upd H l (.lst ys))) xh:=.one λO f H x K pv Q D e b q=>by
 cases e with
 |lst c d=>cases b;exact⟨_,_,rfl,.inl (t9.seq c),λp a=>q _ _ (m3.new a) (mB a d)⟩
 |tup c d=>cases b;exact⟨_,_,rfl,.inr (t9.fP c),λp a=>q _ _ (m3.new a) (mB a d)⟩
 |_=>exact nE b
abbrev a0F(K:n6):List V->Hp->VK->Prop:=λxs H Q=>∃p ys,xs=[.ref p]/\((K6 K H p ys/\∀l,H l=J->Q (.ref l) (upd H l (.tup ys)))\/(T9 K H p ys/\Q (.ref p) H))
abbrev XS(K:n6):List V->Hp->VK->Prop:=λxs H Q=>∃p ys,xs=[.ref p]/\(K6 K H p ys\/T9 K H p ys)/\∀l,H l=J->Q (.ref l) (upd H l (.lst ys))
def PU(i:c.K=g)(G:ar c.prog c.w g c.mg c.base d6 m z b9 Q (B5 g d3))(n:K7 m c.A)(h:Gl c o)(r:c.mg o=U (.ref z))(t:gA g (.ref z)=Uf)(j:Binds g b9 Q [])(l:Passes d6 c c8)(q:cT c I (e::Z) M S)(a:autoParam ((o==("__debug__" : Str))=U') E5)(X:autoParam (m8 (e::Z) c.env=(U',eval e c.env)::m8 Z c.env) k6)(b:autoParam ((C6 A (m8 Z c.env)).any (·.1)=U') k6):
  PX c I (.Call (.Name o p) (e::Z) [] A) (qv (B5 g d3) [] c8 M) (f9 d3 S):=by subst i;exact Vh G n h r t j l q a X b
noncomputable def wZ(i:Nat)(ds:Ds):Nat:=match ds[i]? with
 |some (U (.dat (.int k)))=>k.natAbs+1
 |_=>0
def UK(h:K6 g H z L):K6 g (p7 H [] []) z L:=by assumption
def RQ:∀ns:List Int,u5 g H (ns.map V.int) (ns.map V0):=by
 intro l_;induction l_ with
 |nil =>
  exact .nil
 |cons n r ih_ =>
  exact .cons (.int n) (ih_)
def Wz(r:RX g [] [] H q a7 (.dat (.bool Uf))):a7=.bl Uf:=by cases r;rfl
def aZ(o:Option Out)(G:DO):Option Out:=o.bind λo=>match o with
 | .next ds'=>G ds'
 |o=>U o
def q9(a G2:DO)(ds:Ds):j9 a G2 ds=aZ (a ds) G2:=rfl
def o5(ds:Ds)(G:DO):aZ (U (.next ds)) G=G ds:=rfl
def Pn(pv:PV)(G:DO):aZ (U (.ret pv)) G=U (.ret pv):=rfl
def Ss(b:Bool):Ua (.bool b)=U b:=rfl
def Ie(l:List f7):lE (.list l)=U l:=rfl
def Kv(l:List f7):lE (.tuple l)=U l:=rfl
def QN(pv:PV):Iz (.ret pv)=U pv:=rfl
def Lk(ds:Ds):Iz (.next ds)=sd .none:=rfl
noncomputable def Zr(o:Option PV)(i:Nat)(ds:Ds):Option Out:=o.bind λpv=>U (.next (ds.set i (U (.dat pv.d))))
def dg(i:Nat)(F:DV)(ds:Ds):k9 i F ds=Zr (F ds) i ds:=rfl
def so(pv:PV)(i:Nat)(ds:Ds):Zr (U pv) i ds=U (.next (ds.set i (sd pv.d))):=rfl
def CD(o:Option PV)(i:Nat)(ds:Ds):Option Out:=o.bind λpv=>U (.next (ds.set i (U pv)))
def uw(i:Nat)(F:DV)(ds:Ds):O8 i F ds=CD (F ds) i ds:=rfl
def LY(pv:PV)(i:Nat)(ds:Ds):CD (U pv) i ds=U (.next (ds.set i (U pv))):=rfl
noncomputable def Aa(o:Option PV)(i:Nat)(ds:Ds):Option Out:=o.bind λpv=>match ds[i]? with
 |some (U (.own l))=>if l.length<1000000 then U (.next (ds.set i (U (.own (l++[pv.d])))))else J
 |_=>J
def jF(i:Nat)(F:DV)(ds:Ds):cy i F ds=Aa (F ds) i ds:=rfl
def cQ{l:List f7}(pv:PV)(h:G[m]? = U (U (.own l)))(a:l.length<1000000):Aa (U pv) m G=U (.next (G.set m (U (.own (l++[pv.d]))))):=by
 delta Aa
 simp_all
abbrev iD(n:Int):Option PV:=U (.dat (.int n))
def a1w(x:c6)(l:List c6):V4 (x::l) 0=U x:=by delta V4 eQ;rw[j2 f5,j2 t7];rfl
def dQ{l:List c6}{n:Nat}(a:a6=(n:Int))(h:n<l.length):V4 l a6=l[n]?:=by subst a;delta V4 eQ;rw[j2 o9,j2 o9];simp
def a1v(x y:c6)(l:List c6):V4 (x::y::l) 1=U y:=dQ rfl t7
def a1u(x y z:c6)(l:List c6):V4 (x::y::z::l) 2=U z:=dQ rfl t7
def a1t(x y z u:c6)(l:List c6):V4 (x::y::z::u::l) 3=U u:=dQ rfl t7
def a1s(x y z u v:c6)(l:List c6):V4 (x::y::z::u::v::l) 4=U v:=dQ rfl t7
def a1r(x y z u v w:c6)(l:List c6):V4 (x::y::z::u::v::w::l) 5=U w:=dQ rfl t7
def Sw(i j:Int):p8 (.int i) (.int j)=sd (.int (i+j)):=rfl
def Pe(i j:Int):dR (.int i) (.int j)=sd (.int (i-j)):=rfl
def t6{j:Int}(h:Bt 60000 a6)(k:Bt 60000 j):F7 (.int a6) (.int j)=sd (.int (a6*j)):=by
 delta F7 su
 simp_all
def J5{j:Int}(h:j≠0)(k:Bt 8000 j):T7 (.int a6) (.int j)=sd (.int (a6.fdiv j)):=by
 delta T7 su
 simp_all
def aM{j:Int}(h:j≠0):df (.int a6) (.int j)=sd (.int (a6.fmod j)):=j2 h
def Cd{j:Int}(h:Ac a6 j):qA (.int a6) (.int j)=sd (.int (a6 ^ j.toNat)):=j2 h
def Pj{j:Int}(h:0<=j):Ib (.int a6) (.int j)=sd (.int (a6/2 ^ j.toNat)):=j2 h
def Wi(i j:Int):ri (.int i) (.int j)=sd (.bool (decide (i<j))):=rfl
def Wv(i j:Int):uY (.int i) (.int j)=sd (.bool (decide (j<i))):=rfl
def Ww(i j:Int):TH (.int i) (.int j)=sd (.bool (decide (j<=i))):=rfl
def vQ(i j:Int):Z7 (.int i) (.int j)=sd (.bool (decide (i=j))):=by rfl
def Rg(i j:Int):lj (.int i) (.int j)=sd (.bool (!decide (i=j))):=by rfl
def pz(l:List f7)(i:Int):u9 (.tuple l) (.int i)=(V4 l i).bind λd=>sd d:=rfl
def qH(l:List f7)(i:Int):u9 (.list l) (.int i)=(V4 l i).bind λd=>sd d:=rfl
def Sy(i:Int):oP [.int i]=sd (.int (if i<0 then -i else i)):=rfl
def Rc(i:Int):bP (.int i)=sd (.int (-i)):=rfl
def LZ(l:List f7):A9 [.list l]=sd (.int (l.length:Nat)):=rfl
def qG(l:List f7):A9 [.tuple l]=sd (.int (l.length:Nat)):=rfl
def Ke(l:List f7):cW [.list l]=sd (.tuple l):=rfl
def OU(l:List f7):cW [.tuple l]=sd (.tuple l):=rfl
def Jf(l:List f7):xh [.list l]=U (.own l):=rfl
def LW(l:List f7):xh [.tuple l]=U (.own l):=rfl
def Su{m:List f7}(h:P.length+m.length<=1000000):p8 (.tuple P) (.tuple m)=sd (.tuple (P++m)):=j2 h
def MS{m:List f7}(h:P.length+m.length<=1000000):p8 (.list P) (.list m)=U (.own (P++m)):=j2 h
def Sv{m:Str}(h:o.length+m.length<=1000000):p8 (.str o) (.str m)=sd (.str (o++m)):=j2 h
def UN(l:List f7)(lo a:Option Int):rN (.tuple l) lo a=sd (.tuple (cutD l lo a)):=rfl
def Rv(d:f7):mI d .none=sd (.bool (lZ d)):=rfl
def Ga(d:f7):gb d .none=sd (.bool (!lZ d)):=rfl
def O7(h : -(4611686018427387904)<=a6/\a6<4611686018427387904):C9 [.int a6]=U (Q1 0 a6.toNat):=@if_pos _ (yB _) h _ _ _
def BR{j:Int}(h:(-(4611686018427387904)<=a6/\a6<4611686018427387904)/\-(4611686018427387904)<=j/\j<4611686018427387904):jx [.int a6,.int j]=U (Q1 a6 (j-a6).toNat):=@if_pos _ (yB _) h _ _ _
def Se{f:f7->f7}:∀{items:List f7},(∀x∈items,∃bs pv,g8 x=U bs/\r (N8 bs++G)=U pv/\pv.d=f x)->L8 g8 q5 r G items=U (items.map f):=by
 intro l_;induction l_ with
 |nil =>
  intro _;exact rfl
 |cons x d ih_ =>
  intro h;obtain⟨bs,pv,b,e,c⟩:=h x v8;unfold L8;rw[b];simp only[n8,q5];rw[e];rw[ih_ (λy a=>h y (u7 _ a))];simp[c]
def qP{f:Nat->f7}(h:∀i,i<m->∃pv,r (sd (.int (a6+(i:Nat)))::G)=U pv/\pv.d=f i):L8 p6 q5 r G (Q1 a6 m)=U ((A3 m).map f):=by
 have a:∀(l:List Nat),(∀i∈l,i<m)->L8 p6 q5 r G (l.map λk=>V0 (a6+(k:Nat)))=U (l.map f):=by
  intro l;induction l with
  |nil=>intro _;rfl
  |cons i n o =>
   intro b;obtain⟨pv,g,c⟩:=h i (b i v8);rw[v5];unfold L8;simp only[p6,n8,q5,oq,qM,ak,aW];rw[g];rw[o (λj d=>b j (u7 _ d))];simp[c]
 exact a _ (λi e=>mem_range.mp e)
def dh{gt:f7->DD}{G:DO}{lo:Int}{n:Nat}(I:Nat->Ds->Prop){ds:Ds}(l:I 0 ds)(hs:∀i ds,i<n->I i ds->∃ds1 ds2,gt (.int (lo+(i:Nat))) ds=U ds1/\(G ds1=U (.next ds2)\/G ds1=U (.cont ds2))/\I (i+1) ds2):∃ds',X7 gt G (Q1 lo n) ds=U (.next ds')/\I n ds':=by
 have c:∀(k i) ds,i+k=n->I i ds->∃ds',X7 gt G ((List.range' i k).map λk=>V0 (lo+(k:Nat))) ds=U (.next ds')/\I n ds':=by
  intro k;induction k with
  |zero =>
   intro i ds e b;have d:i=n:=by lia
   subst d;exact⟨ds,rfl,b⟩
  |succ k o =>
   intro i ds e b;obtain⟨ds1,ds2,h,a,g⟩:=hs i ds j7 b;rw[Nm,v5];unfold X7;rw[h];simp only[n8];obtain⟨ds',j,f⟩:=o (i+1) ds2 j7 g;refine⟨ds',?_,f⟩;rcases a with a|a<;>rw[a]<;>exact j
 obtain⟨ds',m,d⟩:=c n 0 ds (pV _ _) l;refine⟨ds',?_,d⟩;unfold Q1;rw[NM];exact m
def eT{gt:f7->DD}{G:DO}{items:List f7}(I:Nat->Ds->Prop){ds:Ds}(m:I 0 ds)(hs:∀i d ds,items[i]? = U d->I i ds->∃ds1 ds2,gt d ds=U ds1/\(G ds1=U (.next ds2)\/G ds1=U (.cont ds2))/\I (i+1) ds2):∃ds',X7 gt G items ds=U (.next ds')/\I items.length ds':=by
 have g:∀r i ds,items.drop i=r->i<=items.length->I i ds->∃ds',X7 gt G r ds=U (.next ds')/\I items.length ds':=by
  intro r;induction r with
  |nil =>
   intro i ds e n f;have:=List.drop_eq_nil_iff.mp e;have o:i=items.length:=by lia
   subst o;exact⟨ds,rfl,f⟩
  |cons x r p =>
   intro i ds e n f;have a:i<items.length:=by
    by_cases c:i<items.length;exact c;rw[List.drop_eq_nil_of_le (nu k8)]at e;cases e
   rw[qk a]at e;injection e with ea eb
   obtain⟨ds1,ds2,j,b,h⟩:=hs i x ds (by rw[F2 a,ea]) f
   unfold X7;rw[j];simp only[n8];obtain⟨ds',k,l⟩:=p (i+1) ds2 eb k8 h;refine⟨ds',?_,l⟩;rcases b with b|b<;>rw[b]<;>exact k
 exact g items 0 ds rfl (gs _) m
def BB{ds:Ds}(h:a8 ds=U U'):J7 a8 b4 (m+1) ds=U (.next ds):=by unfold J7;rw[h];rfl
def FF{ds ds2:Ds}(h:a8 ds=U Uf)(k:b4 ds=U (.next ds2)):J7 a8 b4 (m+1) ds=J7 a8 b4 m ds2:=by rw[J7,h];rw[k];rfl
def Af{Fc:DB}(I:Ds->Prop)(μ:Ds->Nat)(hs:∀ds,I ds->Fc ds=U U'\/(Fc ds=U Uf/\∃ds2,b4 ds=U (.next ds2)/\I ds2/\μ ds2<μ ds)):
  ∀(n:Nat) (ds:Ds),I ds->μ ds<n->∃ds',J7 Fc b4 n ds=U (.next ds')/\I ds'/\Fc ds'=U U':=by
 intro n;induction n with
 |zero=>intro ds _ h;exact lI
 |succ n c =>
  intro ds a d;rcases hs ds a with h|⟨h,ds2,k,b,f⟩
  exact⟨ds,BB h,a,h⟩;obtain⟨ds',e,r⟩:=c ds2 b j7;exact⟨ds',by rw[FF h k];exact e,r⟩
def Bt.nX(b : -4611686018427387904<a6)(c:a6<4611686018427387904)(a:autoParam (62<=m) E5):Bt m a6:=(Bt.small o9 o9).mono a
def Bt.lit(a:autoParam (-4611686018427387904<a6) E5)(c:autoParam (a6<4611686018427387904) E5)(b:autoParam (62<=m) E5):Bt m a6:=Bt.nX a c b
noncomputable def uA(i:Nat)(f:List f7->List f7):DO:=λds=>match ds[i]? with
 |some (U (.own l))=>U (.next (ds.set i (U (.own (f l)))))
 |_=>J
section
set_option tactic.hygienic true in
def Vq{apos:Pos}(i:Nat)(m:PE c e (G4 i))(b:autoParam (Z2 e "reverse" c.env (eval e c.env)=eval e c.env) k6)(X:autoParam ((apos.endLine==A.line)=Uf) k6)(hs:autoParam (ag (.Call (.Attribute e "reverse" apos) [] [] A) J p.line c.env=pure U') k6):
  H0 c (.Expr (.Call (.Attribute e "reverse" apos) [] [] A) p) (ub (Xw c.K "list" BW (G4 i))) (uA i DZ) :=
 ⟨oY (YG qj PySem.F.slot_list_reverse PySem.F.type_list_reverse IV m b X) hs,by
 intro O o n k H r D e S h q;unfold uA at h;split at h;rename_i l g;cases h;obtain⟨a,j,f,s,d,t⟩:=S.slot i _ g;exact⟨_,f,.inl ⟨rfl,j,K6.of d⟩,a,j,rfl,rfl,d,q n k _ (S.turn g f t.reverse)⟩
 . exact nE h⟩
noncomputable def vN(i:Nat)(F:DV):DO:=λds=>(F ds).bind λpv=>match pv,ds[i]? with
 | .own m,U (U (.own l))=>if l.length+m.length<=1000000 then U (.next (ds.set i (U (.own (l++m)))))else J
 |_,_=>J
set_option tactic.hygienic true in
def Vs {apos:Pos} (i:Nat) (L:PE c E (G4 i)) (F:PX c Uf e u r) (j:autoParam (m8 [e] c.env=(U',eval e c.env)::m8 [] c.env) k6) (d:autoParam (Z2 E "extend" c.env (eval E c.env)=eval E c.env) k6) (k:autoParam (((C6 A (m8 [e] c.env)).all (λx=>!x.1)&&(aQ A (dq [] c.env)).all (λx=>x.1.isSome)
   && decide ([e].length+([]:List aa).length+(if ([]:List aa).isEmpty then 0 else 1)<30))=Uf) k6)
  (f:autoParam ((apos.endLine==A.line)=Uf) k6) (X:autoParam ((C6 A (m8 [] c.env)).any (·.1)=U') k6)
  (hs:autoParam (ag (.Call (.Attribute E "extend" apos) [e] [] A) J p.line c.env=pure U') k6) :
  H0 c (.Expr (.Call (.Attribute E "extend" apos) [e] [] A) p) (ub (Gp c.K "list" GB (G4 i) (qu u qs))) (vN i r) :=
 ⟨oY (wO qj PySem.F.slot_list_extend PySem.F.type_list_extend LM L (lW F.p rV j) d k f j X) hs,by
 intro O g B s H y D E S h q;obtain⟨pv,e1,h⟩:=j3 h;split at h;rename_i m l G;obtain⟨R,h⟩:=D7 h;cases h;obtain⟨a,K,C,T,t,w⟩:=S.slot i _ G;refine⟨_,C,.inl ⟨rfl,K,K6.of t⟩,?_⟩;refine F.t O g B s H y _ _ S e1 λv P n I=>?_;obtain⟨b,N,rfl,Q,M,o⟩:=I;have:=w.length;have:=o.length;refine⟨a,b,K,N,rfl,rfl,n _ _ t,M,nU o9,q B s _ ?_⟩;exact(S.grow n).turn G C ((w.same (L0 n)).append (o.same (Y7 (m3.refl _) λb z=>u7 _ z)))
 . exact nE h⟩
noncomputable def bX(i:Nat)(Fk Fv:DV):DO:=λds=>(Fv ds).bind λpv=>(Fk ds).bind λk=>match k.d,ds[i]? with
 | .int k,U (U (.own l))=>(eQ l.length k).bind λj=>U (.next (ds.set i (U (.own (l.set j pv.d)))))
 |_,_=>J
set_option tactic.hygienic true in
def Qa {te:TE} {k:Expr} {Fk:DV} (i:Nat) (Q:PE c E (G4 i)) (b:PX c Uf k u Fk) (x:PX c Uf e te r) (N:autoParam (∀v,assign (.Subscript E k A) c.env v=(do
   let ov <- holding [v] (eval E c.env)
   let iv <- holding [v,ov] (eval k c.env)
   bH A
   holding [v,ov,iv] (pO ov iv v)
   release [v,ov,iv] [])) Q4)
  (hs:autoParam (tq [.Subscript E k A] e p.line c.env=pure U') k6) (P:autoParam (tm [.Subscript E k A] e c.env=pure J) k6)
  (R:autoParam ((gr [.Subscript E k A] c.env).map (·.2)=[assign (.Subscript E k A) c.env]) k6) :
  H0 c (.Assign [.Subscript E k A] e p) (fO te (CS (G4 i) u wI)) (bX i Fk r):=⟨wK x.p (wM Q b.p set_list N) hs P R,by
 intro O X F m H f D E S h q;unfold bX at h;cases e1:r f with
 |none=>rw[e1]at h;exact nE h
 |some pv =>
  cases e2:Fk f with
  |none=>rw[e1,e2]at h;exact nE h
  |some kv =>
   rw[e1,e2]at h;simp only[n8]at h;split at h;rename_i s l n C;obtain⟨j,e3,h⟩:=j3 h;cases h;refine x.t O X F m H f pv _ S e1 λv o I K=>?_;have d:=S.grow I;obtain⟨a,M,B,V,G,y⟩:=d.slot i _ C;refine⟨_,B,?_⟩;refine b.t O X F m o f kv _ d e2 λw T g L=>?_;have z:=L.dt d.dm;rw[n]at z;cases z;refine⟨a,M,s,j,rfl,rfl,g _ _ G,by rw[y.length];exact e3,q F m _ ?_⟩;exact(d.grow g).turn C B ((y.same (L0 g)).set j ((K.grow g).dt S.dm))
   . exact nE h⟩
end
noncomputable def zR(i:Nat)(F:DV):DV:=λds=>match ds[i]? with
 |some (U (.dat d))=>(F ds).bind λk=>u9 d k.d
 |some (U (.own l))=>(F ds).bind λk=>u9 (.list l) k.d
 |_=>J
noncomputable def intsOf:List f7->Option (List Int)
 | []=>U []
 | .int i::r=>(intsOf r).bind λl=>U (i::l)
 |_=>J
noncomputable def BJ:FV:=d1 fun
 | .list l=>(intsOf l).bind λis=>U (.dat (.int is.sum))
 |_=>J
noncomputable def T8:Int->List f7->List f7
 |_,[]=>[]
 |k,d::r=>.tuple [.int k,d]::T8 (k+1) r
noncomputable def bZ:List f7->Option (List f7)
 | [d]=>(lE d).bind λl=>U (T8 0 l)
 |_=>J
def Sk(a b:Prop)[Decidable a][Decidable b]:(if a then U (PV.dat (.bool (decide b)))else U (PV.dat (.bool U')))=U (PV.dat (.bool (decide (a/\b)))):=by
 by_cases h:a;rw[j2 h];simp[h];rw[j1 h];simp[h]
def Kl(l:List f7):BJ [.list l]=(intsOf l).bind λis=>sd (.int is.sum):=rfl
def My(d:f7):bZ [d]=(lE d).bind λl=>U (T8 0 l):=rfl
def qR(pv:PV)(h:G[m]? = U (U (.own P)))(a:P.length<1000000):Aa (U pv) m G=U (.next (G.set m (U (.own (P++[pv.d]))))):=cQ pv h a
def CW(gt:f7->DD)(G:DO)(ds:Ds):X7 gt G [] ds=U (.next ds):=rfl
def C8{ds ds1 ds2:Ds}(b:i8 c9 ds=U ds1)(a:b4 ds1=U (.next ds2)):X7 i8 b4 (c9::P) ds=X7 i8 b4 P ds2:=by
 rw[X7,b]
 simp_all
def comp_map{g f:c6->f7}:∀{l:List c6},(∀x∈l,∃pv,r (sd (g x)::G)=U pv/\pv.d=f x)->L8 p6 q5 r G (l.map g)=U (l.map f):=by
 intro l_;induction l_ with
 |nil =>
  intro _;exact rfl
 |cons x a ih_ =>
  intro h;obtain⟨pv,e,c⟩:=h x v8;rw[v5];unfold L8;simp only[p6,n8,q5,oq,qM,ak,aW];rw[e];rw[ih_ (λy b=>h y (u7 _ b))];simp[c]
def ints_map(f:c6->Int):∀l:List c6,intsOf (l.map λx=>.int (f x))=U (l.map f):=by
 intro l_;induction l_ with
 |nil =>
  exact rfl
 |cons x r ih_ =>
  rw[v5,intsOf,ih_];rfl
section
set_option tactic.hygienic true in
def Yi(i:Nat)(b:PE c E (G4 i))(s:PX c I e u r)(hs:autoParam (ic e) jO):PX c I (.Subscript E e p) (my (wJ c.K) (G4 i) u) (zR i r):=⟨wN sr b s.p hs,by
 intro O f w A H D pv Q S X q;unfold zR at X;split at X;rename_i d n;obtain⟨k,z,X⟩:=j3 X;obtain⟨v,T,x⟩:=S.slot i _ n;refine⟨v,T,s.t O f w A H D k _ S z λy m o h=>?_⟩;exact WZ O (X4 I w) m v y d k.d pv Q (S.grow o).dm (x.same (fm.trans (L0 o))) (h.dt S.dm) X λK t B P=>q K t (o.trans B) (P.back o)
 . rename_i l n;obtain⟨k,z,X⟩:=j3 X;obtain⟨a,M,T,B,L,x⟩:=S.slot i _ n;refine⟨_,T,s.t O f w A H D k _ S z λy m o h=>?_⟩
   have C:=h.dt S.dm;generalize k.d=R at X C;cases C with
   |int j =>
    have g:=X;obtain⟨d,F,g⟩:=j3 g;cases g;obtain⟨v,G,N⟩:=x.V4 F;exact .inl ⟨a,M,j,v,rfl,rfl,K6.of (o _ _ L),G,q v m o (Dt.same (fm.trans (L0 o)) N)⟩
   |_=>exact nE X
 . exact nE X⟩
def jA(a:Gl c o)(h:c.mg o=U b6/\RelV a7 b6/\∀H,Dt c.K H a7 c9)(hd:autoParam ((o==("__debug__" : Str))=U') E5):PX c I (.Name o p) (tC a7) (fC c9) :=
 BY (VG a h.1 h.2.1 hd) h.2.2
end
def Sd{d:Array (Option j5)}(c:g.lookup z=U ⟨.type "tuple",g0,.seq b7 m,d⟩)(hz:b7.size<=1000)(r:Vals L b7.toList)(hd:∀H,u5 g H L P)(H:Hp):Dt g H (.ref z) (.tuple P) :=
 .tup (.inr ⟨_,b7,m,c,rfl,rfl,p5 hz (by rw[pT];decide),r⟩) (hd H)
theorem qq:∀{ns:List Int} {us:List j5},Vals (ns.map V.int) us->cz us ns
 | [],_,.nil=>.nil
 |n::r,_,.cons h t=>by obtain⟨k,rfl⟩:=h;exact .cons n k (qq t)
def Ih(K:n6):List V->Hp->VK->Prop:=λxs H Q=>∃(p:Addr) (ns:List Int),xs=[.ref p]/\K6 K H p (ns.map V.int)/\Q (.int ns.sum) H
def MN(f:c.A.handled=J):dB c (.builtin "sum") (Ih c.K):=by
 intro d s t H z v Q I r h;obtain⟨p,a,rfl,hq,q⟩:=h;obtain⟨u,rfl,g⟩:=vals1 r;cases g;obtain⟨i,n,k,x⟩:=I.list hq;have X:=qq n;obtain⟨j,e⟩:=X.allInts.items;have b:=k.isList;rw[e]at b;have o:j.toList.map (·.1)=a:=by rw[<-nums_intItems,<-e];exact X.numsOf
 refine sum_intListG f b λy w l m=>?_;rw[preSum_eq,NY t7,o];exact⟨.int a.sum,H,I.kept m,⟨l,rfl⟩,q⟩
def u5.ints:∀{xs:List V} {is:List Int},u5 g H xs P->intsOf P=U is->xs=is.map V.int:=by
 induction P with
 |nil=>intro _ _ h e;cases h;cases e;rfl
 |cons d P i =>
  intro _ _ h e;cases h with
  |cons h t =>
  cases h with
  |int =>
   obtain⟨a,b,e⟩:=j3 e;cases e;rw[i t b];rfl
  |_=>exact nE e
def WV:vi g (Ih g) BJ:=.one λO m H x k pv Q D K b q=>by
 cases K with
 |lst d h =>
  obtain⟨c,e,b⟩:=j3 b;cases b;cases h.ints e;exact⟨_,c,rfl,t9.seq d,q _ H (m3.refl H) (Dt.int _)⟩
 |_=>exact nE b
def KS{nb:List Str}{iter:Expr}{pos:Pos}{wi:TI}{g:TG}(t:c.N.Nodup)(b:c.N[m]? = U o)(w:Loc c.env.scope o)(f:c.calm=Uf)(B:jq c Q nb c5)(j:eU c Uf E iter wi S)(i:jg Q.length g)(k:∀cl C fp s H pins,PG (S7 c Q nb c5 cl C fp s H pins) E g)(d:sH c.K Q.length g g8)(L:∀cl C fp s H pins,lJ (S7 c Q nb c5 cl C fp s H pins) Z b3 a8)(l:∀cl C fp s H pins,PX (S7 c Q nb c5 cl C fp s H pins) Uf e u r)(X:autoParam (ag (.ListComp e [⟨E,iter,Z,0⟩] c5 p) (U (.Name o A)) pos.line c.env=pure Uf) k6)(y:autoParam (c.fn o=Uf\/c.env.scope.names.lookup o=U .local) bC)(hs:autoParam (∀o,dw iter c.env o=pure o) Q4):H0 c (.Assign [.Name o A] (.ListComp e [⟨E,iter,Z,0⟩] c5 p) pos) (fO (gF Q wi g b3 u) (Y9 m)) (k9 m (p9 S g8 a8 r)) :=
 ⟨yS t b w f B j.p i k (λ_ _ _ _ _ _=>(L _ _ _ _ _ _).p) (λ_ _ _ _ _ _=>(l _ _ _ _ _ _).p) X y hs,by
 intro O a x K H n D M I h q;obtain⟨pv,e1,h⟩:=j3 h;cases h;refine((yR (pos:=p) f B j i k d L l hs).t) O a x K H n pv _ I e1 λv F G z=>?_
 exact q _ _ _ ((I.grow G).set m (z.dt I.dm))⟩
def KR{nb:List Str}{iter:Expr}{pos:Pos}{wi:TI}{g:TG}(F:c.N.Nodup)(b:c.N[m]? = U o)(y:Loc c.env.scope o)(f:c.calm=Uf)(B:jq c Q nb c5)(j:eU c Uf E iter wi S)(i:jg Q.length g)(k:∀cl C fp s H pins,PG (S7 c Q nb c5 cl C fp s H pins) E g)(d:sH c.K Q.length g g8)(N:∀cl C fp s H pins,lJ (S7 c Q nb c5 cl C fp s H pins) Z b3 a8)(l:∀cl C fp s H pins,PX (S7 c Q nb c5 cl C fp s H pins) Uf e u r)(X:autoParam (ag (.ListComp e [⟨E,iter,Z,0⟩] c5 p) (U (.Name o A)) pos.line c.env=pure Uf) k6)(z:autoParam (c.fn o=Uf\/c.env.scope.names.lookup o=U .local) bC)(hs:autoParam (∀o,dw iter c.env o=pure o) Q4):H0 c (.Assign [.Name o A] (.ListComp e [⟨E,iter,Z,0⟩] c5 p) pos) (fO (gF Q wi g b3 u) (Y9 m)) (O8 m (p9 S g8 a8 r)) :=
 ⟨yS F b y f B j.p i k (λ_ _ _ _ _ _=>(N _ _ _ _ _ _).p) (λ_ _ _ _ _ _=>(l _ _ _ _ _ _).p) X z hs,by
 intro O a G M H n D P L h q;obtain⟨pv,e1,h⟩:=j3 h;cases h;refine((yR (pos:=p) f B j i k d N l hs).t) O a G M H n pv _ L e1 λv I w t=>?_
 obtain⟨x,K⟩:=L.store w m t;exact q _ _ _ K⟩
mutual
def LF:f7->Bool
 | .none=>Uf
 | .bool _=>Uf
 | .int _=>Uf
 | .str _=>Uf
 | .tuple l=>kG l
 | .dict [(.list _,.none)]=>Uf
 |_=>U'
def kG:List f7->Bool
 | []=>Uf
 |d::r=>LF d&&kG r
end
def US(e:∀b o,H b=U o->¬Cell o->q b=U o)(h:T9 g H z L):T9 g q z L:=by
 rcases h with (h|⟨o,h⟩)|h
 exact .inl (.inl (e _ _ h (λK=>by rcases K with ⟨_,K⟩|⟨_,K⟩|⟨_,_,_,K⟩<;>cases K)));exact .inl (.inr ⟨o,e _ _ h (λK=>by rcases K with ⟨_,K⟩|⟨_,K⟩|⟨_,_,_,K⟩<;>cases K)⟩);exact .inr h
mutual
theorem Dt.lf{K:n6}{H H':Hp}(e:∀b o,H b=U o->¬Cell o->H' b=U o){x:V}{d:f7}(h:Dt K H x d)(f:LF d=Uf):Dt K H' x d:=by
 cases h with
 |non=>exact .non
 |bl b=>exact .bl b
 |int i=>exact .int i
 |str y=>exact .str y
 |tup a c=>exact .tup (US e a) (u5.lf e c (by assumption))
 |lst a c=>exact nT f
 |exc _ _ _ _ _=>exact nT f
 |fn _=>exact nT f
 |ins _ _ _ _=>exact nT f
 |dct _ _ _=>exact nT f
 |key h=>exact .key (e _ _ h (λz=>by rcases z with ⟨_,z⟩|⟨_,z⟩|⟨_,_,_,z⟩<;>cases z))
 |dtt _ _ _ _=>exact nT f
theorem u5.lf{K:n6}{H H':Hp}(e:∀b o,H b=U o->¬Cell o->H' b=U o){xs:List V}{ds:List f7}(h:u5 K H xs ds)(f:kG ds=Uf):u5 K H' xs ds:=by
 cases h with
 |nil=>exact .nil
 |cons a t =>
  rw[kG,tG]at f;exact .cons (Dt.lf e a f.1) (u5.lf e t f.2)
end
def KC(K:n6):V->List V->Hp->VK->Prop:=λx vs H Q=>∃(p:Addr) (ns:List Int) (k:Int),x=.ref p/\vs=[.int k]/\K6 K H p (ns.map V.int)/\k∈ns/\ns.length<=1000000/\Q (.int (ns.idxOf k:Nat)) H
def Ri:Uk c "list.index" (KC c.K):=by
 intro m s P H x M v O Q I z e h;obtain⟨p,l,k,rfl,rfl,hq,G,N,q⟩:=h;cases z;obtain⟨u,rfl,E⟩:=vals1 e;obtain⟨t,rfl⟩:=E;obtain⟨a,e,D,_⟩:=I.list hq;have X:=qq e;obtain⟨⟨B,A,o,w⟩,i,C,n,L⟩:=id D.isList;subst C L;have:=X.length;have d:=(List.idxOf_lt_length_iff).2 G;refine kL yA ⟨_,i,rfl⟩ Om (Ot _ _)
  (Ol p a.toArray n A w (.int k t) (isInt k) (l.idxOf k) (by simp_all) j7 ?_ ?_) ⟨i,λy r=>(eq_isInt k t X y (by simpa using r)).at _ _,?_⟩
 show isInt k a[l.idxOf k]=Uf;rw[isInt_at k X _ o9 d];simp;intro j g f;show isInt k a[j]=U';rw[isInt_at k X j (by omega) (kN k8 k8)];exact ne_of_lt_idxOf f _;exact⟨.int _,H,I.tok _,⟨_,rfl⟩,q⟩
noncomputable def CN:f7->FV
 | .list l,[.int k]=>(intsOf l).bind λns=>if k∈ns/\ns.length<=1000000 then U (.dat (.int (ns.idxOf k:Nat)))else J
 |_,_=>J
noncomputable def uF(f:f7->FV)(Fo:DV)(Fl:DL):DV:=λds=>(Fo ds).bind λo=>(Fl ds).bind λl=>f o.d l
set_option tactic.hygienic true in
def PK (w:PX c I E u r) (C:cT c I [e] M S) (h:autoParam (Z2 E "index" c.env (eval E c.env)=eval E c.env) k6) (m:autoParam (((C6 A (m8 [e] c.env)).all (λx=>!x.1)&&(aQ A (dq [] c.env)).all (λx=>x.1.isSome)
   && decide ([e].length+([]:List aa).length+(if ([]:List aa).isEmpty then 0 else 1)<30))=Uf) k6)
  (i:autoParam ((p.endLine==A.line)=Uf) k6) (hs:autoParam (m8 [e] c.env=(U',eval e c.env)::m8 [] c.env) k6) (X:autoParam ((C6 A (m8 [] c.env)).any (·.1)=U') k6) :
  PX c I (.Call (.Attribute E "index" p) [e] [] A) (Gp c.K "list" (KC c.K) u M) (uF CN r S) :=
 ⟨wO qj yA Oh Ri w.p C.p h m i hs X,by
 intro O f D d H n pv Q g b q;unfold uF at b;cases h1:r n with
 |none=>rw[h1]at b;exact nE b
 |some x =>
  cases h2:S n with
  |none=>rw[h1,h2]at b;exact nE b
  |some l =>
   rw[h1,h2]at b;simp only[n8]at b;refine w.t O f D d H n x _ g h1 λv W t V=>?_;have B:=V.dt g.dm;generalize x.d=Z at b B;unfold CN at b;split at b
   . rename_i P k;cases B with
     |lst j N =>
      rename_i a xs;obtain⟨s,h3,b⟩:=j3 b;obtain⟨G,b⟩:=D7 b;cases b;have R:=N.ints h3;subst R;refine⟨.inl ⟨rfl,_,t9.seq j⟩,?_⟩;refine C.t O f D d W n _ _ (g.grow t) h2 λY T z L=>?_;obtain⟨y,rfl,o⟩:=L.inv1;cases o;exact⟨a,s,k,rfl,rfl,z.seq (t9.seq j),G.1,G.2,q _ T (t.trans z) (Dt.int _)⟩
   . exact nE b⟩
section
variable{prog:H9}{w:x5}
end
set_option tactic.hygienic true in
def FZ(b:Bool)(l:Addr)(xs:Array j5):
  Meets (Builtin.«enumerate.__new__» ⟨[.type "enumerate",.ref l],[]⟩) (λ_ R s=>jP b s.heap l xs /\
   R (.ok (.ret (.ref (s.heap.push (pB b l)).objs.size))) {s with heap:=(s.heap.push (pB b l)).push {cls:=.type "enumerate",data:=.fields #[.none,.bool U',.ref (hz s),V5 0,.none,.none]}}) :=
 .of_wp λe w A R s h=>by
  obtain⟨j,g,d,i,m⟩:=s;obtain⟨f,h⟩:=h;have:=sub_enumerate;have a:=f
  wp_walk using uo a
  refine wpAny_stack_any λk=>p4 ?_;split
  . rename_i c _ _ _ _ _;cases(c==xS "enumerate")
    . wp_walk using uo a
      exact⟨_,rfl,h⟩
    . wp_walk using uo a
      exact⟨_,rfl,h⟩
  . wp_walk using uo a
    exact⟨_,rfl,h⟩
section
variable{prog:H9}{w:x5}
def JA{Q:j5->l5->Prop}(f:jP I B.heap z b7)(h:∀h',IsEnum h' (B.heap.objs.size+1) B.heap.objs.size 0 .none->lA I h' B.heap.objs.size z 0->(∀b o,B.heap.get? b=U o->h'.get? b=U o)->Q (.ref (B.heap.objs.size+1)) {B with heap:=h'}):
  wpAny (model prog w) N (call (.type "enumerate") [.ref z]) Q Y B:=by
 refine callType_new F.called_enumerate f5 (F.typeCall_enumerate_1 _) (F.newCall_enumerate_1 _) (λobj=>F.args_object_init_2 obj _) F.entry_enumerate_new (FZ I z b7) ⟨f,?_⟩
 have d:(B.heap.push (pB I z)).objs.size=B.heap.objs.size+1:=gL ..;have e:(pB I z).isFreed=U':=by cases I<;>rfl
 rw[d];have c:IsEnum ((B.heap.push (pB I z)).push {cls:=.type "enumerate",data:=.fields #[.none,.bool U',.ref B.heap.objs.size,V5 0,.none,.none]}) (B.heap.objs.size+1) B.heap.objs.size 0 .none:=by have:=U1 (B.heap.push (pB I z)) (o:={cls:=.type "enumerate",data:=.fields #[.none,.bool U',.ref B.heap.objs.size,V5 0,.none,.none]}) rfl;rw[d]at this;exact this
 exact⟨⟨_,c,rfl⟩,h _ c (.new (F8 _ (U1 _ e))) λb o x=>F8 _ (F8 _ x)⟩
end
def ZX{prog:H9}{w:x5}(m:N.handled=J)(it l:Addr)(c:l≠it)(xs:Array j5):
  Draws prog w N it [it,l] xs.size (λi v=>xs[i]? = U v) (λi h=>rq I h it l i xs) where
 live:=λi h a=>by
  cases I;exact(Draws.list (prog:=prog) (w:=w) m it l c xs).live i h a;obtain⟨o,y,_⟩:=(show h.IsTupleIter it l i/\h.IsTuple l xs from a).1;exact⟨o,y⟩
 frame:=λi h j a u=>a.kept λb o q e=>u b (by rcases q with rfl|rfl<;>simp) o e
 item:=λi s Q E k a p=>by
  refine lF a c (x:=xs[i]) (by simp[k]) λj d n=>?_;refine p _ j s.toks (by simp[k]) ?_ n;have k2:=λo e=>n.extBut l o c e;cases I;obtain⟨_,o,g,r⟩:=(show s.heap.IsListIter it l i/\s.heap.IsList l xs from a);exact⟨d,o,k2 o g,r⟩;obtain⟨_,o,g,r⟩:=(show s.heap.IsTupleIter it l i/\s.heap.IsTuple l xs from a);exact⟨d,o,k2 o g,r⟩
 done:=λs Q E a t=>oe m a t7 t
def Ite(kd:Bool)(K:n6)(a:Addr):It :=
 ⟨λi H=>∃xs x,fL kd K H a xs/\xs[i]? = U x,
  λi H v H'=>∃p,v=.ref p/\H p=J/\∃x,H'=upd H p (.tup [.int i,x])/\∀xs,fL kd K H a xs->xs[i]? = U x,
  λi H=>∃xs,fL kd K H a xs/\xs.length<=i⟩
def Kd{a:Addr}(t:z≠T):
  Turn b5 d5 g (.Tuple Z m p) (Ite I g a) [z,T] z (λi h=>(∃d,IsEnum h z T i d)/\lA I h T a i) where
 mem:=B4
 obj:=λi h P c b=>by
  have j:c=z\/c=T:=by simpa using b
  rcases j with rfl|rfl
  obtain⟨d,q⟩:=P.1;exact⟨_,q,λv e=>by cases e⟩;exact P.2.obj
 keep:=λi h K P kk=>by obtain⟨d,q⟩:=P.1;exact⟨⟨d,kk z B4 _ q⟩,P.2.at λo e=>kk T B4 o e⟩
 item:=by
  intro X G hw hK b i f s S H E O B P hg;subst G hw hK;obtain⟨xs,x,C,ex⟩:=hg;obtain⟨l,w,ox⟩:=O.Gs C P.2;obtain⟨u,hu,ru⟩:=w.get ex;obtain⟨d,M⟩:=P.1;have L:=B z B4;have r:i<l.toArray.size:=by
   have:i<l.length:=by
    by_cases c:i<l.length;exact c;rw[yy (nu k8)]at hu;exact nE hu
   omega
  have V:X.A.in1.handled=J:=O.ok.hd b;have D:Draws X.prog X.w X.A.in1 T [T,a] l.toArray.size (λi v=>l.toArray[i]? = U v) (λi h=>rq I h T a i l.toArray):=ZX V T a (C.x.ne O (B T B4)) l.toArray;refine wpAny_pyNext_enum_itemD D M ox r t (by simp;exact⟨t,(C.x.ne O L).symm⟩) λx' K N G ho R Y hsz hk=>?_
  have ux:x'=u:=by
   have:l.toArray[i]? = U u:=by simpa using hu
   rw[this]at G;cases G;rfl
  subst ux;have Q:=O.E7.fresh y4;have I1:Inv X f S H {s with heap:=K,toks:=N+1}:=O.tZ (ch:=[z,T]) (λc o b e=>hk c o (λq=>b (by simp[q])) (λq=>b (by simp[q])) e) (λc b=>B c (by omega))
  have I2:Inv X f S (upd H (hz s) (.tup [.int i,x])) {s with heap:=K,toks:=N+1}:=I1.HX Q (eZ O.lt) (.inr O.sz)
   (λn c e q=>by obtain⟨vv,q2⟩:=O.cell n c e;exact absurd q2.lt (by rw[q];exact Z3 _))
   (λk hp q=>absurd (C3 (O.pin k hp).1) (by rw[q];exact Z3 _))
   ⟨by show 2<=A5;rw[pT];decide,[.int i N,x'],.cons ⟨_,rfl⟩ (.cons ru .nil),⟨_,Y,rfl,_,rfl⟩⟩
  refine⟨_,rfl,wpAny_letOwnedTupleGo_enum ho λh2 z2 b2=>?_⟩
  have uz:∀c,c∈[z,T]->(upd H (hz s) (.tup [.int i,x])) c=J:=λc b=>by
   have r:c<(hz s):=by
    have j:c=z\/c=T:=by simpa using b
    rcases j with rfl|rfl
    exact(C3 M);obtain⟨o,e,_⟩:=P.2.obj;exact C3 e
   rw[E3 (O2 r)];exact(B c b).1
  have I3:Inv X f S (upd H (hz s) (.tup [.int i,x])) {s with heap:=h2,toks:=N+1}:=Inv.turned (s:={s with heap:=K,toks:=N+1}) I2 (λc o b e=>b2.extBut c o b e) (uz z B4) L.2.1 L.2.2.2.1 L.2.2.2.2.1 L.2.2.2.2.2;refine⟨.ref (hz s),_,I3,rfl,⟨_,rfl,Q,x,rfl,λxs' y=>?_⟩,⟨⟨_,z2⟩,?_⟩,uz⟩;rw[y.inj O C];exact ex
  . have it':lA I K T a (i+1):=by
      cases I;exact(show K.IsListIter T a (i+1)/\_ from R).1;exact(show K.IsTupleIter T a (i+1)/\_ from R).1
    exact it'.at λo q=>b2.extBut _ _ t.symm q
 done:=by
  intro X G hw hK b i f s S H E O B P hg;subst G hw hK;obtain⟨xs,C,hend⟩:=hg;obtain⟨l,w,ox⟩:=O.Gs C P.2;obtain⟨d,M⟩:=P.1;have:=w.length;have Q:s.TypeIs (.ref z) "enumerate":=⟨_,M,rfl⟩;refine l8 (tj (lL Q NT (jd NT Q F.entry_enumerate_next ?_ (F.args_enumerate_next_1 _))));show wpAny _ _ (field (.ref z) 2 >>= _) _ _ _;refine l8 (V1 M rfl rfl ?_);refine l8 (oe (O.ok.hd b) ox (by simp;simp_all) λK x A y=>?_)
  obtain⟨o,ho,j⟩:=y;refine l8 (EC ⟨o,ho,j⟩ Ej ?_);refine p4 ⟨rfl,?_⟩;exact O.tZ (ch:=[T]) (λc o b e=>A c o (λq=>b (by simp[q])) e) (λc b=>B c (by
   have:c=T:=by simpa using b
   simp[this]))
 self:=λ_ _ _ _ _ P h=>by obtain⟨d,q⟩:=P.1;exact wpAny_pyIter_enum q h
section
def Mn(K:n6)(ta:TA):TI:=λσ H R=>ta σ H λvs H1=>∃a kd,vs=[.ref a]/\(∃xs,fL kd K H1 a xs)/\R (Ite kd K a) H1
def boot_enumerate:dM "enumerate" = U (.type "enumerate"):=by decide +kernel
def Qz{tp:Pos}(F:Gl c "enumerate")(o:c.mg "enumerate" = J)(v:PA c [e] M)(hs:autoParam (m8 [e] c.env=[(U',eval e c.env)]) k6):
  PI c (.Tuple Z m tp) (.Call (.Name "enumerate" p) [e] [] A) (Mn c.K M):=by
 intro X s N H R I h;refine Call_ (iF I F o boot_enumerate (oC (C4 (v A X s N H _ I h) λz d ⟨G,l,g,w,n⟩=>?_) (by rw[hs];rfl) (by rfl)));obtain⟨x,L,a,⟨k,t⟩,q⟩:=n;subst a;obtain⟨u,a,y⟩:=vals1 w;subst a;cases y;obtain⟨z,D⟩:=g.aZ t;refine JA D λK j B C=>?_;refine wpAny_pyIter_enum j ?_;have E:Inv c X N l {d with heap:=K}:=g.kept C;refine⟨(hz d)+1,_,_,_,l,rfl,E,Kd (by show @Ne Nat _ _;simp[*]),⟨⟨_,j⟩,B⟩,λb r=>?_,q⟩
 have i:b=(hz d)+1\/b=(hz d):=by simpa using r
 have f:(hz d)<=b:=by
  rcases i with a|a<;>rw[a]
  exact jV _ _;exact X1 _
 exact g.zQ f (g.E7.fresh f)
theorem qI:∀(l:List f7) (k:Int) (i:Nat),(T8 k l)[i]? = (l[i]?).map λd=>.tuple [.int (k+(i:Nat)),d]
 | [],k,i=>by rfl
 |d::r,k,0=>by simp[T8]
 |d::r,k,i+1=>by have:=qI r (k+1) i;simp only[T8,qT];rw[this,show k+1+i=k+((i+1:Nat)) by lia]
def vR:∀(l:List f7) (k:Int),(T8 k l).length=l.length:=by
 intro l_;induction l_ with
 |nil =>
  intro k;exact rfl
 |cons d r ih_ =>
  intro k;rw[T8,ao,ih_,ao]
set_option tactic.hygienic true in
def Qw{tp:Pos}(Y:Gl c "enumerate")(E:c.mg "enumerate" = J)(Fl:cT c I [e] M S)(hs:autoParam (m8 [e] c.env=[(U',eval e c.env)]) k6):
  eU c I (.Tuple Z m tp) (.Call (.Name "enumerate" p) [e] [] A) (Mn c.K M) (x9 bZ S):=⟨Qz Y E Fl.p hs,by
 intro O k W G H v h R K b q;obtain⟨l,h1,b⟩:=j3 b;refine Fl.t O k W G H v l _ K h1 λvs D w N=>?_;unfold bZ at b;split at b
 . rename_i C;obtain⟨ta,hl,b⟩:=j3 b;cases b;cases N with
   |cons r P =>
    cases P;obtain⟨e,B,f,rfl,n,u⟩:=r.aZ hl;refine⟨e,B,rfl,⟨f,t9.aZ n⟩,q _ D w λH' g i=>?_⟩;have X:=g.aZ (ur.aZ n);have:=u.length;rw[vR];refine⟨λs=>⟨f,f[i]'j7,X,F2 _⟩,λs=>⟨f,X,by simp[*]⟩,λx V y s=>?_⟩;obtain⟨pp,Q,d,x',T,F⟩:=y;subst Q;subst T;obtain⟨fr,L,a⟩:=u.get' (F f X);refine⟨m3.new d,.tuple [.int i,fr],by rw[qI,L];simp,λvb j t=>?_⟩;refine .tup (T9.of (A0.mpr ⟨λz=>?_,λz=>?_,J8⟩)) (.cons (.int _) (.cons (pA a g (m3.new d) j) .nil));obtain⟨o,z⟩:=t _ z;rw[g _ _ z]at d;exact nS d;obtain⟨_,o,z⟩:=j _ z;rw[z]at d;exact nS d
 . exact nE b⟩
end
noncomputable def P5(f:Str):List f7->List f7->Option f7
 | .str n::ns,d::l=>if n=f then U d else P5 f ns l
 |_,_=>J
noncomputable def uq(nm:Str):f7->Option (List f7×List f7)
 | .dict [(.tuple [.str n,.list ns],.tuple l)]=>if n=nm then U (ns,l)else J
 |_=>J
def Ml(a:Str)(ns:List Str)(l:List f7):uq a (zG a ns l)=U (ns.map .str,l):=by
 show(if a=a then U (ns.map PyData.str,l)else J)=_;simp
set_option tactic.hygienic true in
def AG{l:List f7}(h:Dt g H a7 c9)(e:uq o c9=U (P,l)):
  ∃a C K fv ms vs,a7=.ref a/\eY g X2 o=U (U (.ref C))/\H a=U (.ins C K fv)/\fv=List.zip ms vs/\P=ms.map .str/\u5 g H vs l:=by
 cases h with
 |ins k m i t =>
  rename_i a C K fv b ms vs j;have f:(if b=o then U (ms.map PyData.str,j)else J)=U (P,l):=e;obtain⟨n,f⟩:=D7 f;cases f;subst n;exact⟨a,C,K,fv,ms,vs,rfl,k,m,i,rfl,t⟩
 |_=>exact nE e
def Ay(h:u5 g H L P):(P5 o (Q.map .str) P=J/\(List.zip Q L).lookup o=J)\/∃d u,P5 o (Q.map .str) P=U d/\(List.zip Q L).lookup o=U u/\Dt g H u d:=by
 induction Q generalizing L P with
 |nil=>exact .inl ⟨rfl,rfl⟩
 |cons m Q i=>cases h with
  |nil=>exact .inl ⟨rfl,rfl⟩
  | @cons v L d P h t =>
   rw[show P5 o ((m::Q).map .str) (d::P)=if m=o then U d else P5 o (Q.map .str) P from rfl,jW,nt];by_cases c:m=o;subst c;rw[j2 rfl];exact .inr ⟨d,v,rfl,by simp,h⟩
   . have a:(o==m)=U':=by simpa using λz=>c z.symm
     rw[j1 c,a];exact i t
structure cK(K:n6)(nm:Str)(C:Addr):Prop where
 ns:eY K X2 nm=U (U (.ref C))
 cl:tX K C
def cK.eq(K:cK g o z)(h:eY g X2 o=U (U (.ref T))):T=z:=by
 rw[K.ns]at h;lia
def T6(nm f:Str)(d:f7):Option f7:=(uq nm d).bind λp=>P5 f p.1 p.2
noncomputable def B9(nm f:Str)(F:DV):DV:=λds=>(F ds).bind λpv=>(T6 nm f pv.d).bind λd=>U (.dat d)
def Vg{nm f:Str}(T:cK c.K nm z)(n:X8 c.K z f)(h:PX c I e u r)(K:autoParam (Z2 e f c.env (eval e c.env)=eval e c.env) k6):PX c I (.Attribute e f p) (qt c.K u f) (B9 nm f r):=⟨rT h.p K,by
 intro O F D A H B pv Q S X q;obtain⟨Z,x,X⟩:=j3 X;obtain⟨d,y,X⟩:=j3 X;cases X;obtain⟨⟨Y,l⟩,k,i⟩:=j3 y;refine h.t O F D A H B Z _ S x λv t w N=>?_
 obtain⟨a,s,M,P,V,R,rfl,E,o,rfl,rfl,G⟩:=AG (N.dt S.dm) k;have m:=T.eq E;subst m;rcases Ay G with ⟨g,j⟩|⟨W,C,g,j,L⟩
 have b:=i;rw[g]at b;exact nE b
 . have b:=i;rw[g]at b;cases b;exact⟨a,s,M,_,C,rfl,t9 _ _ o,T.cl,n,j,q C t w L⟩⟩
noncomputable def O6(nm m:Str)(f:FV)(Fo:DV)(Fl:DL):DV:=λds=>(Fo ds).bind λpv=>(uq nm pv.d).bind λp=>match P5 m p.1 p.2 with
 |none=>(Fl ds).bind λl=>f (pv.d::l)
 |some _=>J
def Gm{fr:Bool}{nm:Str}{m:Str}(T:cK c.K nm z)(ho:PX c fr e u r)(h:cT c fr Z M S):TX c.K fr (lD z m (B5 c.K d3) [] c8 u M) (O6 nm m d3 r S):=by
 intro O k i V H W pv Q K j q;obtain⟨p,h1,j⟩:=j3 j;obtain⟨⟨ns,l0⟩,Y,j⟩:=j3 j;refine ho.t O k i V H W p _ K h1 λv H1 B r1=>?_
 have E:=r1.dt K.dm;obtain⟨a,C',dx,fv,ms,vs0,rfl,c1,c2,rfl,rfl,c3⟩:=AG E Y;have t:=T.eq c1;subst t;rcases Ay c3 with ⟨I,N⟩|⟨d',C,I,N,z3⟩
 . have g:=j;rw[I]at g;obtain⟨l,h4,j⟩:=j3 g;refine⟨a,dx,_,rfl,t9 _ _ c2,N,?_⟩;refine h.t O k i V H1 W l _ (K.grow B) h4 λvs H2 A r2=>?_;have D:=((K.grow B).grow A).dm (fr:=fr);rw[aX];have L:∀H,p7 H (X4 fr i) O=p7 H [] (O++(X4 fr i).filterMap id):=λH=>pG (bs:=[]);refine⟨O++(X4 fr i).filterMap id,p.d::l,pv,λb f=>?_,by rw[<-L];exact .cons (E.same (L0 A)) r2,j,λv P es n=>q v P ((B.trans A).trans es) ?_⟩
   . rcases List.mem_append.mp f with f|f
     exact D.o b f;obtain⟨x,hx,o⟩:=List.mem_filterMap.mp f;subst o;exact D.a b hx
   . have s:=B.trans A;cases pv with
     |dat d =>
      have y:Dt c.K (p7 P [] (O++(X4 fr i).filterMap id)) v d:=n;rw[<-L]at y;exact y
     |own l =>
      obtain⟨b,xs,es,G,F,n⟩:=n;refine⟨b,xs,es,s.free G,F,?_⟩;rw[show(U b::X4 fr i)=[U b]++X4 fr i from rfl,pG];exact n
     |ob w X =>
      obtain⟨e,R,es,G,F,n⟩:=n;refine⟨e,R,es,G,λb f=>s.free (F b f),?_⟩;rw[pG];rw[aX]at n;exact n
 have g:=j;rw[I]at g;exact nE g
noncomputable def W4(F:DV):DV:=λds=>(F ds).bind λpv=>match pv with
 | .dat d=>if LF d=Uf then U (.dat d)else J
 | .own l=>if kG l=Uf then U (.own l)else J
 | .ob _ _=>J
def DS.Xk{H':Hp}{bs cs:As}(S:DS g O q y D H G)(e:m3 H H')(l:∀b,U b∈cs->U b∈bs\/U b∈y)(a:Addr)(u:HO)(h:p7 H' bs O a=U u)(k:¬Cell u):p7 H' cs O a=U u:=by
 obtain⟨f,j,d⟩:=A0.mp h;refine A0.mpr ⟨f,λz=>?_,d⟩
 rcases l a z with z|z
 exact j z;obtain⟨_,c,i⟩:=S.new a z;have:=e _ _ i;grind
def Yk(h:PX c U' e u r):PX c I e u (W4 r):=⟨h.p,by
 intro O g s n H o pv Q S f q;obtain⟨p,F,f⟩:=j3 f;cases p with
 |dat d =>
  simp only at f;obtain⟨k,f⟩:=D7 f;cases f;refine h.t O g s n H o _ _ S F λv j i m=>q v j i ?_;exact Dt.lf (S.Xk i λb z=>.inr (oT z)) m k
 |own l =>
  simp only at f;obtain⟨k,f⟩:=D7 f;cases f;refine h.t O g s n H o _ _ S F λv j i m=>q v j i ?_;obtain⟨a,y,x,A,B,t⟩:=m;refine⟨a,y,x,A,B,u5.lf (S.Xk i λb z=>?_) t k⟩
  rcases List.mem_cons.mp z with z|z
  exact .inl (by rw[z];exact v8);exact .inr (oT z)
 |ob w X=>exact nE f⟩
noncomputable def L5(f:Str)(p:PF):List (Str×PF)->List (Str×PF)
 | []=>[(f,p)]
 |(g,x)::r=>if g=f then(g,p)::r else(g,x)::L5 f p r
def w4(f:Str):List (Str×PF)->Option PF
 | []=>J
 |(g,x)::r=>if g=f then U x else w4 f r
inductive tW(K:n6)(Hv H:Hp):V->PF->List Addr->Prop
 |dat {x d}:Dt K Hv x d->tW K Hv H x (.dat d) []
 |own {a xs l}:H a=U (.lst xs)->u5 K Hv xs l->tW K Hv H (.ref a) (.own l) [a]
 |dct {a kvs es}:H a=U (.dK kvs)->Fw K Hv kvs es->tW K Hv H (.ref a) (.dct es) [a]
section
variable{K:n6}
def L4.cons{Hv:Hp}{H:Hp}{R:List Addr}{Rf:List Addr}{fv:List (Str×V)}{fs:List (Str×PF)}{y:V}{p:PF}{n:Str}(h:tW K Hv H y p Rf)(d:∀b∈Rf,b∉R)(t:L4 K Hv H fv fs R):L4 K Hv H ((n,y)::fv) ((n,p)::fs) (Rf++R):=by
 cases h with
 |dat h=>exact .dat h t
 |own c a=>exact .own c a (d _ v8) t
 |dct c a=>exact .dct c a (d _ v8) t
def L4.put{Rf:List Addr}{f:Str}{p:PF}(t:L4 K q H k c7 O)(h:tW K q H a7 p Rf)(d:∀b∈Rf,b∉O):∃R',L4 K q H (bN f a7 k) (L5 f p c7) R'/\∀b∈R',b∈Rf\/b∈O:=by
 induction t with
 |nil =>
  refine⟨Rf++[],L4.cons h (λb _=>by simp) .nil,λb e=>.inl (by simpa using e)⟩
 | @dat n x v k c7 O s t j =>
  obtain⟨R',i,g⟩:=j d;rw[bN,L5];by_cases c:n=f;rw[j2 c,j2 c];exact⟨Rf++O,L4.cons h d t,λb e=>List.mem_append.mp e⟩;rw[j1 c,j1 c];exact⟨R',.dat s i,g⟩
 | @own n a u l k c7 O o m R t j =>
  obtain⟨R',i,g⟩:=j λb e z=>d b e (u7 _ z);rw[bN,L5];by_cases c:n=f;rw[j2 c,j2 c];exact⟨Rf++O,L4.cons h (λb e z=>d b e (u7 _ z)) t,λb e=>(List.mem_append.mp e).imp id (u7 _)⟩
  . rw[j1 c,j1 c];refine⟨a::R',.own o m (λz=>?_) i,λb e=>?_⟩
    . rcases g a z with z|z
      exact d a z v8;exact R z
    . rcases List.mem_cons.mp e with rfl|e
      exact .inr v8;exact(g b e).imp id (u7 _)
 | @dct n a r w k c7 O o m R t j =>
  obtain⟨R',i,g⟩:=j λb e z=>d b e (u7 _ z);rw[bN,L5];by_cases c:n=f;rw[j2 c,j2 c];exact⟨Rf++O,L4.cons h (λb e z=>d b e (u7 _ z)) t,λb e=>(List.mem_append.mp e).imp id (u7 _)⟩
  . rw[j1 c,j1 c];refine⟨a::R',.dct o m (λz=>?_) i,λb e=>?_⟩
    . rcases g a z with z|z
      exact d a z v8;exact R z
    . rcases List.mem_cons.mp e with rfl|e
      exact .inr v8;exact(g b e).imp id (u7 _)
def hU{n:Str}:eX o ((n,a7)::e9)=if n=o then U a7 else eX o e9:=by
 rw[nt];by_cases c:n=o;subst c;simp
 . have a:(o==n)=U':=by simpa using λz=>c z.symm
   rw[a,j1 c]
set_option tactic.hygienic true in
def L4.Zc(t:L4 K q H e9 c7 O)(h:w4 o c7=J):e9.lookup o=J:=by
 induction t with
 |nil=>rfl
 | dat hd t ih => rw [w4] at h; rw [hU]; split at h; · exact nS h
                  rename_i c;rw[j1 c];exact ih h
 | own h1 h2 h3 t ih => rw [w4] at h; rw [hU]; split at h; · exact nS h
                        rename_i c;rw[j1 c];exact ih h
 | dct h1 h2 h3 t ih => rw [w4] at h; rw [hU]; split at h; · exact nS h
                        rename_i c;rw[j1 c];exact ih h
def L4.look{p:PF}(t:L4 K q H w c7 O)(h:w4 o c7=U p):∃x Rf,w.lookup o=U x/\tW K q H x p Rf/\(∀b∈Rf,b∈O) /\
  ∀{Hv' H':Hp} {m:PF},m3 q Hv'->(∀b∈O,b∉Rf->∀f,H b=U f->H' b=U f)->tW K Hv' H' x m Rf->L4 K Hv' H' w (L5 o m c7) O:=by
 induction t with
 |nil=>exact nE h
 | @dat n x d w c7 O C t s =>
  rw[w4]at h;rw[hU];by_cases c:n=o;rw[j2 c]at h ⊢;cases h;refine⟨x,[],rfl,.dat C,λb g=>absurd g t7,λ{Hv' H' m} e i k=>?_⟩;rw[L5,j2 c];exact L4.cons k (λb g=>absurd g t7) (t.same e λb g=>i b g t7);rw[j1 c]at h ⊢;obtain⟨y,Rf,A,u,R,r⟩:=s h;refine⟨y,Rf,A,u,R,λ{Hv' H' m} e i k=>?_⟩;rw[L5,j1 c];exact .dat (C.same e) (r e i k)
 | @own n a F l w c7 O B v j t s =>
  rw[w4]at h;rw[hU];by_cases c:n=o;rw[j2 c]at h ⊢;cases h;refine⟨_,[a],rfl,.own B v,λb g=>by rw[mem_singleton.mp g];exact v8,λ{Hv' H' m} e i k=>?_⟩;rw[L5,j2 c];refine L4.cons k (λb g=>by rw[mem_singleton.mp g];exact j) (t.same e λb g=>i b (u7 _ g) λz=>?_);rw[mem_singleton.mp z]at g;exact j g;rw[j1 c]at h ⊢;obtain⟨y,Rf,A,u,R,r⟩:=s h;refine⟨y,Rf,A,u,λb g=>u7 _ (R b g),λ{Hv' H' m} e i k=>?_⟩;rw[L5,j1 c];exact .own (i a v8 (λz=>j (R a z)) _ B) (v.same e) j (r e (λb g=>i b (u7 _ g)) k)
 | @dct n a D E w c7 O B v j t s =>
  rw[w4]at h;rw[hU];by_cases c:n=o;rw[j2 c]at h ⊢;cases h;refine⟨_,[a],rfl,.dct B v,λb g=>by rw[mem_singleton.mp g];exact v8,λ{Hv' H' m} e i k=>?_⟩;rw[L5,j2 c];refine L4.cons k (λb g=>by rw[mem_singleton.mp g];exact j) (t.same e λb g=>i b (u7 _ g) λz=>?_);rw[mem_singleton.mp z]at g;exact j g;rw[j1 c]at h ⊢;obtain⟨y,Rf,A,u,R,r⟩:=s h;refine⟨y,Rf,A,u,λb g=>u7 _ (R b g),λ{Hv' H' m} e i k=>?_⟩;rw[L5,j1 c];exact .dct (i a v8 (λz=>j (R a z)) _ B) (v.same e) j (r e (λb g=>i b (u7 _ g)) k)
end
noncomputable def fR(nm:Str)(i:Nat)(ds:Ds):Option (Option Addr×List (Str×PF)):=match ds[i]? with
 |some (U (.ob w (.ins n fs)))=>if n=nm then U (w,fs)else J
 |_=>J
def bO(h:fR o m G=U (g0,c7)):G[m]? = U (U (.ob g0 (.ins o c7))):=by
 unfold fR at h;split at h
 . simp_all
 exact nE h
def Dn:PF->Option f7
 | .dat d=>U d
 |_=>J
def rW:PF->Option (List f7)
 | .own l=>U l
 |_=>J
def RZ{p:PF}(h:Dn p=U c9):p=.dat c9:=by cases p<;>cases h;rfl
def vG{p:PF}(h:rW p=U P):p=.own P:=by cases p<;>cases h;rfl
noncomputable def K8(nm:Str)(i:Nat)(f:Str):DV:=λds=>(fR nm i ds).bind λx=>(w4 f x.2).bind λp=>(Dn p).bind λd=>U (.dat d)
noncomputable def iL(nm:Str)(i:Nat)(f:Str)(Fb:DV):DV:=λds=>(fR nm i ds).bind λx=>(w4 f x.2).bind λp=>(rW p).bind λl=>(Fb ds).bind λk=>u9 (.list l) k.d
section
def Vc{nm f:Str}(T:cK c.K nm z)(n:X8 c.K z f)(h:PE c e (G4 m))(A:autoParam (Z2 e f c.env (eval e c.env)=eval e c.env) k6):PX c I (.Attribute e f p) (qt c.K (G4 m) f) (K8 nm m f):=⟨rT h A,by
 intro O X D i H F pv Q S a q;obtain⟨⟨w,fs⟩,s,a⟩:=j3 a;obtain⟨L,l,a⟩:=j3 a;obtain⟨d,t,a⟩:=j3 a;cases a;have K:=RZ t;subst K;obtain⟨v,R,k,_,_,u,j,o,E,rfl,C,r,g⟩:=S.slot m _ (bO s);have B:=T.eq C;subst B;obtain⟨x,G,y,b,_⟩:=g.look l;cases b with
 |dat b=>exact⟨_,k,v,u,j,o,x,rfl,r,T.cl,n,y,q x H (m3.refl H) (b.same fm)⟩⟩
set_option tactic.hygienic true in
def Yd{nm f:Str}(T:cK c.K nm z)(n:X8 c.K z f)(h:PE c e (G4 m))(Fb:PX c I E u r)(s:autoParam (Z2 e f c.env (eval e c.env)=eval e c.env) k6)(hs:autoParam (ic E) jO):PX c I (.Subscript (.Attribute e f A) E p) (my (wJ c.K) (qt c.K (G4 m) f) u) (iL nm m f r):=⟨wN sr (rT h s) Fb.p hs,by
 intro O g i σ H Y pv Q S b q;obtain⟨⟨w,fs⟩,h1,b⟩:=j3 b;obtain⟨tb,V,b⟩:=j3 b;obtain⟨l,t,b⟩:=j3 b;obtain⟨k,o,K⟩:=j3 b;have e3:=vG t;subst e3;obtain⟨v,R,L,_,hR,C',G,W,R',rfl,C,c2,F⟩:=S.slot m _ (bO h1);have ec:=T.eq C;subst ec;obtain⟨x,Rf,l1,l2,l3,l4⟩:=F.look V;cases l2 with
 |own P D =>
  rename_i a Z;refine⟨_,L,v,C',G,W,_,rfl,c2,T.cl,n,l1,Fb.t O g i σ H Y k _ S o λy N fr M=>?_⟩
  have B:=M.dt S.dm;generalize k.d=kk at K B;cases B with
  |int j =>
   have X:=K;obtain⟨d,h5,X⟩:=j3 X;cases X;obtain⟨v,t,o⟩:=D.V4 h5;exact .inl ⟨a,Z,j,v,rfl,rfl,K6.of (fr _ _ P),t,q v N fr (Dt.same (fm.trans (L0 fr)) o)⟩
  |_=>exact nE K⟩
end
section
variable{K:n6}
set_option tactic.hygienic true in
def DS.adopt{H1:Hp}(S:DS K O q y D H G)(m:m3 H H1)(i:Nat){R:List Addr}(r:∀b∈R,H b=J)(x:∀b∈R,∃u:Cl,H1 b=U u.1):
  DS K O q (R.map U++y) D H1 G/\∀c:Nat->List Addr,(∀i b,b∈c i->U b∈y)->(∀i j b,b∈c i->b∈c j->i=j)->(∀(i:Nat) (pv:PV),G[i]? = U (U pv)->bD K O y H D[i]? (c i) pv) ->
   ∃a:Nat->List Addr,(∀i b,b∈a i->U b∈R.map U++y)/\(∀i j b,b∈a i->b∈a j->i=j)/\(∀(i:Nat) (pv:PV),G[i]? = U (U pv)->bD K O (R.map U++y) H1 D[i]? (a i) pv)/\(∀b∈R,b∈a i)/\∀b∈c i,b∈a i:=by
 have s:∀b∈R,U b∉y:=λb d z=>by obtain⟨_,o,z⟩:=S.new b z;rw[r b d]at z;exact nE z
 have l:∀c:Nat->List Addr,(∀i b,b∈c i->U b∈y)->(∀i j b,b∈c i->b∈c j->i=j)->(∀i pv,G[i]? = U (U pv)->bD K O y H D[i]? (c i) pv) ->
   ∃a:Nat->List Addr,(∀i b,b∈a i->U b∈R.map U++y)/\(∀i j b,b∈a i->b∈a j->i=j)/\(∀i pv,G[i]? = U (U pv)->bD K O (R.map U++y) H1 D[i]? (a i) pv)/\(∀b∈R,b∈a i)/\∀b∈c i,b∈a i:=λc f h p=>by
  refine⟨λj=>if j=i then R++c j else c j,λj b d=>?_,λj k b g e=>?_,λj pv t=>(p j pv t).Ao (kz m r) (λb _ o z=>m _ _ z) λb z=>?_,λb d=>by dsimp only;rw[j2 rfl];exact P9 _ d,λb d=>by dsimp only;rw[j2 rfl];exact F4 _ d⟩
  . dsimp only at d;split at d
    . rcases List.mem_append.mp d with z|z
      exact P9 _ (mem_map.mpr ⟨b,z,rfl⟩);exact F4 _ (f j b z)
    exact F4 _ (f j b d)
  . dsimp only at g e;split at g
    . rename_i n;split at e;rename_i σ;rw[n,σ]
      . rcases List.mem_append.mp g with z|z
        exact absurd (f k b e) (s b z);exact h j k b z e
    . split at e
      . rcases List.mem_append.mp e with z|z
        exact absurd (f j b g) (s b z);exact h j k b g z
      exact h j k b g e
  dsimp only;split;exact F4 _ z;exact z
 obtain⟨c,f,h,p⟩:=S.fX;obtain⟨a,v,k2,w,_⟩:=l c f h p;refine⟨⟨S.ls,S.same.trans m,λb d=>?_,S.ee,a,v,k2,w⟩,l⟩
 rcases List.mem_append.mp d with z|z
 obtain⟨A,n,σ⟩:=mem_map.mp z;cases σ;exact⟨S.same.free (r b n),x b n⟩;exact⟨(S.new b z).1,let ⟨o,z⟩:=(S.new b z).2;⟨o,m _ _ z⟩⟩
end
noncomputable def gJ:PV->Option PF
 | .dat d=>U (.dat d)
 | .own l=>U (.own l)
 | .ob _ (.dct es)=>U (.dct es)
 |_=>J
def iN(pv:PV):Option PF:=U (.dat pv.d)
noncomputable def U9(nm:Str)(i:Nat)(f:Str)(kp:PV->Option PF)(F:DV):DO:=λds=>(F ds).bind λpv=>(kp pv).bind λp=>(fR nm i ds).bind λx=>if x.2.length<900 then U (.next (ds.set i (U (.ob x.1 (.ins nm (L5 f p x.2))))))else J
def L4.len(h:L4 g q H e9 c7 O):e9.length=c7.length:=by
 induction h with
 |nil=>rfl
 |dat _ _ a=>simp_all
 |own _ _ _ _ a=>simp_all
 |dct _ _ _ _ a=>simp_all
section
def Hj{p:PF}(D:qm H y O)(r:RX g O y H q a7 d2)(h:gJ d2=U p\/iN d2=U p):∃Rf,(∀b∈Rf,H b=J)/\(∀b∈Rf,∃u:Cl,q b=U u.1)/\tW g (p7 q (Rf.map U++y) O) q a7 p Rf:=by
 rcases h with h|h
 . cases d2 with
   |dat d=>cases h;exact⟨[],λb e=>absurd e t7,λb e=>absurd e t7,.dat r⟩
   |own l =>
    cases h;obtain⟨a,k,rfl,n,K,r⟩:=r;refine⟨[a],λb e=>?_,λb e=>?_,.own K r⟩;rw[mem_singleton.mp e];exact n;rw[mem_singleton.mp e];exact⟨Cl.l k,K⟩
   |ob w c =>
    cases c with
    |dct o =>
     cases h;obtain⟨a,R,rfl,_,K,i,rfl,j,m⟩:=r;refine⟨[a],K,λb e=>?_,.dct j m⟩;rw[mem_singleton.mp e];exact⟨Cl.d i,j⟩
    |ins _ _=>exact nE h
    |seq _ _=>exact nE h
 cases h;exact⟨[],λb e=>absurd e t7,λb e=>absurd e t7,.dat (r.dt D)⟩
def Qg{te:TE}{nm f:Str}{kp:PV->Option PF}(T:cK c.K nm z)(n:X8 c.K z f)(h:PE c E (G4 m))(hk:∀pv C,kp pv=U C->gJ pv=U C\/iN pv=U C)(Y:PX c Uf e te r)(hs:autoParam (ag e (U (.Attribute E f A)) p.line c.env=pure U') k6):H0 c (.Assign [.Attribute E f A] e p) (XE c.K (G4 m) te f) (U9 nm m f kp r):=⟨Ys h Y.p hs,by
 intro O g as σ H ds D o S a q;obtain⟨pv,h1,a⟩:=j3 a;obtain⟨C,h2,a⟩:=j3 a;obtain⟨⟨w,fs⟩,I,a⟩:=j3 a;obtain⟨hl,a⟩:=D7 a;cases a;refine Y.t O g as σ H ds pv _ S h1 λy H1 s r1=>?_
 obtain⟨Rf,M,k2,k3⟩:=Hj (S.dm) r1 (hk pv C h2);obtain⟨S1,ad⟩:=S.adopt s m M k2;obtain⟨rg,N,B,l⟩:=S.fX;obtain⟨rg',g1,g2,W,g4,g5⟩:=ad rg N B l;obtain⟨v,R,t,ew,hR,L,x,Z,R',rfl,V,G,c3⟩:=W m _ (bO I);have ec:=T.eq V;subst ec;obtain⟨v0,R0,j,ew0,Q,C0,dx0,fv0,R0',rfl,c10,P,d⟩:=l m _ (bO I);rw[t]at j;cases j;have k:=s _ _ P;rw[G]at k;cases k;have dj:∀b∈Rf,b∉R0':=λb X F=>by obtain⟨u,_,F⟩:=d.at b F;rw[M b X]at F;exact nE F
 obtain⟨R2,p1,p2⟩:=(d.same (kz s M) λb _ E F=>s _ _ F).put (f:=f) k3 dj;refine⟨_,t,v,L,x,Z,rfl,G,T.cl,n,by rw[d.len];exact ju,q (Rf.map U++as) σ _ ?_⟩
 have nv:∀b∈R2,b≠v:=λb X F=>by subst F;obtain⟨u,i,F⟩:=p1.at b X;rw[G]at F;cases F;rcases i with ⟨_,i⟩|⟨_,i⟩<;>cases i
 have hv:=hR v v8;refine S1.wo (u:=Cl.i L x (bN f y Z)) (bO I) g1 g2 W hv λsm=>⟨v,v::R2,t,ew,λb X=>?_,L,x,_,R2,rfl,V,J8,p1.same sm λb X E F=>by rw[E3 (nv b X)];exact F⟩
 rcases List.mem_cons.mp X with rfl|X
 exact hv
 . rcases p2 b X with F|F
   exact g4 b F
   . exact g5 b (Q b (u7 _ F))⟩
noncomputable def bY(nm:Str)(i:Nat)(f:Str)(Fk Fv:DV):DO:=λds=>(Fv ds).bind λpv=>(Fk ds).bind λk=>(fR nm i ds).bind λx=>(w4 f x.2).bind λp=>(rW p).bind λl=>match k.d with
 | .int k=>(eQ l.length k).bind λj=>U (.next (ds.set i (U (.ob x.1 (.ins nm (L5 f (.own (l.set j pv.d)) x.2))))))
 |_=>J
noncomputable def oi(nm:Str)(i:Nat)(f:Str)(F:DV):DO:=λds=>(F ds).bind λpv=>(fR nm i ds).bind λx=>(w4 f x.2).bind λp=>(rW p).bind λl=>if l.length<1000000 then U (.next (ds.set i (U (.ob x.1 (.ins nm (L5 f (.own (l++[pv.d])) x.2))))))else J
def DS.SU{f:Str}{p t:PF}{u:Cl}{a r:Addr}(S:DS g O q y D H G)(hd:G[m]? = U (U (.ob g0 (.ins o c7))))(I:w4 f c7=U p)(s:D[m]? = U (U (.ref T)))(l:H T=U (.ins a r e9))(N:e9.lookup f=U (.ref z))(u3:∀d,p≠.dat d)(X:∀{Hv':Hp},m3 (p7 H y O) Hv'->tW g Hv' (upd H z u.1) (.ref z) t [z]):DS g O q y D (upd H z u.1) (G.set m (U (.ob g0 (.ins o (L5 f t c7))))):=by
 obtain⟨rg,E,W,x⟩:=S.fX;obtain⟨v0,R0,c,i,h,Z,C,M,e,rfl,n,w,j⟩:=x m _ hd;rw[s]at c;cases c;rw[l]at w;cases w;obtain⟨x0,R,A,P,Q,F⟩:=j.look I;rw[N]at A;cases A;have L:R=[z]:=by
  cases P with
  |dat _=>exact absurd rfl (u3 _)
  |own _ _=>rfl
  |dct _ _=>rfl
 subst L;have B:=Q z v8;have Y:T≠z:=λnm=>by subst nm;obtain⟨u',k,nm⟩:=j.at T B;rw[l]at nm;cases nm;rcases k with ⟨_,k⟩|⟨_,k⟩<;>cases k
 refine S.wo hd E W x (h z (u7 _ B)) λsm=>⟨T,T::e,s,i,h,a,r,e9,e,rfl,n,by rw[E3 Y];exact l,F sm (λb hb v K nm=>?_) (X sm)⟩;rw[E3 (λnm=>v (by rw[nm];exact v8))];exact nm
set_option tactic.hygienic true in
def Qf {te:TE} {Fk:DV} {nm f:Str} {k:Expr} {G:TE} {b:Pos} (T:cK c.K nm z) (n:X8 c.K z f) (ho:PE c E (G4 m)) (Z:PX c Uf k G Fk) (I:PX c Uf e te r) (y:autoParam (Z2 E f c.env (eval E c.env)=eval E c.env) k6) (ha:autoParam (∀v,assign (.Subscript (.Attribute E f A) k b) c.env v=(do
   let ov <- holding [v] (eval (.Attribute E f A) c.env)
   let iv <- holding [v,ov] (eval k c.env)
   bH b
   holding [v,ov,iv] (pO ov iv v)
   release [v,ov,iv] [])) Q4)
  (hs:autoParam (tq [.Subscript (.Attribute E f A) k b] e p.line c.env=pure U') k6) (hw:autoParam (tm [.Subscript (.Attribute E f A) k b] e c.env=pure J) k6)
  (h1:autoParam ((gr [.Subscript (.Attribute E f A) k b] c.env).map (·.2)=[assign (.Subscript (.Attribute E f A) k b) c.env]) k6) :
  H0 c (.Assign [.Subscript (.Attribute E f A) k b] e p) (fO te (CS (qt c.K (G4 m) f) G wI)) (bY nm m f Fk r):=⟨wK I.p (wM (rT ho y) Z.p set_list ha) hs hw h1,by
 intro O g B o H L D F S X q;obtain⟨pv,e1,X⟩:=j3 X;obtain⟨kv,e2,X⟩:=j3 X;obtain⟨⟨w,fs⟩,P,X⟩:=j3 X;obtain⟨t,Q,X⟩:=j3 X;obtain⟨l,e5,h⟩:=j3 X;have e6:=vG e5;subst e6;split at h
 . rename_i kk K;obtain⟨j,e7,h⟩:=j3 h;cases h;refine I.t O g B o H L pv _ S e1 λv H1 s1 r1=>?_
   have s:=S.grow s1;obtain⟨v0,R,V,_,hR,C',dx,fv,R',rfl,c1,M,c3⟩:=s.slot m _ (bO P);have ec:=T.eq c1;subst ec;obtain⟨x,Rf,Y,l2,l3,l4⟩:=c3.look Q;cases l2 with
   |own y1 W =>
    rename_i a xs;refine⟨_,V,v0,C',dx,fv,_,rfl,M,T.cl,n,Y,?_⟩;refine Z.t O g B o H1 L kv _ s e2 λw' H2 i r2=>?_;have N:=r2.dt s.dm;rw[K]at N;cases N;refine⟨a,xs,kk,j,rfl,rfl,i _ _ y1,by rw[W.length];exact e7,q B o _ ?_⟩;exact(s.grow i).SU (u:=Cl.l _) (bO P) Q V (i _ _ M) Y (λd C=>by cases C) λsm=>.own J8 (((W.same (L0 i)).set j ((r1.grow i).dt S.dm)).same sm)
 . exact nE h⟩
set_option tactic.hygienic true in
def Qh {te:TE} {nm f:Str} {apos cpos:Pos} (T:cK c.K nm z) (n:X8 c.K z f) (ho:PE c E (G4 m)) (B:PX c Uf e te r) (K:autoParam (Z2 E f c.env (eval E c.env)=eval E c.env) k6) (k:autoParam (m8 [e] c.env=(U',eval e c.env)::m8 [] c.env) k6) (g:autoParam (Z2 (.Attribute E f A) "append" c.env (eval (.Attribute E f A) c.env)=eval (.Attribute E f A) c.env) k6) (i:autoParam (((C6 cpos (m8 [e] c.env)).all (λx=>!x.1)&&(aQ cpos (dq [] c.env)).all (λx=>x.1.isSome)
   && decide ([e].length+([]:List aa).length+(if ([]:List aa).isEmpty then 0 else 1)<30))=Uf) k6)
  (X:autoParam ((apos.endLine==cpos.line)=Uf) k6) (b:autoParam ((C6 cpos (m8 [] c.env)).any (·.1)=U') k6)
  (hs:autoParam (ag (.Call (.Attribute (.Attribute E f A) "append" apos) [e] [] cpos) J p.line c.env=pure U') k6) :
  H0 c (.Expr (.Call (.Attribute (.Attribute E f A) "append" apos) [e] [] cpos) p) (ub (Gp c.K "list" yQ (qt c.K (G4 m) f) (qu te qs))) (oi nm m f r) :=
 ⟨oY (wO qj Oq Oo Av (rT ho K) (lW B.p rV k) g i X k b) hs,by
 intro O j N W H ds D F S h q;obtain⟨pv,e1,h⟩:=j3 h;obtain⟨⟨w,fs⟩,G,h⟩:=j3 h;obtain⟨t,I,h⟩:=j3 h;obtain⟨l,e5,y⟩:=j3 h;have e6:=vG e5;subst e6;obtain⟨hl,y⟩:=D7 y;cases y;obtain⟨v0,R,L,_,hR,C',Z,fv,R',rfl,Y,o,c3⟩:=S.slot m _ (bO G);have ec:=T.eq Y;subst ec;obtain⟨x,Rf,V,l2,l3,l4⟩:=c3.look I;cases l2 with
 |own P M =>
  rename_i a Q;refine⟨_,L,v0,C',Z,fv,_,rfl,o,T.cl,n,V,.inl ⟨rfl,Q,K6.of P⟩,?_⟩;refine B.t O j N W H ds pv _ S e1 λv H1 s r1=>?_
  have:=M.length;refine⟨a,Q,v,rfl,rfl,s _ _ P,J4 o9 (nU y4),q N W _ ?_⟩;exact(S.grow s).SU (u:=Cl.l _) (bO G) I L (s _ _ o) V (λd C=>by cases C) λsm=>.own J8 (((M.same (L0 s)).append (.cons (r1.dt S.dm) .nil)).same sm)⟩
end
def iw(K:n6)(f:List PV->Option (PV×Ds)):Sp:=λvs H Q _=>∃(O:List Addr) (u3:Hp) (as:As) (args:List PV) (pv:PV) (ds':Ds),
 DS K O u3 as (vs.map U) H (args.map U)/\f args=U (pv,ds')/\∀as' Hm H' v,DS K O u3 as' (vs.map U) Hm ds'->m3 Hm H'->RX K O as' Hm H' v pv->Q v H'
noncomputable def cu(t:Nat->Addr):Nat->List PV->List PV
 |_,[]=>[]
 |i,.ob _ c::r=>.ob (U (t i)) c::cu t (i+1) r
 |i,x::r=>x::cu t (i+1) r
noncomputable def O9(t:Nat->Addr):Nat->List PV->Ds->Ds
 |_,[],_=>[]
 |i,.ob _ _::a,U (.ob w c)::r=>(if w=U (t i)then U (.ob J c)else J)::O9 t (i+1) a r
 |i,_::a,_::r=>J::O9 t (i+1) a r
 |i,_::a,[]=>J::O9 t (i+1) a []
noncomputable def lh(args:List PV)(t:Nat->Addr):Out->Option (PV×Ds)
 | .retO pv ds=>U (pv,O9 t 0 args ds)
 | .next ds=>U (.dat .none,O9 t 0 args ds)
 |_=>J
noncomputable def mM(n N:Nat)(G:DO):List PV->Option (PV×Ds):=λargs=>if args.length=n then
 (open Classical in if h:∃r,∀t,(G ((cu t 0 args).map U++w5 (N-n) J)).bind (lh args t)=U r then U h.choose else J)else J
def iK{N:Nat}{args:List PV}{r:PV×Ds}(b:args.length=m)(h:∀t,(b4 ((cu t 0 args).map U++w5 (N-m) J)).bind (lh args t)=U r):mM m N b4 args=U r:=by
 delta mM;rw[j2 b];have a:∃r,∀t,(b4 ((cu t 0 args).map U++w5 (N-m) J)).bind (lh args t)=U r:=⟨r,h⟩;rw[dif_pos a];have:=a.choose_spec λ_=>0;rw[h λ_=>0]at this;exact this.symm
set_option tactic.hygienic true in
def Hs{N:Nat}{args:List PV}{r:PV×Ds}(h:mM m N b4 args=U r):args.length=m/\∀t,(b4 ((cu t 0 args).map U++w5 (N-m) J)).bind (lh args t)=U r:=by
 unfold mM at h;split at h;rename_i a;split at h;rename_i b;cases h;exact⟨a,b.choose_spec⟩;exact nE h;exact nE h
theorem BG(t:Nat->Addr):∀(args:List PV) (i k:Nat),(cu t i args)[k]? = (args[k]?).map λpv=>match pv with
  | .ob _ c=>.ob (U (t (i+k))) c
  |pv=>pv
 | [],i,k=>by simp[cu]
 |x::r,i,0=>by cases x<;>simp[cu]
 |x::r,i,k+1=>by
  have:=BG t r (i+1) k;rw[show i+1+k=i+(k+1)from EM _ _ _]at this
  cases x<;>(assumption)
set_option tactic.hygienic true in
theorem vP(t:Nat->Addr):∀(args:List PV) (i k:Nat) (ds:Ds) (pv:PV),(O9 t i args ds)[k]? = U (U pv)->∃c w b,pv=.ob J c/\args[k]? = U (.ob w b)/\ds[k]? = U (U (.ob (U (t (i+k))) c))
 | [],i,k,ds,pv,h=>by simp[O9]at h
 |x::a,i,0,[],pv,h=>by cases x<;>simp[O9]at h
 |x::a,i,k+1,[],pv,h=>by
  have d:(O9 t (i+1) a [])[k]? = U (U pv):=by cases x<;>simpa [O9]using h
  obtain⟨c,w,b,_,_,h⟩:=vP t a (i+1) k [] pv d;simp at h
 |x::a,i,0,y::r,pv,h=>by
  cases x with
  |ob e b =>
   cases y with
   |none=>simp[O9]at h
   |some y =>
    cases y with
    |ob w c =>
     simp only[O9]at h;split at h;rename_i j;cases h;exact⟨c,e,b,rfl,rfl,by simp[j]⟩;cases h
    |dat _=>simp[O9]at h
    |own _=>simp[O9]at h
  |dat _=>simp[O9]at h
  |own _=>simp[O9]at h
 |x::a,i,k+1,y::r,pv,h=>by
  have d:(O9 t (i+1) a r)[k]? = U (U pv):=by
   cases x with
   |ob e b =>
    cases y with
    |none=>assumption
    |some y=>cases y<;>simpa [O9]using h
   |dat _=>assumption
   |own _=>assumption
  obtain⟨c,w,b,f,g,l⟩:=vP t a (i+1) k r pv d;exact⟨c,w,b,f,by assumption,by rw[qT,l,show i+1+k=i+(k+1)from EM _ _ _]⟩
theorem jH(t:Nat->Addr):∀(args:List PV) (i:Nat) (ds:Ds),(O9 t i args ds).length=args.length
 | [],_,_=>by simp[O9]
 |x::a,i,[]=>by cases x<;>simp[O9,jH t a]
 |x::a,i,y::r=>by
  cases x with
  |ob w c =>
   cases y with
   |none=>simp[O9,jH t a]
   |some y=>cases y<;>simp[O9,jH t a]
  |dat _=>simp[O9,jH t a]
  |own _=>simp[O9,jH t a]
section
variable{K:n6}
def DS.slots(S:DS K O q y D H G){b:St}{ds':Ds}(l:b.length=ds'.length)(h:∀(i:Nat) (pv:PV),ds'[i]? = U (U pv)->∃a,G[i]? = U (U a)/\∀c,bD K O y H D[i]? c a->bD K O y H b[i]? c pv):DS K O q y b H ds':=by
 obtain⟨c,j,e,k⟩:=S.fX;refine⟨l,S.same,S.new,S.ee,c,j,e,λi pv f=>?_⟩;obtain⟨a,d,g⟩:=h i pv f;exact g _ (k i a d)
end
section
variable{w:x5}{K:n6}{mg:Str->Option j5}
def addrOf:Option V->Addr
 |some (.ref a)=>a
 |_=>(0:Nat)
set_option tactic.hygienic true in
def DS.Xx{args:List PV}{N:List Str}(S:DS K O q y (L.map U) H (args.map U)):
  DS K O q y (L2.start N L) H ((cu (λi=>addrOf L[i]?) 0 args).map U++w5 (N.length-args.length) J):=by
 have m:L.length=args.length:=by have:=S.ls;simpa using this
 have lt:(cu (λi=>addrOf L[i]?) 0 args).length=args.length:=by
  have:∀a i t,(cu t i a).length=a.length:=by
   intro a;induction a with
   |nil=>intro i t;rfl
   |cons x r p=>intro i t;cases x<;>simp[cu,p]
  exact this _ _ _
 refine S.slots (by delta L2.start;simp[lt,m]) λi pv b=>?_;rw[NO]at b;split at b
 . rename_i z;rw[L1,BG,Option.map_map]at b;have f:i<args.length:=by simpa [lt]using z
   have e:i<L.length:=by lia
   rw[F2 f]at b;have k:(L2.start N L)[i]? = (L.map U)[i]?:=by delta L2.start;rw[iU (by simpa using e)]
   have s:(args.map U)[i]? = U (U args[i]):=by rw[L1,F2 f];rfl
   refine⟨args[i],s,λA h=>?_⟩
   rw[k];simp only[pZ,Function.comp,Nv]at b;generalize args[i]=x at b h;cases x with
   |dat d=>simp only at b;rw[<-b];exact h
   |own l=>simp only at b;rw[<-b];exact h
   |ob w c =>
    rw[<-b];obtain⟨v,R,g,u,o,n⟩:=h;refine⟨v,R,g,.inr ?_,o,n⟩;rw[L1]at g;rw[F2 e]at g;have j:L[i]=.ref v:=by simpa using g
    rw[pU,F2 e,j];rfl
 have:=nL b;simp[NA]at this
set_option tactic.hygienic true in
def tU.okO {j:Str} {N:List Str} (F:tU K o j d9 z b9) (S:jQ N Q (J2 d9)) (hN:Q.length<=N.length) (u:∀(f:j5) (A:X9) (outer:List Env) (s:l5) (H:Hp) (E:XK),K7 m (A.deeper (eV j (J2 d9) (hz s) z f)) ->
   ∃t,iP (oM rE b5 w K mg a9 N j (J2 d9) z f A outer s H E).Au (bj d9) t b4):ar b5 w K mg a9 rE (m+1) z b9 Q (iw K (mM Q.length N.length b4)):=by
 have ln:∀g H M E,iw K (mM Q.length N.length b4) g H M E->g.length=Q.length:=λg H M E h=>by obtain⟨O,d,as,q,pv,Z,D,I,X⟩:=h;have:=D.ls;have hl:=(Hs I).1;simp at this;simp[*]
 refine F.ok S ln λf A outer s H g M E hr h=>?_
 obtain⟨O,d,as,q,pv,Z,D,I,X⟩:=h;obtain⟨t,ht⟩:=u f A outer s H E hr;refine⟨t,ht.p,?_⟩;obtain⟨hl,I⟩:=Hs I;have W:=I λi=>addrOf g[i]?
 obtain⟨P,W,C⟩:=j3 W;have S1:=DS.Xx (N:=N) D;rw[hl]at S1;have:g.length=Q.length:=by have:=D.ls;simp at this;simp[*]
 have L:∀a l T b,DS K O d a l T b->DS K O d a (g.map U) T (O9 (λi=>addrOf g[i]?) 0 q b):=λa l T b S2=>by
  refine S2.slots (by rw[jH,A6];simp[*]) λi pv hd=>?_;obtain⟨c,w0,c0,rfl,h4,h5⟩:=vP _ _ _ _ _ _ hd;refine⟨_,h5,λrg hs=>?_⟩
  obtain⟨v,R,z1,z2,z3,z4⟩:=hs;refine⟨v,R,?_,.inl rfl,z3,z4⟩;have n:addrOf g[0+i]? = v:=by
   rcases z2 with x|x
   exact nS x;exact R1 x
  rw[pU]at n;obtain⟨v',_,B,_⟩:=D.slot i (.ob w0 c0) (by rw[L1,h4];rfl)
  rw[B];rw[L1]at B;cases e:g[i]? with
  |none=>rw[e]at B;exact nE B
  |some o =>
   rw[e]at B n;have y1':o=.ref v':=by simpa using B
   rw[y1']at n;have Y:v'=v:=n;rw[Y]
 refine ht.t O d as (L2.start N g) H _ _ P S1 W ?_;cases P with
 |next b=>cases C;exact λa l V S'=>X a V V _ (L _ _ _ _ S') (m3.refl _) Dt.non
 |retO pv' b=>cases C;exact λa l T V v S' s r=>X a T V v (L _ _ _ _ S') s r
 |ret pv'=>exact nE C
 |brk b=>exact nE C
 |cont b=>exact nE C
 |up o=>exact nE C
end
inductive AV where
 |d (x:f7)
 |s (i:Nat)
variable{h8:Ds->Option (List AV)}
inductive AU(K:n6)(Hv:Hp)(σ:St):List V->List AV->Prop
 |nil:AU K Hv σ [] []
 |d {v x vs l}:Dt K Hv v x->AU K Hv σ vs l->AU K Hv σ (v::vs) (.d x::l)
 |s {v i vs l}:σ[i]? = U (U v)->AU K Hv σ vs l->AU K Hv σ (v::vs) (.s i::l)
def TAO(K:n6)(t:TA)(F:Ds->Option (List AV)):Prop :=
 ∀(O:List Addr) (u3:Hp) (as:As) (σ:St) (H:Hp) (ds:Ds) (l:List AV) (Q:List V->Hp->Prop),DS K O u3 as σ H ds->F ds=U l->(∀vs H',m3 H H'->AU K (p7 H' as O) σ vs l->Q vs H')->t σ H Q
structure sL(X:Cx)(es:List Expr)(t:TA)(F:Ds->Option (List AV)):Prop where
 p:PA X es t
 t:TAO X.K t F
noncomputable def aL:Ds->Option (List AV):=λ_=>U []
noncomputable def B8(F:DV)(G:Ds->Option (List AV)):Ds->Option (List AV):=λds=>(F ds).bind λx=>(G ds).bind λl=>U (.d x.d::l)
noncomputable def bW(i:Nat)(G:Ds->Option (List AV)):Ds->Option (List AV):=λds=>match ds[i]? with
 |some (U (.ob _ _))=>(G ds).bind λl=>U (.s i::l)
 |_=>J
section
def VJ:sL c [] qs aL:=⟨rV,by intro O a d e H X l Q S b q;cases b;exact q [] H (m3.refl H) .nil⟩
def QJ(h:PX c Uf e u r)(k:sL c Z M h8)(hs:autoParam (m8 (e::Z) c.env=(U',eval e c.env)::m8 Z c.env) k6):sL c (e::Z) (qu u M) (B8 r h8):=⟨lW h.p k.p hs,by
 intro O a j f H i l Q S b q;obtain⟨x,s,b⟩:=j3 b;obtain⟨m,y,b⟩:=j3 b;cases b;refine h.t O a j f H i x _ S s λv n g t=>?_;refine k.t O a j f n i m _ (S.grow g) y λo w X F=>?_
 exact q (v::o) w (g.trans X) (.d ((t.grow X).dt (S.dm)) F)⟩
set_option tactic.hygienic true in
def QI(i:Nat)(h:PE c e (G4 i))(k:sL c Z M h8)(hs:autoParam (m8 (e::Z) c.env=(U',eval e c.env)::m8 Z c.env) k6):sL c (e::Z) (qu (G4 i) M) (bW i h8):=⟨lW h k.p hs,by
 intro O b y n H u l Q S a q;unfold bW at a;split at a;rename_i w X f;obtain⟨m,r,a⟩:=j3 a;cases a;obtain⟨v,R,d,_⟩:=S.slot i _ f;refine⟨_,d,?_⟩;refine k.t O b y n H u m _ S r λg x j o=>?_;exact q (_::g) x j (.s d o)
 . exact nE a⟩
end
noncomputable def oO(ds:Ds):List AV->Option (List PV)
 | []=>U []
 | .d x::l=>(oO ds l).bind λr=>U (.dat x::r)
 | .s i::l=>match ds[i]? with
  |some (U (.ob _ c))=>(oO ds l).bind λr=>U (.ob J c::r)
  |_=>J
noncomputable def M4:List AV->List Nat
 | []=>[]
 | .d _::l=>M4 l
 | .s i::l=>i::M4 l
noncomputable def IQ:Option PV->Option (Option PV)->Option PV
 |some (.ob _ c),U (U (.ob w _))=>U (.ob w c)
 |_,_=>J
set_option tactic.hygienic true in
def LG{x:Option PV}{o:Option (Option PV)}(h:IQ x o=U d2):∃w c b a,o=U (U (.ob w a))/\x=U (.ob b c)/\d2=.ob w c:=by
 unfold IQ at h;split at h;rename_i b c w a;cases h;exact⟨w,c,b,a,rfl,rfl,rfl⟩;exact nE h
noncomputable def eG:List AV->Ds->Ds->Ds
 | .s i::l,x::r,ds=>eG l r (ds.set i (IQ x ds[i]?))
 | .d _::l,_::r,ds=>eG l r ds
 |_,_,ds=>ds
noncomputable def iB:List AV->Nat->Option Nat
 | [],_=>J
 | .d _::l,j=>(iB l j).map (· + 1)
 | .s i::l,j=>if i=j then U 0 else(iB l j).map (· + 1)
set_option tactic.hygienic true in
theorem ku:∀{l:List AV} {j k:Nat},iB l j=U k->l[k]? = U (.s j)
 | [],j,k,h=>nE h
 | .d x::l,j,k,h=>by simp only[iB,EZ]at h;obtain⟨m,a,rfl⟩:=h;rw[qT];exact ku a
 | .s i::l,j,k,h=>by
  simp only[iB]at h;split at h;rename_i e;cases h;rw[e];rfl;simp only[EZ]at h;obtain⟨m,a,rfl⟩:=h;rw[qT];exact ku a
theorem br:∀{l:List AV} {j:Nat},j∈M4 l ↔ ∃k:Nat,l[k]? = U (AV.s j)
 | [],j=>by simp[M4]
 | .d x::l,j=>by
  rw[M4,br];constructor;rintro⟨k,h⟩;exact⟨k+1,by assumption⟩
  . rintro⟨k,h⟩;cases k with
    |zero=>simp at h
    |succ k=>exact⟨k,by assumption⟩
 | .s i::l,j=>by
  rw[M4,X3,br];constructor;rintro(h|⟨k,h⟩);exact⟨0,by rw[h];rfl⟩;exact⟨k+1,by assumption⟩
  . rintro⟨k,h⟩;cases k with
    |zero =>
     have a:i=j:=by simpa using h
     exact .inl a.symm
    |succ k=>exact .inr ⟨k,by assumption⟩
theorem jB:∀{l:List AV} {j k:Nat},(M4 l).Nodup->l[k]? = U (.s j)->iB l j=U k
 | [],j,k,_,h=>by simp at h
 | .d x::l,j,k,n,h=>by
  cases k with
  |zero=>simp at h
  |succ k =>
   simp only[iB,jB (l:=l) n h,pZ]
 | .s i::l,j,k,n,h=>by
  rw[M4,Nb]at n;cases k with
  |zero =>
   have b:i=j:=by simpa using h
   simp[iB,b]
  |succ k =>
   have a:i≠j:=λz=>n.1 (br.mpr ⟨k,by rw[z];exact h⟩);simp only[iB,j1 a,jB n.2 h,pZ]
set_option tactic.hygienic true in
def a0f{l:List AV}{args:List PV}(o:AU g H D L l)(h:oO G l=U args):L.length=l.length/\args.length=l.length/\∀(k:Nat) (pv:PV),args[k]? = U pv ->
  (∃x v,l[k]? = U (AV.d x)/\pv=.dat x/\L[k]? = U v/\Dt g H v x)\/∃i w c v,l[k]? = U (AV.s i)/\G[i]? = U (U (.ob w c))/\pv=.ob J c/\L[k]? = U v/\D[i]? = U (U v):=by
 induction o generalizing args with
 |nil =>
  cases h;exact⟨rfl,rfl,λk pv h=>nE h⟩
 |d e t i =>
  obtain⟨r,f,h⟩:=j3 h;cases h;obtain⟨b,K,a⟩:=i f;refine⟨r9 (· + 1) b,r9 (· + 1) K,λk pv h=>?_⟩
  cases k with
  |zero=>exact .inl ⟨_,_,rfl,(R1 h).symm,rfl,e⟩
  |succ k=>exact a k pv h
 |s e t i =>
  rw[oO]at h;split at h
  . rename_i w c n;obtain⟨r,f,h⟩:=j3 h;cases h;obtain⟨b,K,a⟩:=i f;refine⟨r9 (· + 1) b,r9 (· + 1) K,λk pv h=>?_⟩
    cases k with
    |zero=>exact .inr ⟨_,w,c,_,rfl,n,(R1 h).symm,rfl,e⟩
    |succ k=>exact a k pv h
  exact nE h
theorem vD:∀{l:List AV} {ds' ds:Ds},(eG l ds' ds).length=ds.length
 | [],_,_=>by simp[eG]
 | .d _::l,x::r,ds=>by rw[eG];exact vD
 | .d _::l,[],ds=>by simp[eG]
 | .s i::l,[],ds=>by simp[eG]
 | .s i::l,x::r,ds=>by rw[eG,vD,Ng]
theorem vE:∀{l:List AV} {ds' ds:Ds} {j:Nat} {pv:PV},(M4 l).Nodup->ds'.length=l.length->(eG l ds' ds)[j]? = U (U pv) ->
  (j∉M4 l/\ds[j]? = U (U pv))\/∃(k:Nat) (w:Option Addr) (c:OD) (f:Option Addr) (e:OD),l[k]? = U (AV.s j)/\ds[j]? = U (U (.ob w e))/\ds'[k]? = U (U (.ob f c))/\pv=.ob w c
 | [],_,ds,j,pv,_,_,h=>.inl ⟨by simp[M4],by assumption⟩
 | .d x::l,[],ds,j,pv,n,hl,h=>by simp at hl
 | .s x::l,[],ds,j,pv,n,hl,h=>by simp at hl
 | .d x::l,y::r,ds,j,pv,n,hl,h=>by
  rcases vE (l:=l) n (by simpa using hl) h with h|⟨k,w,c,f,e,g,b,o,m⟩
  exact .inl h;exact .inr ⟨k+1,w,c,f,e,by assumption,b,by assumption,m⟩
 | .s i::l,y::r,ds,j,pv,n,hl,h=>by
  rw[M4,Nb]at n;rcases vE n.2 (by simpa using hl) h with ⟨g,b⟩|⟨k,v,q,f,e,g,b,o,m⟩
  by_cases a:i=j;subst a;rw[ym,j2 rfl]at b;obtain⟨_,b⟩:=D7 b;obtain⟨w,c,f,e,t,p,u⟩:=LG (R1 b);exact .inr ⟨0,w,c,f,e,rfl,t,by rw[p];rfl,u⟩;rw[gM a]at b;exact .inl ⟨by rw[M4,X3];exact λz=>z.elim (λz=>a z.symm) g,b⟩;have a:i≠j:=λz=>n.1 (br.mpr ⟨k,by rw[z];exact g⟩);rw[gM a]at b;exact .inr ⟨k+1,v,q,f,e,by assumption,b,by assumption,m⟩
def Mo{bs:As}{P:List Addr}(h:∀b,(b∈O\/U b∈y)↔(b∈P\/U b∈bs)):p7 H y O=p7 H bs P:=by
 funext b
 delta p7
 simp_all
section
variable{K:n6}
set_option tactic.hygienic true in
def DS.TZ(S:DS K O q y D H G){l:List AV}{args:List PV}(ha:AU K (p7 H y O) D L l)(hp:oO G l=U args)(hn:(M4 l).Nodup):
  ∃Oc Hc ac,DS K Oc Hc ac (L.map U) H (args.map U)/\∀f X ds',DS K Oc Hc f (L.map U) X ds'->∃as2,DS K O q as2 D X (eG l ds' G)/\∀H' v pv,m3 X H'->RX K Oc f X H' v pv->RX K O as2 X H' v pv:=by
 obtain⟨rg,r1,r2,r3⟩:=S.fX;obtain⟨l1,l2,l3⟩:=a0f ha hp;have C:∀b,b∈(M4 l).flatMap rg ↔ ∃i∈M4 l,b∈rg i:=λb=>mem_flatMap;generalize hR:(M4 l).flatMap rg=RI at C;generalize hT:(y.filterMap id).filter (λb=>decide (b∉RI))=B
 have n:∀b,b∈B↔U b∈y/\b∉RI:=λb=>by rw[<-hT,List.mem_filter,EN,decide_eq_true_eq];simp
 have g:∀b,b∈RI->U b∈y:=λb F=>by obtain⟨i,_,h⟩:=(C b).mp F;exact r1 i b h
 have ds:∀(R:List Addr) b,U b∈R.map U↔b∈R:=λR b=>by simp
 have as:∀b o,p7 H (RI.map U) [] b=U o↔b∉RI/\H b=U o:=λb o=>by rw[A0,ds];simp
 have e0:∀H,p7 H (RI.map U) (O++B)=p7 H y O:=λH=>Mo λb=>by
  rw[ds,ja,n];constructor;rintro((h|⟨h,_⟩)|h);exact .inl h;exact .inr h;exact .inr (g b h);rintro(h|h);exact .inl (.inl h);by_cases c:b∈RI;exact .inr c;exact .inl (.inr ⟨h,c⟩)
 refine⟨O++B,p7 H (RI.map U) [],RI.map U,⟨?_,t9,λa h=>?_,λa h=>?_,λk=>match l[k]? with|some (.s i)=>rg i|_=>[],λk b h=>?_,λk k' b h A=>?_,λk pv h=>?_⟩,?_⟩;simp[l1,l2];rw[ds]at h;exact⟨by delta p7;rw[j2 (.inr ((ds _ _).mpr h))],(S.new a (g a h)).2⟩
 . rcases List.mem_append.mp h with h|h
   obtain⟨o,z⟩:=S.ee a h;exact⟨o,(as a o).mpr ⟨λσ=>S.nO (g a σ) h,S.same _ _ z⟩⟩;obtain⟨m,p⟩:=(n a).mp h;obtain⟨_,u,z⟩:=S.new a m;exact⟨_,(as a _).mpr ⟨p,z⟩⟩
 dsimp only at h;split at h;rename_i i M;rw[ds,C];exact⟨i,br.mpr ⟨k,M⟩,h⟩;simp at h;dsimp only at h A;split at h;rename_i i M;split at A;rename_i i' hi';have:=r2 i i' b h A;subst this;have q1:=jB hn M;rw[jB hn hi']at q1;exact(R1 q1).symm;simp at A;simp at h
 . rw[L1]at h;cases t:args[k]? with
   |none=>rw[t]at h;exact nE h
   |some pv0 =>
    rw[t]at h;have A:pv0=pv:=by simpa using h
    subst A;rcases l3 k pv0 t with ⟨x,v,u3,rfl,z3,z4⟩|⟨i,w,c,v,u3,z2,rfl,z3,z4⟩
    exact⟨v,by rw[L1,z3];rfl,by rw[e0];exact z4⟩
    . dsimp only;rw[u3];obtain⟨v',R,Q,y2,Y,Z⟩:=r3 i _ z2;rw[z4]at Q;have W:v=.ref v':=by simpa using Q
      subst W;exact⟨v',R,by rw[L1,z3];rfl,.inl rfl,Y,by rw[e0];exact Z⟩
 intro f X ds' P;obtain⟨rg',q1,q2,q3⟩:=P.fX;have hl':ds'.length=l.length:=by have:=P.ls;simp at this;lia
 have na:∀b,U b∈f->b∉O/\b∉B/\q b=J:=λb F=>by
  have z:=(P.new b F).1;refine⟨λσ=>?_,λσ=>?_,?_⟩;obtain⟨o,I⟩:=S.ee b σ;rw[(as b o).mpr ⟨λq'=>S.nO (g b q') σ,S.same _ _ I⟩]at z;exact nS z;obtain⟨m,p⟩:=(n b).mp σ;obtain⟨_,u,I⟩:=S.new b m;rw[(as b _).mpr ⟨p,I⟩]at z;exact nS z
  . cases I:q b with
    |none=>rfl
    |some o =>
     rw[(as b o).mpr ⟨λq'=>?_,S.same _ _ I⟩]at z;exact nS z;rw[(S.new b (g b q')).1]at I;exact nE I
 have e1:∀H xs,p7 H (xs++f) (O++B)=p7 H (xs++(f++B.map U)) O:=λH xs=>Mo λb=>by
  rw[ja,ja,ja,ja,ds];constructor;rintro((h|h)|h|h);exact .inl h;exact .inr (.inr (.inr h));exact .inr (.inl h);exact .inr (.inr (.inl h));rintro(h|h|h|h);exact .inl (.inl h);exact .inr (.inl h);exact .inr (.inr h);exact .inl (.inr h)
 have e2:∀H:Hp,p7 H f (O++B)=p7 H (f++B.map U) O:=λH=>e1 H []
 have sm:m3 (p7 H y O) (p7 X (f++B.map U) O):=eR λb o m p T=>by
  have F:=λz=>p (g b z);refine⟨m,λz=>?_,P.same _ _ ((as b o).mpr ⟨F,T⟩)⟩
  rcases List.mem_append.mp z with z|z
  have:=(P.new b z).1;rw[(as b o).mpr ⟨F,T⟩]at this;exact nS this;exact p ((n b).mp ((ds _ _).mp z)).1
 refine⟨f++B.map U,⟨by rw[vD];exact S.ls,λb o h=>P.same _ _ ((as b o).mpr ⟨λq'=>?_,S.same _ _ h⟩),λb h=>?_,S.ee,λj=>match iB l j with|some k=>rg' k|none=>rg j,λj b h=>?_,λj N b h A=>?_,λj pv h=>?_⟩,λH' v pv s r=>?_⟩;rw[(S.new b (g b q')).1]at h;exact nE h
 . rcases List.mem_append.mp h with h|h
   exact⟨(na b h).2.2,(P.new b h).2⟩;obtain⟨m,p⟩:=(n b).mp ((ds _ _).mp h);obtain⟨z,u,I⟩:=S.new b m;exact⟨z,u,P.same _ _ ((as b _).mpr ⟨p,I⟩)⟩
 dsimp only at h;split at h;exact P9 _ (q1 _ b h);rename_i hj;refine F4 _ ((ds _ _).mpr ((n b).mpr ⟨r1 j b h,λz=>?_⟩));obtain⟨i,M,z⟩:=(C b).mp z;have:=r2 i j b z h;subst this;obtain⟨k,t⟩:=br.mp M;rw[jB hn t]at hj;exact nS hj
 . have no:∀(j N k),iB l j=U k->iB l N=J->b∈rg' k->b∈rg N->False:=λj N k hj hj' F hb'=>by
     have z:=q1 k b F;have:b∉RI:=λz=>by obtain⟨i,M,z⟩:=(C b).mp z;have:=r2 i N b z hb';subst this;obtain⟨k,t⟩:=br.mp M;rw[jB hn t]at hj';exact nS hj'
     exact(na b z).2.1 ((n b).mpr ⟨r1 N b hb',this⟩)
   dsimp only at h A;split at h;rename_i k t;split at A;rename_i k' E;have:=q2 k k' b h A;subst this;have u3:=ku t;rw[ku E]at u3;cases u3;rfl;rename_i E;exact(no j N k t E h A).elim;rename_i t;split at A;rename_i k' E;exact(no N j k' E t A h).elim;exact r2 j N b h A
 . rcases vE hn hl' h with ⟨m,p⟩|⟨k,w,c,w0,c0,m,p,T,rfl⟩
   . have:iB l j=J:=by
       cases z:iB l j with
       |none=>rfl
       |some k=>exact absurd (br.mpr ⟨k,ku z⟩) m
     dsimp only;rw[this];refine(r3 j pv p).Ao sm (λb F o z=>P.same _ _ ((as b o).mpr ⟨λσ=>?_,z⟩)) λb z=>z;obtain⟨i,M,I⟩:=(C b).mp σ;have e:=r2 i j b I F;subst e;exact m M
   . dsimp only;rw[jB hn m];obtain⟨v',R,Q,y2,Y,Z⟩:=q3 k _ T;obtain⟨v0,R0,x1,x2,_⟩:=r3 j _ p;have t:k<args.length:=by rw[l2];exact(List.getElem?_eq_some_iff.mp m).1
     rcases l3 k _ (F2 t)with ⟨x,v,u3,_⟩|⟨i,w',c',v,u3,z2,z3,z4,z5⟩
     rw[m]at u3;cases u3
     . rw[m]at u3;cases u3;rw[L1,z4]at Q;have W:v=.ref v':=by simpa using Q
       subst W;rw[z5]at x1;have x1':v'=v0:=by simpa using x1
       subst x1';exact⟨v',R,z5,x2,Y,by rw[<-e2];exact Z⟩
 . cases pv with
   |dat d =>
    have r':Dt K (p7 H' f (O++B)) v d:=r;rw[e2]at r';exact r'
   |own l =>
    obtain⟨a,xs,Q,y2,Y,Z⟩:=r;refine⟨a,xs,Q,y2,Y,?_⟩;have:=e1 H' [U a];rw[show(U a::(f++B.map U))=[U a]++(f++B.map U)from rfl,<-this];exact Z
   |ob w c =>
    obtain⟨o,R,Q,y2,Y,Z⟩:=r;refine⟨o,R,Q,y2,Y,?_⟩;rw[<-e1 H' (R.map U)];exact Z
end
def TXO(K:n6)(te:TE)(F:Ds->Option (PV×Ds)):Prop :=
 ∀(O:List Addr) (u3:Hp) (as:As) (σ:St) (H:Hp) (ds:Ds) (pv:PV) (ds':Ds) (Q:VK),DS K O u3 as σ H ds->F ds=U (pv,ds')->(∀as' Hm H' v,DS K O u3 as' σ Hm ds'->m3 Hm H'->RX K O as' Hm H' v pv->Q v H')->te σ H Q
structure pL(X:Cx)(e:Expr)(te:TE)(F:Ds->Option (PV×Ds)):Prop where
 p:PE X e te
 t:TXO X.K te F
noncomputable def bz(f:List PV->Option (PV×Ds))(Fl:Ds->Option (List AV)):Ds->Option (PV×Ds):=λds=>(Fl ds).bind λl=>if (M4 l).Nodup then(oO ds l).bind λargs=>(f args).bind λr=>U (r.1,eG l r.2 ds)else J
section
def OR(z:sL c Z M h8):TXO c.K (qv (iw c.K i4) [] c8 M) (bz i4 h8):=by
 intro O b I p H s pv o Q S a q;obtain⟨l,D,a⟩:=j3 a;obtain⟨r,a⟩:=D7 a;obtain⟨X,y,a⟩:=j3 a;obtain⟨⟨d,j⟩,w,a⟩:=j3 a;cases a;refine z.t O b I p H s l _ S D λL t m u=>?_;obtain⟨F,A,k,C,back⟩:=(S.grow m).TZ u y r;rw[aX];refine⟨F,A,k,X,d,j,C,w,λe i h v G g B=>?_⟩;obtain⟨f,n,x⟩:=back e i j G;exact q f i h v n g (x h v d g B)
def vA(G:ar c.prog c.w c.K c.mg c.base d6 m z b9 Q (iw c.K i4))(l:K7 m c.A)(n:Gl c o)(h:c.mg o=U (.ref z))(i:gA c.K (.ref z)=Uf)(X:Binds c.K b9 Q [])(g:Passes d6 c c8)(d:sL c (e::Z) M h8)(b:autoParam ((o==("__debug__" : Str))=U') E5)(j:autoParam (m8 (e::Z) c.env=(U',eval e c.env)::m8 Z c.env) k6)(a:autoParam ((C6 A (m8 Z c.env)).any (·.1)=U') k6):
  pL c (.Call (.Name o p) (e::Z) [] A) (qv (iw c.K i4) [] c8 M) (bz i4 h8):=⟨GK G l n h i X .nil g d.p b j a,OR d⟩
noncomputable def L6(nm m:Str)(i:Nat)(f:List PV->Option (PV×Ds))(Fl:Ds->Option (List AV)):Ds->Option (PV×Ds):=λds=>(fR nm i ds).bind λx=>match w4 m x.2 with
 |none=>bz f (bW i Fl) ds
 |some _=>J
def OQ{E:Str}(T:cK c.K o z)(I:sL c Z M h8):TXO c.K (lD z E (iw c.K i4) [] c8 (G4 m) M) (L6 o E m i4 h8):=by
 intro O X Y F H ds pv ds' Q S a q;obtain⟨⟨w,fs⟩,W,a⟩:=j3 a;have n:=bO W;have b:=a;obtain⟨v,R,u,_,hR,C',dx,A,R',rfl,P,N,x⟩:=S.slot m _ n;have ec:=T.eq P;subst ec;cases hl:w4 E fs with
 |some _=>simp_all
 |none =>
  rw[hl]at b;refine⟨_,u,v,dx,A,rfl,N,x.Zc hl,?_⟩;obtain⟨l,h,a⟩:=j3 b;unfold bW at h;rw[n]at h;obtain⟨L,g,f⟩:=j3 h;cases f;obtain⟨hn,a⟩:=D7 a;obtain⟨d,h2,a⟩:=j3 a;obtain⟨⟨e,y⟩,h3,a⟩:=j3 a;cases a;refine I.t O X Y F H ds L _ S g λvs H1 D r1=>?_;obtain⟨V,Hc,B,Sc,back⟩:=(S.grow D).TZ (.s u r1) h2 hn;rw[aX];refine⟨V,Hc,B,d,e,y,Sc,h3,λj p i v S' r C=>?_⟩;obtain⟨k,t,G⟩:=back j p y S';exact q k p i v t r (G i v e r C)
def jz {i:Nat} {d X:Str} {pl:Sem Bool} (o:cK c.K d T) (r:PE c E (G4 i)) (l:Meth c.K T X z) (G:ar c.prog c.w c.K c.mg c.base d6 m z b9 Q (iw c.K i4)) (n:K7 m c.A) (q:Binds c.K b9 Q []) (j:Passes d6 c c8) (g:sL c (e::Z) M h8) (a:autoParam (m8 (e::Z) c.env=(U',eval e c.env)::m8 Z c.env) k6) (b:autoParam ((C6 p (m8 Z c.env)).any (·.1)=U') k6) (h:autoParam (eval (.Call (.Attribute E X A) (e::Z) [] p) c.env=(do
   let ov <- eval E c.env
   bH A.atName
   let (z,first) <- holding [ov] (iX ov X pl)
   callWith p z first (C6 p (m8 (e::Z) c.env)) (aQ p (dq [] c.env)))) k6) :
  pL c (.Call (.Attribute E X A) (e::Z) [] p) (lD T X (iw c.K i4) [] c8 (G4 i) M) (L6 d X i i4 h8):=⟨GI r o.cl l G n q .nil j g.p a b h,OQ o g⟩
def Vd {h n:Str} (d:cK c.K h T) (l:PX c I E u r) (s:Meth c.K T n z) (G:ar c.prog c.w c.K c.mg c.base d6 m z b9 Q (B5 c.K d3)) (o:K7 m c.A) (v:Binds c.K b9 Q []) (t:Passes d6 c c8) (i:cT c I (e::Z) M S) (a:autoParam (m8 (e::Z) c.env=(U',eval e c.env)::m8 Z c.env) k6) (X:autoParam ((C6 p (m8 Z c.env)).any (·.1)=U') k6) (q:autoParam (eval (.Call (.Attribute E n A) (e::Z) [] p) c.env=(do
   let ov <- eval E c.env
   bH A.atName
   let (z,first) <- holding [ov] (iX ov n i5)
   callWith p z first (C6 p (m8 (e::Z) c.env)) (aQ p (dq [] c.env)))) k6) :
  PX c I (.Call (.Attribute E n A) (e::Z) [] p) (lD T n (B5 c.K d3) [] c8 u M) (O6 h n d3 r S):=⟨GI l.p d.cl s G o v .nil t i.p a X q,Gm d l i⟩
def PJ {d o:Str} (g:cK c.K d T) (X:PX c I e u r) (j:Meth c.K T o z) (G:ar c.prog c.w c.K c.mg c.base d6 m z b9 Q (B5 c.K d3)) (l:K7 m c.A) (n:Binds c.K b9 Q []) (i:Passes d6 c c8) (h:autoParam (eval (.Call (.Attribute e o A) [] [] p) c.env=(do
   let ov <- eval e c.env
   bH A.atName
   let (z,first) <- holding [ov] (iX ov o i5)
   callWith p z first (C6 p (m8 [] c.env)) (aQ p (dq [] c.env)))) k6) :
  PX c I (.Call (.Attribute e o A) [] [] p) (lD T o (B5 c.K d3) [] c8 u qs) (O6 d o d3 r l7):=⟨QC X.p g.cl j G l n .nil i h,Gm g X GL⟩
def pH(i:Nat)(F:Ds->Option (PV×Ds)):DO:=λds=>(F ds).bind λr=>U (.next (r.2.set i (U (.dat r.1.d))))
noncomputable def M8(F:Ds->Option (PV×Ds)):DO:=λds=>(F ds).bind λr=>U (.next r.2)
def Bv(F:DV):DO:=λds=>(F ds).bind λpv=>U (.retO pv ds)
noncomputable def mK:DO:=λds=>U (.retO (.dat .none) ds)
def KP{FO:Ds->Option (PV×Ds)}(i:c.N.Nodup)(r:c.N[m]? = U o)(l:Loc c.env.scope o)(b:pL c e u FO)(hs:autoParam (ag e (U (.Name o A)) p.line c.env=pure U') k6)(f:autoParam (c.fn o=Uf\/c.env.scope.names.lookup o=U .local) bC):
  H0 c (.Assign [.Name o A] e p) (fO u (Y9 m)) (pH m FO):=⟨BZ i r l b.p hs f,by
 intro O a w k H s D t S h q;obtain⟨⟨pv,g⟩,x,h⟩:=j3 h;cases h;refine b.t O a w k H s pv g _ S x λn y z v X j d=>?_
 exact q _ _ _ ((X.grow j).set m (d.dt (X.dm (fr:=Uf))))⟩
def KY{FO:Ds->Option (PV×Ds)}(b:pL c e u FO)(hs:autoParam (ag e J p.line c.env=pure U') k6):H0 c (.Expr e p) (ub u) (M8 FO):=⟨oY b.p hs,by intro O a l f H j D o S h q;obtain⟨⟨pv,X⟩,g,h⟩:=j3 h;cases h;exact b.t O a l f H j pv X _ S g λi m r v k d n=>q _ _ _ (k.grow d)⟩
def Qe(X:PX c Uf e u r):H0 c (.Return (U e) p) (HZ u) (Bv r):=⟨Ca X.p,by intro O a d b H j D o S h q;obtain⟨pv,i,h⟩:=j3 h;cases h;exact X.t O a d b H j pv _ S i λv f g k=>q d b H f v S g k⟩
def KU:H0 c (.Return J p) SY mK:=⟨Vw,by intro O a b X H d D o S h q;cases h;exact q b X H H _ S (m3.refl H) Dt.non⟩
noncomputable def IW:PV×Ds->Option OD
 |(.dat .none,U (.ob _ c)::_)=>U c
 |_=>J
set_option tactic.hygienic true in
def LN{r:PV×Ds}{c:OD}(h:IW r=U c):∃w d,r=(.dat .none,U (.ob w c)::d):=by
 unfold IW at h;split at h;rename_i w a d;cases h;exact⟨w,d,rfl⟩;exact nE h
noncomputable def uG(nm:Str)(f:List PV->Option (PV×Ds))(Fl:DL):DV:=λds=>(Fl ds).bind λl=>(f (.ob J (.ins nm [])::l.map .dat)).bind λr=>(IW r).bind λc=>U (.ob J c)
set_option tactic.hygienic true in
def Ve(C:cK c.K o T)(E:Mk c.K T z)(G:ar c.prog c.w c.K c.mg c.base d6 m z b9 Q (iw c.K i4))(hr:K7 (m+1) c.A)(hg:Gl c o)(hm:c.mg o=U (.ref T))(r:Binds c.K b9 Q [])(hx:Passes d6 c c8)(ha:cT c Uf (e::Z) M S)(hdb:autoParam ((o==("__debug__" : Str))=U') E5)(he:autoParam (m8 (e::Z) c.env=(U',eval e c.env)::m8 Z c.env) k6)(hpl:autoParam ((C6 A (m8 Z c.env)).any (·.1)=U') k6):
  PX c Uf (.Call (.Name o p) (e::Z) [] A) (Te T (iw c.K i4) [] c8 M) (uG o i4 S):=⟨VF E G hr hg hm r .nil hx ha.p hdb he hpl,by
 intro O D as σ H ds pv x K k q;obtain⟨l,P,k⟩:=j3 k;obtain⟨r0,h2,k⟩:=j3 k;obtain⟨X,h3,k⟩:=j3 k;cases k;obtain⟨w,dr,rfl⟩:=LN h3;refine ha.t O D as σ H ds l _ K P λvs g Y r1=>λf j hz hdx hne=>?_
 have S1:=K.grow Y;have nas:∀b,U b∈as->∃u,g b=U u:=λb r=>let ⟨_,u,y⟩:=S1.new b r;⟨_,y⟩
 generalize hT:as.filterMap id=RT;have n:∀b,b∈RT↔U b∈as:=λb=>by rw[<-hT,EN];simp
 have I:m3 g (upd g j (.own f)):=m3.new hdx;have B:upd g j (.own f) f=J:=by rw[E3 (λy=>hne y.symm)];exact hz
 have sz:m3 (upd g j (.own f)) (upd (upd g j (.own f)) f (.ins T j [])):=m3.new B;have nz:∀b u,g b=U u->b≠f:=λb u h y=>by rw[y,hz]at h;exact nE h
 refine⟨O++RT,upd g j (.own f),[U f],_,_,_,?_,h2,λas' Hm H' v S' s' r'=>?_⟩
 . have hl:=r1.length;refine⟨by simp[hl],sz,λa h=>?_,λa h=>?_,λm=>if m=0 then[f]else[],λm b h=>?_,λm k' b h L=>?_,λm pv h=>?_⟩
   . have:a=f:=by simpa using h
     subst this;exact⟨B,Cl.i T j [],J8⟩
   . rcases List.mem_append.mp h with h|h
     obtain⟨u,y⟩:=S1.ee a h;exact⟨u,I _ _ (S1.same _ _ y)⟩;obtain⟨u,y⟩:=nas a ((n a).mp h);exact⟨u,I _ _ y⟩
   dsimp only at h;split at h;rw[mem_singleton.mp h];exact v8;simp at h;dsimp only at h L;split at h;split at L;rename_i s F;rw[s,F];simp at L;simp at h
   . cases m with
     |zero =>
      have L:PV.ob J (OD.ins o [])=pv:=by simpa using h
      rw[<-L];exact⟨f,[f],rfl,.inl rfl,λb r=>r,T,j,[],[],rfl,C.ns,J8,.nil⟩
     |succ m =>
      simp only[v5,qT,ei,L1,EZ,Function.comp,Nv]at h;obtain⟨d,h3,rfl⟩:=h;obtain⟨v,y1,V⟩:=r1.get h3;refine⟨v,by simp[y1],V.same (eR λb i s F N=>⟨λy=>?_,λy=>?_,sz _ _ (I _ _ N)⟩)⟩
      . rcases List.mem_append.mp y with y|y
        exact s y;exact F ((n b).mp y)
      . have:b=f:=by simpa using y
        exact nz b i N this
 . obtain⟨v',R,y1,_,V,y3⟩:=S'.slot 0 (.ob w X) rfl;have t:f=v':=by simpa using y1
   subst t;have ev:v=.non:=by cases r';rfl
   refine⟨ev,q _ H' (Y.trans ((I.trans S'.same).trans s')) ⟨f,R,rfl,.inl rfl,λb r=>?_,y3.same (eR λb i s F N=>⟨λy=>s (P9 _ y),λy=>?_,s' _ _ N⟩) λb _ i y=>s' _ _ y⟩⟩;have:=(S'.new b (V b r)).1;exact Y.free (I.free this)
   . rcases List.mem_append.mp y with y|y
     obtain⟨b',q1,q2⟩:=mem_map.mp y;cases q2;exact F (V b q1)
     . exact s (F4 _ ((n b).mpr y))⟩
end
def PN{nm f:Str}(a:c.K=g)(T:cK g nm z)(n:X8 g z f)(h:PX c I e u r)(b:autoParam (Z2 e f c.env (eval e c.env)=eval e c.env) k6):PX c I (.Attribute e f p) (qt g u f) (B9 nm f r):=by subst a;exact Vg T n h b
def PH{nm f:Str}(a:c.K=g)(T:cK g nm z)(n:X8 g z f)(h:PE c e (G4 m))(b:autoParam (Z2 e f c.env (eval e c.env)=eval e c.env) k6):PX c I (.Attribute e f p) (qt g (G4 m) f) (K8 nm m f):=by subst a;exact Vc T n h b
def Vb{nm f:Str}(X:c.K=g)(T:cK g nm z)(n:X8 g z f)(h:PE c e (G4 m))(d:PX c I E u r)(a:autoParam (Z2 e f c.env (eval e c.env)=eval e c.env) k6)(hs:autoParam (ic E) jO):PX c I (.Subscript (.Attribute e f A) E p) (my (wJ g) (qt g (G4 m) f) u) (iL nm m f r):=by subst X;exact Yd T n h d a hs
def vB {nm k:Str} {pl:Sem Bool} (j:c.K=g) (o:cK g nm z) (h:PX c I E u r) (i:Meth g z k T) (G:ar c.prog c.w g c.mg c.base d6 m T b9 Q (B5 g d3)) (n:K7 m c.A) (t:Binds g b9 Q []) (d:Passes d6 c c8) (l:cT c I (e::Z) M S) (b:autoParam (m8 (e::Z) c.env=(U',eval e c.env)::m8 Z c.env) k6) (a:autoParam ((C6 p (m8 Z c.env)).any (·.1)=U') k6) (X:autoParam (eval (.Call (.Attribute E k A) (e::Z) [] p) c.env=(do
   let ov <- eval E c.env
   bH A.atName
   let (f,first) <- holding [ov] (iX ov k pl)
   callWith p f first (C6 p (m8 (e::Z) c.env)) (aQ p (dq [] c.env)))) k6) :
  PX c I (.Call (.Attribute E k A) (e::Z) [] p) (lD z k (B5 g d3) [] c8 u M) (O6 nm k d3 r S):=by subst j;exact Vd o h i G n t d l b a X
def KD {nm k:Str} {pl:Sem Bool} (o:c.K=g) (C:cK g nm z) (X:PX c I e u r) (d:Meth g z k T) (G:ar c.prog c.w g c.mg c.base d6 m T b9 Q (B5 g d3)) (h:K7 m c.A) (i:Binds g b9 Q []) (b:Passes d6 c c8) (a:autoParam (eval (.Call (.Attribute e k A) [] [] p) c.env=(do
   let ov <- eval e c.env
   bH A.atName
   let (f,first) <- holding [ov] (iX ov k pl)
   callWith p f first (C6 p (m8 [] c.env)) (aQ p (dq [] c.env)))) k6) :
  PX c I (.Call (.Attribute e k A) [] [] p) (lD z k (B5 g d3) [] c8 u qs) (O6 nm k d3 r l7):=by subst o;exact PJ C X d G h i b a
def IU(Fc:DB)(G:DO):Ds->Nat:=λds=>open Classical in if h:∃m,∃o,J7 Fc G m ds=U o then h.choose else 0
set_option tactic.hygienic true in
def FG:∀{m:Nat} {ds:Ds} {o:Out},J7 a8 b4 m ds=U o->J7 a8 b4 (m+1) ds=U o:=by
 intro l_;induction l_ with
 |zero =>
  intro ds o h;exact nE h
 |succ m ih_ =>
  intro ds o h;rw[J7]at h ⊢;obtain⟨b,c,h⟩:=j3 h;rw[c];cases b with
  |false=>exact h
  |true =>
   obtain⟨r,d,h⟩:=j3 h;rw[d];cases r with
   |next a=>exact ih_ h
   |cont a=>exact ih_ h
   |brk a=>exact h
   |ret pv=>exact h
   |up x=>exact h
   |retO pv a=>exact h
def Ae{ds:Ds}{o:Out}(h:J7 a8 b4 m ds=U o)(n:Nat):J7 a8 b4 (m+n) ds=U o:=by
 induction n with
 |zero=>exact h
 |succ n a=>exact FG a
def Jp{ds:Ds}{o:Out}(h:J7 a8 b4 m ds=U o):kA (IU a8 b4) a8 b4 ds=U o:=by have a:∃m,∃o,J7 a8 b4 m ds=U o:=⟨m,o,h⟩;delta kA IU;rw[dif_pos a];obtain⟨d,c⟩:=a.choose_spec;rw[c];have b:=Ae h a.choose;rw[pV]at b;rw[(Ae c m)]at b;exact b
def mul_list{u:Tok}{Q:j5->l5->Prop}(j:B.heap.IsList z d8.toArray)(g : -(2 ^ 63:Int)<=a6)(n:a6<2 ^ 63)(hsz:d8.length*a6.toNat<=100000)(h:Q (.ref (hz B)) {B with heap:=B.heap.push {cls:=xS "list",data:=Data.seq (w5 a6.toNat d8).flatten.toArray}}):wpAny (model b5 d5) N (V6 .Mult (.ref z) (.int a6 u)) Q Y B:=by
 obtain⟨⟨e,d,b,f⟩,a,c,k,i⟩:=id j;subst c i;have:d8.toArray.size*a6.toNat<=100000:=by omega
 refine wpAny_binaryOp_repeat_ref f5 ⟨_,a,rfl⟩ (λm=>typeIs_int m a6 u) noFill_list_mul F.fills_int_mul F.slot_int_rmul repeat_list F.slot_int_index.lookup
  (kL F.slot_int_rmul (typeIs_int B a6 u) F.entry_int_rmul (F.args_int_rmul_2 _ _) (lm_int_rmul_list_any a6 u z d8.toArray k d f)
   ⟨a,rfl,⟨_,a,rfl⟩,kL F.slot_list_mul ⟨_,a,rfl⟩ F.entry_list_mul (F.args_list_mul_2 _ _)
    (lm_list_mul_any z d8.toArray k d f a6 u (by simp[Builtin.List.listFitsIndex];exact⟨k8,k8⟩) j7 (by simp[Fp,A5];exact ju))
    ⟨a,?_⟩⟩)
 rw[listMul_foldl_if];exact h
def Ii(K:n6):R2:=λx y H Q=>∃a xs j,x=.ref a/\y=.int j/\K6 K H a xs/\(-(2 ^ 62)<j/\j<2 ^ 62)/\xs.length*j.toNat<=100000/\∀p,H p=J->Q (.ref p) (upd H p (.lst (w5 j.toNat xs).flatten))
def OM(h:Vals L d8):∀n,Vals (w5 n L).flatten (w5 n d8).flatten:=by
 intro l_;induction l_ with
 |zero =>
  exact .nil
 |succ n ih_ =>
  exact h.append (ih_)
def VM:S8 c (V6 .Mult) (Ii c.K):=by
 intro b s k H x y v u Q I g f h;obtain⟨a,n,j,rfl,rfl,i,l,X,q⟩:=h;cases g;obtain⟨t,rfl⟩:=f;obtain⟨d,r,e,m⟩:=I.list i;refine mul_list e.isList j7 j7 (by rw[<-r.length];exact X) ?_;refine⟨.ref _,_,I.Zm (OM r _) ?_,rfl,q _ I.fresh⟩;rw[List.length_flatten,Nz,List.sum_replicate_nat,sX];exact p5 X (nU f5)
noncomputable def dX:f7->f7->Option PV
 | .list l,.int j=>if (0<=j/\j.toNat<=100000)/\l.length*j.toNat<=100000 then U (.own (w5 j.toNat l).flatten)else J
 |_,_=>J
def Wy(h:u5 g H L P):∀n,u5 g H (w5 n L).flatten (w5 n P).flatten:=by
 intro l_;induction l_ with
 |zero =>
  exact .nil
 |succ n ih_ =>
  exact h.append (ih_)
set_option tactic.hygienic true in
def WW:dH g (Ii g) dX:=by
 intro O o H x y d e pv Q D k i c q;cases k with
 |lst h f =>
  cases i with
  |int j =>
   rename_i a n l;have b:(if (0<=j/\j.toNat<=100000)/\l.length*j.toNat<=100000 then U (PV.own (w5 j.toNat l).flatten)else J)=U pv:=c;obtain⟨m,b⟩:=D7 b;cases b;exact⟨a,n,j,rfl,rfl,t9.seq h,by omega,by rw[f.length];exact m.2,λp K=>q _ _ (m3.new K) (mB K (Wy f _))⟩
  |_=>exact nE c
 |_=>exact nE c
def Py(K:n6):R2:=λx y H Q=>(lz λi j=>.bl (decide (i<j))) x y H Q\/XR K x y H Q
def YQ(a:c.A.units+64<N6):S8 c (Z0 .Lt) (Py c.K):=IA.or (YR j7)
noncomputable def zu(a b:f7):Option PV :=
 match a with
 | .int i=>match b with
  | .int j=>U (.dat (.bool (decide (i<j))))
  |_=>J
 | .tuple l=>match b with
  | .tuple m=>(intsOf l).bind λx=>(intsOf m).map λy=>.dat (.bool (HT.lexLt x y))
  |_=>J
 |_=>J
def a0y:dH g (Py g) zu:=by
 intro O p H x y d e pv Q D h i a q;cases h with
 |int=>cases i with
  |int=>cases a;exact .inl ⟨_,_,rfl,rfl,q _ H (m3.refl H) (Dt.bl _)⟩
  |_=>cases a
 |tup k n=>cases i with
  |tup b K =>
   have⟨_,u,a⟩:=Option.bind_eq_some_iff.1 a;have⟨_,v,a⟩:=Option.map_eq_some_iff.1 a;cases a;cases n.ints u;cases K.ints v;exact .inr ⟨_,_,_,_,rfl,rfl,t9.fP k,t9.fP b,q _ H (m3.refl H) (Dt.bl _)⟩
  |_=>cases a
 |_=>cases a
def dW(l:List c6):List (Str×c6):=l.map λx=>(kK,x)
def Tw(l:List c6):(dW l).map (·.2)=l:=by delta dW;rw[ei];exact List.map_id l
def TAF(K:n6)(t:TA)(F:Ds->Option (List PF)):Prop :=
 ∀(O:List Addr) (u3:Hp) (as:As) (σ:St) (H:Hp) (ds:Ds) (fs:List PF) (Q:List V->Hp->Prop),DS K O u3 as σ H ds->F ds=U fs->(∀vs H' R,m3 H H'->(∀b∈R,H b=J)->L4 K (p7 H' (R.map U++as) O) H' (dW vs) (dW fs) R->Q vs H')->t σ H Q
structure PAF(X:Cx)(es:List Expr)(t:TA)(F:Ds->Option (List PF)):Prop where
 p:PA X es t
 t:TAF X.K t F
def L4.pos(t:L4 g q H e9 c7 O):∀{k:Nat},c7[k]? = U (o,.own P) ->
  ∃a xs,e9[k]? = U (o,.ref a)/\H a=U (.lst xs)/\a∈O/\∀{Hv' H':Hp} {m:List f7} {ys:List V},m3 q Hv'->(∀b∈O,b≠a->∀R,H b=U R->H' b=U R)->H' a=U (.lst ys)->u5 g Hv' ys m->L4 g Hv' H' e9 (c7.set k (o,.own m)) O:=by
 induction t with
 |nil=>intro k h;simp at h
 | @dat y x d e9 c7 O F t C =>
  intro k h;cases k with
  |zero=>simp at h
  |succ k =>
   obtain⟨a,xs,u,s,f,r⟩:=C (by simpa using h);exact⟨a,xs,by simpa using u,s,f,λe c j K=>.dat (F.same e) (r e c j K)⟩
 | @own y w B E e9 c7 O v A i t C =>
  intro k h;cases k with
  |zero =>
   have G:(y,PF.own E)=(o,PF.own P):=by simpa using h
   cases G;exact⟨w,B,rfl,v,v8,λe c j K=>.own j K i (t.same e λb p=>c b (u7 _ p) λz=>i (z▸p))⟩
  |succ k =>
   obtain⟨a,xs,u,s,f,r⟩:=C (by simpa using h);exact⟨a,xs,by simpa using u,s,u7 _ f,λe c j K=>.own (c w v8 (λz=>i (z▸f)) _ v) (A.same e) i (r e (λb p=>c b (u7 _ p)) j K)⟩
 | @dct y w D I e9 c7 O v A i t C =>
  intro k h;cases k with
  |zero=>simp at h
  |succ k =>
   obtain⟨a,xs,u,s,f,r⟩:=C (by simpa using h);exact⟨a,xs,by simpa using u,s,u7 _ f,λe c j K=>.dct (c w v8 (λz=>i (z▸f)) _ v) (A.same e) i (r e (λb p=>c b (u7 _ p)) j K)⟩
section
variable{j}
end
def Vf{K':n6}(d:c.K=K')(i:Nat)(a:PE c E (G4 i))(X:PX c I e u r)(hs:autoParam (ic e) jO):PX c I (.Subscript E e p) (my (wJ K') (G4 i) u) (zR i r):=by subst d;exact Yi i a X hs
def L4.snoc{p:PF}(h:tW g q H a7 p O){R:List Addr}(t:L4 g q H e9 c7 R)(d:∀b∈O,b∉R):∃R',L4 g q H (e9++[(o,a7)]) (c7++[(o,p)]) R'/\∀b,b∈R'↔b∈O\/b∈R:=by
 induction t with
 |nil=>exact⟨O++[],L4.cons h (λb _=>by simp) .nil,λb=>by simp⟩
 |dat j t f =>
  obtain⟨R',e,c⟩:=f d;exact⟨R',.dat j e,c⟩
 | @own n a s l e9 c7 R i k m t f =>
  obtain⟨R',e,c⟩:=f λb K z=>d b K (u7 _ z);refine⟨a::R',.own i k (λz=>?_) e,λb=>?_⟩
  . rcases(c a).mp z with z|z
    exact d a z v8;exact m z
  rw[X3,X3,c];constructor;rintro(z|z|z);exact .inr (.inl z);exact .inl z;exact .inr (.inr z);rintro(z|z|z);exact .inr (.inl z);exact .inl z;exact .inr (.inr z)
 | @dct n a r u e9 c7 R i k m t f =>
  obtain⟨R',e,c⟩:=f λb K z=>d b K (u7 _ z);refine⟨a::R',.dct i k (λz=>?_) e,λb=>?_⟩
  . rcases(c a).mp z with z|z
    exact d a z v8;exact m z
  rw[X3,X3,c];constructor;rintro(z|z|z);exact .inr (.inl z);exact .inl z;exact .inr (.inr z);rintro(z|z|z);exact .inr (.inl z);exact .inl z;exact .inr (.inr z)
noncomputable def ot(gt:f7->Option (List f7))(Fe:DV)(ds:Ds):List f7->Option (List PF)
 | []=>U []
 |x::r=>(gt x).bind λbs=>(Fe (N8 bs++ds)).bind λy=>(gJ y).bind λp=>(ot gt Fe ds r).bind λl=>U (p::l)
noncomputable def iM(Fi:DL)(gt:f7->Option (List f7))(Fe:DV):DV:=λds=>(Fi ds).bind λitems=>if items.length<=1000000 then(ot gt Fe ds items).bind λl=>U (.ob J (.seq Uf (dW l)))else J
def Ho{bs:As}(h:∀b,U b∈y↔U b∈bs):p7 H y O=p7 H bs O:=by
 funext b
 delta p7
 simp_all
def PQ{nb:List Str}{h:Expr}{pos:Pos}{wi:TI}{g:TG}(hc:c.calm=Uf)(B:jq c Q nb c5)(hi:eU c Uf E h wi S)(go:jg Q.length g)(hg:∀cl C fp s H pins,PG (S7 c Q nb c5 cl C fp s H pins) E g)(V:sH c.K Q.length g g8)(he:∀cl C fp s H pins,PX (S7 c Q nb c5 cl C fp s H pins) Uf e u r)(hs:autoParam (∀x,dw h c.env x=pure x) Q4):PX c Uf (.ListComp e [⟨E,h,[],0⟩] c5 pos) (gF Q wi g wz u) (iM S g8 r):=⟨GJ hc B hi.p go hg (λ_ _ _ _ _ _=>vF) (λ_ _ _ _ _ _=>(he _ _ _ _ _ _).p) hs,by
 intro O k j σ H ds pv G bs v q;obtain⟨a,h1,v⟩:=j3 v;obtain⟨hn,v⟩:=D7 v;obtain⟨l,h2,v⟩:=j3 v;cases v;refine hi.t O k j σ H ds a _ bs h1 λJff H1 P it=>?_;have S1:=bs.grow P;refine⟨a.length,λi ys A=>i<=a.length/\m3 H1 A/\∃R T l2,L4 c.K (p7 A (R.map U++j) O) A (dW ys) (dW T) R/\(∀b∈R,H1 b=J)/\ot g8 r ds (a.drop i)=U l2/\T++l2=l,nU hn,⟨gs _,m3.refl _,[],[],l,.nil,λb X=>absurd X t7,h2,rfl⟩,?_⟩
 rintro i ys A ⟨hi',w,R,T,l2,d1,N,f,Y⟩;have Z:∀b∈R,∃K:Cl,A b=U K.1:=λb X=>by
  obtain⟨K,z|z,y⟩:=d1.at b X;exact⟨⟨K,.inl z⟩,y⟩;exact⟨⟨K,.inr (.inl z)⟩,y⟩
 obtain⟨S2,_⟩:=S1.adopt w 0 N Z;obtain⟨go',st',yl'⟩:=it A (t9.trans w) i;by_cases t:i<a.length
 . refine .inr ⟨go' t,t,λx n y=>?_⟩
   obtain⟨tg,d,ed,dt⟩:=yl' x n y t;have dx:=dt (R.map U++j) (λb X=>⟨by
     rcases List.mem_append.mp X with z|z
     . obtain⟨b',z1,I⟩:=mem_map.mp z;cases I;delta p7;rw[N b z1];split<;>rfl
     . delta p7;rw[j2 (.inr z)],let ⟨_,z⟩:=(S2.new b X).2;⟨_,z⟩⟩) λb X=>by
    obtain⟨o,z⟩:=bs.ee b X;refine⟨o,A0.mpr ⟨by simp,λI=>?_,S1.same _ _ z⟩⟩;rw[(bs.new b I).1]at z;exact nE z
   have ed':a.drop i=d::a.drop (i+1):=by
    rw[qk t];have:a[i]=d:=by have z:=F2 t;rw[ed]at z;exact(R1 z).symm
    rw[this]
   rw[ed']at f;obtain⟨F,h3,f⟩:=j3 f;obtain⟨yv,h5,f⟩:=j3 f;obtain⟨p,h7,f⟩:=j3 f;obtain⟨l3,h6,f⟩:=j3 f;cases f;refine V O (R.map U++j) n x d σ F _ dx h3 λvs dv lv=>?_;have S4:=(S2.grow tg).pre dv;refine((he [] 0 [] c.R5 c.u3 []).t) O k _ _ n _ yv _ S4 h5 λK M e6 r6=>?_
   obtain⟨Rf,k1,k2,k3⟩:=Hj (S4.dm) r6 (.inl h7);have hh:∀W,p7 W (Rf.map U++(w5 F.length J++(R.map U++j))) O=p7 W (Rf.map U++(R.map U++j)) O:=λW=>Ho λb=>by
    simp only[ja];constructor;rintro(z|z|z);exact .inl z;exact absurd z lS;exact .inr z;rintro(z|z);exact .inl z;exact .inr (.inr z)
   have k3':tW c.K (p7 M (Rf.map U++(R.map U++j)) O) M K p Rf:=by rw[<-hh];exact k3
   have dj:∀b∈Rf,b∉R:=λb X z=>by obtain⟨o,y⟩:=Z b z;have:=tg _ _ y;rw[k1 b X]at this;exact nE this
   obtain⟨R',f1,f2⟩:=L4.snoc k3' (d1.same (kz (tg.trans e6) λb X=>tg.free (k1 b X)) λb X o z=>e6 _ _ (tg _ _ z)) dj;refine⟨t,(w.trans tg).trans e6,R',T++[p],l3,?_,λb X=>?_,h6,by rw[<-Y];simp⟩
   . have:p7 M (Rf.map U++(R.map U++j)) O=p7 M (R'.map U++j) O:=Ho λb=>by
       have m:∀(L:List Addr),U b∈L.map U↔b∈L:=λL=>by simp
       simp only[ja,m,f2];constructor;rintro(z|z|z);exact .inl (.inl z);exact .inl (.inr z);exact .inr z;rintro((z|z)|z);exact .inl z;exact .inr (.inl z);exact .inr (.inr z)
     rw[<-this];unfold dW at f1 ⊢;rw[aj,aj];exact f1
   . rcases(f2 b).mp X with z|z
     exact w.free (tg.free (k1 b z));exact N b z
 . have hi2:i=a.length:=by lia
   subst hi2;rw[EA]at f;cases f;rw[aX]at Y;subst Y;refine .inl ⟨st' y4,λp D=>?_⟩;refine q _ _ ((P.trans w).trans (m3.new D)) ⟨p,p::R,rfl,.inl rfl,λb X=>?_,dW ys,R,rfl,λz=>?_,by rw[Tw];exact J8,d1.same (eR λb o z1 I z3=>⟨z1,λz=>?_,m3.new D _ _ z3⟩) λb _ o z=>m3.new D _ _ z⟩
   . rcases List.mem_cons.mp X with rfl|X
     exact P.free (w.free D);exact P.free (N b X)
   obtain⟨K,y⟩:=Z p z;rw[D]at y;exact nE y
   . rcases List.mem_cons.mp z with z|z
     cases z;rw[D]at z3;exact nE z3
     . exact I z⟩
def DS.wr{k:Nat}(S:DS g O q y D H G)(hd:G[m]? = U (U (.ob g0 (.seq Uf c7))))(M:c7[k]? = U (o,.own P)):
  ∃v vs a xs,D[m]? = U (U (.ref v))/\H v=U (.lst vs)/\vs[k]? = U (.ref a)/\vs.length=c7.length/\H a=U (.lst xs)/\u5 g (p7 H y O) xs P/\∀{A:Hp} {ys:List V} {l:List f7},m3 H A->u5 g (p7 A y O) ys l->DS g O q y D (upd A a (.lst ys)) (G.set m (U (.ob g0 (.seq Uf (c7.set k (o,.own l)))))):=by
 have c:∀{d:List (Str×V)} {a:Addr},d[k]? = U (o,.ref a)->(d.map (·.2))[k]? = U (.ref a):=λ{d a} z=>by rw[L1,z];rfl
 have L:∀{n:Hp} {d:List (Str×V)} {c7:List (Str×PF)} {R:List Addr} {k:Nat} {a:Addr} {xs:List V} {P:List f7},L4 g n H d c7 R->c7[k]? = U (o,.own P)->d[k]? = U (o,.ref a)->H a=U (.lst xs)->u5 g n xs P:=by
  intro n d c7 R k a xs P h;induction h generalizing k with
  |nil=>intro z;simp at z
  |dat hd t j =>
   intro e c f;cases k with
   |zero=>simp at e
   |succ k=>exact j (by simpa using e) (by simpa using c) f
  |own X s x t j =>
   intro e c f;cases k with
   |zero =>
    obtain⟨_,rfl⟩:=e;obtain⟨_,rfl⟩:=c;rw[X]at f;cases f;exact s
   |succ k=>exact j (by simpa using e) (by simpa using c) f
  |dct X s x t j =>
   intro e c f;cases k with
   |zero=>simp at e
   |succ k=>exact j (by simpa using e) (by simpa using c) f
 obtain⟨v,R,N,ew,hR,d,R',rfl,nv,s,x⟩:=S.slot m _ hd;obtain⟨a,xs,I,p2,p3,_⟩:=x.pos M;refine⟨v,d.map (·.2),a,xs,N,s,c I,by rw[A6,x.len],p2,L x M I p2,λ{A ys l} u3 dy=>?_⟩
 have Y:=S.grow u3;obtain⟨rg,r1,r2,Q⟩:=Y.fX;obtain⟨v',R2,i,E,w,B,r,rfl,K,p,F⟩:=Q m _ hd;rw[N]at i;cases i;have T:=u3 _ _ s;rw[p]at T;obtain⟨C,xs',q1,q2,Z,q4⟩:=F.pos M;have ea:C=a:=by have z:=c q1;rw[HO.lst.inj (R1 T),c I]at z;cases z;rfl
 subst ea;have ne:v≠C:=λz=>K (z▸Z);exact Y.wo (u:=Cl.l ys) hd r1 r2 Q (w C (u7 _ Z)) λsm=>⟨v,v::r,N,E,w,B,r,rfl,K,by rw[E3 ne];exact p,q4 sm (λb _ nb W z=>by rw[E3 nb];exact z) J8 (dy.same sm)⟩
noncomputable def yX(i:Nat)(k:Int)(ds:Ds):Option (Option Addr×List (Str×PF)×Str×Nat×List f7):=match ds[i]? with
 |some (U (.ob w (.seq Uf fs)))=>(eQ fs.length k).bind λr=>match fs[r]? with
  |some (n,.own l)=>U (w,fs,n,r,l)
  |_=>J
 |_=>J
set_option tactic.hygienic true in
def QM{r:Nat}(h:yX m a6 G=U (g0,c7,o,r,P)):G[m]? = U (U (.ob g0 (.seq Uf c7)))/\eQ c7.length a6=U r/\c7[r]? = U (o,.own P):=by
 unfold yX at h;split at h;rename_i f c b;obtain⟨g,d,h⟩:=j3 h;split at h;rename_i e j a;cases h;exact⟨b,d,a⟩;exact nE h;exact nE h
noncomputable def xp(i:Nat)(Fr Fk Fv:DV):DO:=λds=>(Fv ds).bind λpv=>(Fr ds).bind λr=>(Fk ds).bind λk=>match r.d,k.d with
 | .int r,.int k=>(yX i r ds).bind λx=>(eQ x.2.2.2.2.length k).bind λj=>U (.next (ds.set i (U (.ob x.1 (.seq Uf (x.2.1.set x.2.2.2.1 (x.2.2.1,.own (x.2.2.2.2.set j pv.d))))))))
 |_,_=>J
section
set_option tactic.hygienic true in
def Qc {t k:Expr} {tr tk:TE} {Fk F:DV} {opos:Pos} (ho:PE c E (G4 m)) (o:PX c Uf t tr r) (M:PX c Uf k tk Fk) (L:PX c Uf e u F) (hx:autoParam (ic t) jO) (ha:autoParam (∀v,assign (.Subscript (.Subscript E t opos) k A) c.env v=(do
   let f <- holding [v] (eval (.Subscript E t opos) c.env)
   let iv <- holding [v,f] (eval k c.env)
   bH A
   holding [v,f,iv] (pO f iv v)
   release [v,f,iv] [])) Q4)
  (hs:autoParam (tq [.Subscript (.Subscript E t opos) k A] e p.line c.env=pure U') k6) (N:autoParam (tm [.Subscript (.Subscript E t opos) k A] e c.env=pure J) k6)
  (h1:autoParam ((gr [.Subscript (.Subscript E t opos) k A] c.env).map (·.2)=[assign (.Subscript (.Subscript E t opos) k A) c.env]) k6) :
  H0 c (.Assign [.Subscript (.Subscript E t opos) k A] e p) (fO u (CS (my (wJ c.K) (G4 m) tr) tk wI)) (xp m r Fk F):=⟨wK L.p (wM (wN sr ho o.p hx) M.p set_list ha) hs N h1,by
 intro O X s h H B D q0 S b q;obtain⟨pv,e1,b⟩:=j3 b;obtain⟨rv,Q,b⟩:=j3 b;obtain⟨kv,e3,b⟩:=j3 b;split at b;rename_i rr kk z i;obtain⟨⟨w,fs,n,r',l⟩,Y,b⟩:=j3 b;obtain⟨j,e5,b⟩:=j3 b;cases b;obtain⟨hd,K,x⟩:=QM Y;refine L.t O X s h H B pv _ S e1 λv T R r1=>?_;have g:=S.grow R;obtain⟨f,P,a,W,z1,z2,z3,V,z5,I,wr⟩:=g.wr hd x;refine⟨_,z1,?_⟩;refine o.t O X s h T B rv _ g Q λy H2 d r2=>?_;have C:=r2.dt g.dm;rw[z]at C;cases C;refine .inl ⟨f,P,rr,.ref a,rfl,rfl,K6.of (d _ _ z2),by delta V4;rw[V,K];exact z3,?_⟩;refine M.t O X s h H2 B kv _ (g.grow d) e3 λy' H3 te Z=>?_;have G:=Z.dt (g.grow d).dm;rw[i]at G;cases G;refine⟨a,W,kk,j,rfl,rfl,te _ _ (d _ _ z5),by rw[I.length];exact e5,q s h _ ?_⟩;exact wr (d.trans te) ((I.same (L0 (d.trans te))).set j ((r1.grow (d.trans te)).dt S.dm))
 . exact nE b⟩
end
def uQ(k:ReadsAll a9 d8 P O)(e:P[m]? = U c9):∃v bs,d8[m]? = U v/\Reads a9 v c9 bs:=by
 induction P generalizing d8 O m with
 |nil=>exact nE e
 |cons _ _ i=>cases k with
  |cons r t=>cases m with
   |zero=>cases e;exact⟨_,_,rfl,r⟩
   |succ m=>exact(i t e :)
def GA(K:n6):V->List V->Hp->VK->Prop:=λx vs H Q=>∃(p:Addr) (xs:List V) (l:List f7) (y:V) (d:f7) (j:Nat),x=.ref p/\vs=[y]/\K6 K H p xs/\u5 K H xs l/\Dt K H y d/\fE l=Uf/\d.canLay0=Uf/\d.depth<=10/\l.length<=1000000/\(l.findIdx? λe=>U0 e d)=U j/\Q (.int j) H
def xF(h:fE P=Uf):∀{m:Nat} {e:f7},P[m]? = U e->e.canLay0=Uf:=by
 induction P with
 |nil=>intro m e z;simp at z
 |cons x P a =>
  rw[fE,tG]at h;intro m e z;cases m with
  |zero=>simp at z;rw[<-z];exact h.1
  |succ m=>exact a h.2 (by simpa using z)
def LL(hu:c.A.units+64<N6):Uk c "list.index" (GA c.K):=by
 intro L s σ H x vs v us Q I rx rv h;obtain⟨p,xs,l,y,d,j,rfl,rfl,hq,D,hy,z,C,c3,hz,R,q⟩:=h;cases rx;obtain⟨u,rfl,ru⟩:=vals1 rv;obtain⟨b,N,S,_⟩:=I.list hq;obtain⟨as,M⟩:=I.readsAll D N z;obtain⟨bs,rb⟩:=I.reads hy ru C;obtain⟨⟨cls,P,G,sl⟩,O,V,n,hd⟩:=id S.isList;subst V hd;have g:b.length=l.length:=by rw[<-N.length,D.length]
 obtain⟨W,h2,h3⟩:=List.findIdx?_eq_some_iff_getElem.mp R
 classical
 let e:=λv=>decide (∃a o,Reads s.heap v a o/\a.canLay0=Uf/\U0 a d=Uf)
 have w:∀(m:Nat) f,e b[m]=U0 (l[m]'j7) d:=λm f=>by
  have X:m<l.length:=by lia
  have B:=F2 X;obtain⟨Y,o,i,k⟩:=uQ M B;rw[F2 f]at i;cases i;cases hb:U0 l[m] d with
  |true=>exact du ⟨_,_,k,(xF z B),hb⟩
  |false =>
   refine S6 λ⟨a,T,Z,z4,E⟩=>?_;rw[(Z.unique _ _ k).1,hb]at E;exact nT E
 refine kL yA ⟨_,O,rfl⟩ Om (Ot _ _)
  (Ol p b.toArray n P sl u e j (by simpa [g]using W) j7 ?_ ?_) ⟨O,λy' t=>?_,?_⟩
 show e b[j]=Uf;rw[w];exact h2;intro m f r;show e b[m]=U';rw[w m (by omega)];simpa using h3 m r
 . obtain⟨m,f,rfl⟩:=List.getElem_of_mem (by simpa using t)
   have X:m<l.length:=by lia
   obtain⟨Y,o,i,k⟩:=uQ M (F2 X);rw[F2 f]at i;cases i;rw[w m f];exact SeqAt.eqAt_reads _ _ _ _ _ _ _ _ k rb (xF z (F2 X)) C (by lia)
 exact⟨.int _,H,I.tok _,⟨_,rfl⟩,q⟩
noncomputable def zH:f7->FV
 | .list l,[d]=>if fE l=Uf/\d.canLay0=Uf/\d.depth<=10/\l.length<=1000000 then(l.findIdx? λe=>U0 e d).bind λj=>U (.dat (.int (j:Nat)))else J
 |_,_=>J
def Itv(K:n6)(a:Addr)(n:Nat):It :=
 ⟨λi H=>∃xs,K6 K H a xs/\xs.length=n/\i<n,λi H x H'=>H'=H/\∀xs,K6 K H a xs->xs.length=n->xs[n-1-i]? = U x,λi _=>n<=i⟩
def OT(a it:Addr)(n:Nat):Turn b5 d5 g e (Itv g a n) [it] it (λi h=>h.IsRevIter it a (((n-i:Nat):Int)-1)) where
 mem:=B4
 obj:=λi h f b j=>by
  have w:b=it:=by simpa using j
  subst w;obtain⟨o,w,c,d⟩:=f;exact⟨o,w,λv z=>by simp_all⟩
 keep:=λi h r f k=>f.at λo w=>k it B4 o w
 item:=by
  intro X N F L G i P s O H E I q f x;subst N F L;obtain⟨M,hq,hn,hi⟩:=x;obtain⟨its,Z,p,hz⟩:=I.list hq;have Q:M[n-1-i]? = U (M[n-1-i]'j7):=F2 _;obtain⟨u,R,Y⟩:=Z.get Q;obtain⟨C,y,f2,B,A,D⟩:=q it B4;have l:s.heap.IsRevIter it a ((n-1-i:Nat)):=by rw[show((n-1-i:Nat):Int)=((n-i:Nat))-1 by lia];exact f
  refine wpAny_pyNext_rev_item l p.isList (by simpa using R) λr m S=>?_;have V:Inv X P O H {s with heap:=r}:=I.turned (λb o j w=>(S.2 b j).trans w) C y B A D
  have t:r.IsRevIter it a (((n-(i+1):Nat))-1):=by rw[show n-(i+1)=n-1-i by lia];exact m
  obtain⟨o,w,c,d⟩:=id m;exact⟨u,rfl,Bs w c d f5 ⟨_,H,V,Y,⟨rfl,λys hy _=>by rw[I.vL hy hq];exact Q⟩,t,λb j=>(q b j).1⟩⟩
 done:=by
  intro X N F L G i P s O H E I q f x;have:n<=i:=x;obtain⟨C,y,f2,B,A,D⟩:=q it B4;have l:s.heap.IsRevIter it a (-1):=by rw[show(-1:Int)=((n-i:Nat))-1 by simp[*]];exact f
  exact wpAny_pyNext_rev_end (I.ok.hd G) l λr T=>⟨rfl,I.turned (λb o j w=>T b o j w) C y B A D⟩
 self:=λ_ _ _ _ _ f h=>NL f h
def ZI(K:n6)(ta:TA):TI:=λσ H R=>ta σ H λvs H1=>∃a xs,vs=[.ref a]/\K6 K H1 a xs/\R (Itv K a xs.length) H1
def Yw(t:Gl c "reversed")(m:c.mg "reversed" = J)(n:PA c [E] M)(hs:autoParam (m8 [E] c.env=[(U',eval E c.env)]) k6):PI c e (.Call (.Name "reversed" p) [E] [] A) (ZI c.K M):=by
 intro X s u H R I h;refine Call_ (iF I t m PyProof.Rows.boot_reversed (oC (C4 (n A X s u H _ I h) λB f ⟨C,k,d,j,z⟩=>?_) hs rfl))
 obtain⟨b,l,x,hq,q⟩:=z;subst x;cases j with
 |cons r a =>
  cases a;cases r;obtain⟨y,v,w,D⟩:=d.list hq;refine call_reversed_list w.isList (NL ⟨_,U1 _ rfl,rfl,rfl⟩ ?_);refine⟨f.heap.objs.size,[f.heap.objs.size],_,_,k,rfl,d.kept λb o x=>F8 _ x,OT b _ l.length,⟨_,U1 _ rfl,rfl,?_⟩,λb i=>?_,q⟩;simp[revObj,v.length]
  . have x:b=f.heap.objs.size:=by simpa using i
    subst x;exact d.zQ y4 (d.E7.fresh y4)
noncomputable def vy:List f7->Option (List f7)
 | [.list l]=>U l.reverse
 |_=>J
set_option tactic.hygienic true in
def VC{K':n6}(n:c.K=K')(G:Gl c "reversed")(F:c.mg "reversed" = J)(m:cT c I [E] M S)(hs:autoParam (m8 [E] c.env=[(U',eval E c.env)]) k6):eU c I e (.Call (.Name "reversed" p) [E] [] A) (ZI K' M) (x9 vy S):=by
 subst n;refine⟨Yw G F m.p hs,?_⟩;intro O f K L H o j R t X q;obtain⟨l,C,X⟩:=j3 X;refine m.t O f K L H o l _ t C λZ D T z=>?_;unfold vy at X;split at X
 . rename_i l';cases X;cases z with
   |cons r V =>
    cases V;cases r with
    |lst g s =>
     rename_i b h;have Q:=s.length;refine⟨b,h,rfl,t9.seq g,q _ D T λY u i=>?_⟩;have a:=u.seq (ur.seq g);rw[ER];refine⟨λk=>⟨h,a,rfl,by simp[*]⟩,λk=>by show h.length<=i;simp[*],λx N y k=>?_⟩;obtain⟨B,y⟩:=y;subst B;obtain⟨d,P,w⟩:=s.get' (y h a rfl);refine⟨m3.refl _,d,?_,λvb v _=>pA w u (m3.refl _) v⟩;rw[List.getElem?_reverse k,<-Q];exact P
 exact nE X
abbrev fc(h:Heap)(z TI TO:Addr)(f0:j5)(f1:Bool):Prop :=
 h.get? z=U {cls:=.type "zip",dict:=J,data:=.fields #[f0,.bool f1,.bool U',.ref TI,.ref TO],slots:=#[]}
section
variable{prog:H9}{w:x5}
def OJ{M:Model}{Q:Option Obj->l5->Prop}(h:Q (B.heap.get? z) B):wpAny M N (loadIfAlive z) Q Y B:=λ_ _ _=>h
def wQ{TI TO:Addr}{Q:Bool->l5->Prop}(hz:fc B.heap z TI TO (V5 T) I)(b:∃o,B.heap.get? T=U o)(d:∀h',fc h' z TI TO (V5 T) Uf->nq z B.heap h'->Q U' {B with heap:=h'}):wpAny (model prog w) N (Builtin.SmallTypes.ownedTupleIsFree (.ref z)) Q Y B:=by
 obtain⟨o,b⟩:=b;refine l8 (V1 hz rfl rfl ?_);show wpAny _ _ (loadIfAlive T >>= _) _ _ _
 refine l8 (OJ ?_);rw[b];refine l8 (V1 hz rfl rfl ?_);cases I with
 |true=>exact p4 (d _ hz (Heap.SameBut.refl ..))
 |false=>exact l8 (nH hz B4 λh' a c=>p4 (d h' a c))
def JM {TI TO i1 i2 K l:Addr} {k2:Nat} {ys:Array j5} {y:j5} {Q:j5->l5->Prop} (D:gp z TI TO i1 i2 K l) (hz:fc B.heap z TI TO (V5 T) I) (P:∃o,B.heap.get? T=U o) (n:Q5 B.heap TI (.ref i1) (.ref i2)) (M:B.heap.IsListIter i1 K m) (s:B.heap.IsListIter i2 l k2) (p:B.heap.IsList K b7) (E:B.heap.IsList l ys) (L:b7[m]? = U b6) (O:ys[k2]? = U y) (H:∀h',fc h' z TI TO (V5 T) Uf->h'.IsListIter i1 K (m + 1)->h'.IsListIter i2 l (k2 + 1)->Q5 h' B.heap.objs.size b6 y->h'.objs.size=B.heap.objs.size + 1 ->
   (∀c o,c≠z->c≠i1->c≠i2->B.heap.get? c=U o->h'.get? c=U o)->Q (.ref B.heap.objs.size) {B with heap:=h'}) :
  wpAny (model prog w) N (Builtin.«zip.__next__» ⟨[.ref z],[]⟩) (λu s'=>∃v,u=.done (.ret v)/\Q v s') Y B:=by
 show wpAny _ _ (field (.ref z) 2 >>= _) _ _ _;refine l8 (V1 hz rfl rfl ?_);refine l8 (V1 hz rfl rfl ?_);refine l8 (iR n rfl ?_);refine l8 (wQ hz P λG i a=>?_);refine l8 ?_;refine l8 (l8 (gx ?_));refine l8 (Fd (M.extBut a.extBut D.i1z) (p.extBut a.extBut D.l1z) L λF j b=>p4 ?_);refine p4 ?_;refine l8 (l8 (gx ?_));refine l8 (Fd ((s.extBut a.extBut D.i2z).extBut b.extBut D.i12.symm) ((E.extBut a.extBut D.l2z).extBut b.extBut D.l2i1) O λf h d=>p4 ?_);refine p4 (p4 ?_);show wpAny _ _ (newTuple [b6,y] >>= _) _ _ _
 refine l8 (wpAny_newTuple (p4 ⟨_,rfl,?_⟩));have g:f.objs.size=B.heap.objs.size:=by rw[d.1,b.1,a.1]
 have A:∀c o,c≠z->c≠i1->c≠i2->B.heap.get? c=U o->f.get? c=U o:=λc o C t q e=>d.extBut _ _ q (b.extBut _ _ t (a.extBut _ _ C e));have k:Q5 (f.push {cls:=.type "tuple",data:=.seq #[b6,y]}) f.objs.size b6 y:=U1 _ rfl;rw[g]at k;rw[g];exact H _ (F8 _ (d.extBut _ _ D.i2z.symm (b.extBut _ _ D.i1z.symm i))) ((j.extBut d.extBut D.i12).at λo e=>F8 _ e) (h.at λo e=>F8 _ e) k (by rw[gL,g]) λc o C t q e=>F8 _ (A c o C t q e)
def FE{TI TO i1 i2 i p:Addr}{Q:Fin->l5->Prop}(u:N.handled=J)(D:gp z TI TO i1 i2 i p)(hz:fc B.heap z TI TO (V5 T) I)(q:∃o,B.heap.get? T=U o)(f:Q5 B.heap TI (.ref i1) (.ref i2))(r:B.heap.IsListIter i1 i m)(h:B.heap.IsList i b7)(A:b7[m]? = J)(t:∀h' e,(∀c o,c≠z->c≠i1->B.heap.get? c=U o->h'.get? c=U o)->(∃o,h'.get? e=U o/\o.cls=.type "StopIteration")->Y (.ref e) {B with heap:=h'}):
  wpAny (model prog w) N (Builtin.«zip.__next__» ⟨[.ref z],[]⟩) Q Y B:=by
 show wpAny _ _ (field (.ref z) 2 >>= _) _ _ _;refine l8 (V1 hz rfl rfl ?_);refine l8 (V1 hz rfl rfl ?_);refine l8 (iR f rfl ?_);refine l8 (wQ hz q λk g a=>?_);refine l8 ?_;refine l8 (l8 (gx ?_));refine l8 (NU u (r.extBut a.extBut D.i1z) (h.extBut a.extBut D.l1z) A λd e b v=>?_);exact t d e (λc o y n x=>b _ _ n (a.extBut _ _ y x)) v
def IS {TI TO i1 i2 d b:Addr} {k2:Nat} {ys:Array j5} {x y:j5} (D:gp z TI TO i1 i2 d b) (hz:fc B.heap z TI TO (V5 T) I) (v:∃o,B.heap.get? T=U o) (e:Q5 B.heap TI (.ref i1) (.ref i2)) (n:B.heap.IsListIter i1 d m) (j:B.heap.IsListIter i2 b k2) (f:B.heap.IsList d b7) (h:B.heap.IsList b ys) (l:b7[m]? = U x) (u:ys[k2]? = U y) (i:∀h',fc h' z TI TO (V5 T) Uf->h'.IsListIter i1 d (m + 1)->h'.IsListIter i2 b (k2 + 1)->Q5 h' B.heap.objs.size x y->h'.objs.size=B.heap.objs.size + 1 ->
   (∀c o,c≠z->c≠i1->c≠i2->B.heap.get? c=U o->h'.get? c=U o)->i0 (U (.ref B.heap.objs.size)) {B with heap:=h'}):wpAny (model prog w) N (mV (.ref z)) i0 Y B:=by
 have a:B.TypeIs (.ref z) "zip":=⟨_,hz,rfl⟩;exact l8 (tj (lL a kO
  (jd kO a yk
   (JM D hz v e n j f h l u λh' t E q A p r=>p4 (i h' t E q A p r)) (yn _))))
def Cu{TI TO i1 i2 f n:Addr}(r:N.handled=J)(D:gp z TI TO i1 i2 f n)(hz:fc B.heap z TI TO (V5 T) I)(p:∃o,B.heap.get? T=U o)(b:Q5 B.heap TI (.ref i1) (.ref i2))(q:B.heap.IsListIter i1 f m)(d:B.heap.IsList f b7)(A:b7[m]? = J)(j:∀h',(∀c o,c≠z->c≠i1->B.heap.get? c=U o->h'.get? c=U o)->i0 J {B with heap:=h'}):wpAny (model prog w) N (mV (.ref z)) i0 Y B:=by
 have a:B.TypeIs (.ref z) "zip":=⟨_,hz,rfl⟩;refine l8 (tj (lL a kO
  (jd kO a yk (FE r D hz p b q d A λh' e i t=>?_) (yn _))))
 obtain⟨o,k,h⟩:=t;refine l8 (EC ⟨o,k,h⟩ Ej ?_);exact p4 (j _ i)
end
def vn:sT (.type "zip") "__getattr__" = pure J:=by rw[typeLookup_type,NS];kernel_rfl
def OF:sT (.type "zip") "keys" = pure J:=by rw[typeLookup_type,NS];kernel_rfl
def Dl:entryFor table "zip.__getattribute__" = U Builtin.«object.__getattribute__» :=
 entryFor_alias (id':="object.__getattribute__") (by kernel_rfl) t4 t4 (by kernel_rfl)
def Rn(z TI TO:Addr)(h:j5)(f:Bool)(name:Str)(u:Tok)(c:sT (.type "zip") name=pure J)(a:(["__module__","__name__","__qualname__","__doc__","__annotations__"]:List Str).contains name=U')(hsz:name.length+100<=A5:=by size_fits):
  Meets (Builtin.«object.__getattribute__» ⟨[.ref z,.str name u],[]⟩) (λA R s=>fc s.heap z TI TO h f/\raisesAttr (.ref z) name A R s) :=
 Meets.of_wp λe w A R s b=>by
  obtain⟨j,g,d,i,l⟩:=s;obtain⟨k,b⟩:=b;repeat (any_goals (first|assumption|wp_step))
  simp only[a];repeat (any_goals (first|assumption|wp_step))
  exact wpAny_raiseAttrError b.1 b.2 (attrMsg_fits t4 hsz)
section
variable{prog:H9}{w:x5}
def FC{TO:Addr}(j:fc B.heap z T TO b6 I)(l:N.handled=J)(h:∀h' f,(∀b o,B.heap.get? b=U o->h'.get? b=U o)->i0 J {B with heap:=h',toks:=f}):wpAny (model prog w) N (getAttr? (.ref z) "keys") i0 Y B:=by
 obtain⟨n,g,d,f,p⟩:=B;have i:∀c,(⟨n,g,d,c,p⟩:l5).TypeIs (.ref z) "zip":=λ_=>⟨_,j,rfl⟩
 have:=sub_AttributeError;have:=F.slot_zip_getattribute.lookup;have:=F.slot_zip_getattribute.bind (.ref z);have:=vn;repeat (any_goals (first|assumption|exact i _|((with_reducible show wpAny _ _ (call (Value.builtin "zip.__getattribute__") _ _) _ _ _);refine kL F.slot_zip_getattribute (i _) Dl (F.args_zip_getattribute_2 _ _) (Rn z T TO b6 _ "keys" _ OF t4) ⟨j,l,λh' c e a=>?_⟩)|wp_step))
 obtain⟨q,t,r⟩:=a.there;show wpAny _ _ (getattributeRaised _ _ _ _ _ _ _) _ _ _
 repeat (any_goals (first|assumption|wp_step))
 exact h _ _ a.keeps
end
set_option backward.match.sparseCases true
def jC:plainId "dict.update.loop" = Uf:=by decide +kernel
def jJ:entryFor table "dict.update.loop" = U Builtin.«dict.update.loop»:=entryFor_of_fast (by kernel_rfl)
section
variable{prog:H9}{w:x5}{κ:Type}[DecidableEq κ]{knd:HeapKind prog w κ}
def rL{X:List (κ×Addr×j5)}(d:(X.map (·.1)).Nodup){x:κ×Addr×j5}(b:X[m]? = U x):storedH (X.take m) x.1 x.2.1 x.2.2=X.take (m+1):=by
 have e:atKey (X.take m) x.1=J:=atKey_none_of_get λi p a=>by
  rw[List.getElem?_take]at a;obtain⟨f,a⟩:=D7 a;have:=idxH_unique d a b
  simp_all
 rw[storedH_new e];obtain⟨c,rfl⟩:=List.getElem?_eq_some_iff.mp b;rw[List.take_succ,F2 c];rfl
def BE{A:X9}{E:j5->l5->Prop}{s:l5}{d T z:Addr}{x:κ×Addr×j5}{a:List (κ×Addr×j5)}{i:Int}{res:j5}{Q:Fin->l5->Prop}(j:knd.room A)(f:Q5 s.heap T (.ref x.2.1) x.2.2)(m:knd.is s.heap x.1 x.2.1)(hd:s.heap.DictOfH knd d a)(hsz:a.length<=A5)(g:∀h' h,h'.DictOfH knd d (storedH a x.1 x.2.1 x.2.2)->nq d s.heap h'->Q (.again (.builtin "dict.update.loop" ⟨[.ref d,.ref z,V5 (i+1),res],[]⟩)) {s with heap:=h',toks:=h}):
  wpAny (model prog w) A (holding [.ref T] (do
   let pair <- (Builtin.Dict.pairItems (.ref T)).tryCatch λe=>do
    if !(<- isInstance e (.type "TypeError"))then throw e
    rule "dict.update.element-no-sequence"
    raiseError "TypeError" s!"cannot convert dictionary update sequence element #{i} to a sequence"
   match pair with
   | [k,v]=>holding [k,v] (dictSet d k v)
   |l =>
    rule "dict.update.element-length"
    raiseError "ValueError" s!"dictionary update sequence element #{i} has length {l.length}; 2 is required") >>= λ_=>again (.builtin "dict.update.loop" ⟨[.ref d,.ref z,V5 (i+1),res],[]⟩)) Q E s:=by refine l8 (gx (l8 (wpAny_tryCatch ?_)));refine l8 (sY ⟨_,f,rfl⟩ ?_);refine l8 (iR f rfl (p4 ?_));refine gx (wpAny_dictSet_heap j m hd λh' b c=>p4 (g h' _ b c))
structure Zs(knd:HeapKind prog w κ)(h0:Heap)(X:List (κ×Addr×j5))(z TI TO i1 i2 l1 l2 d:Addr):Prop where
 D:gp z TI TO i1 i2 l1 l2
 dz:d≠z
 HA:d≠i1
 MB:d≠i2
 dTI:d≠TI
 dTO:d≠TO
 pTI:Q5 h0 TI (.ref i1) (.ref i2)
 Tu:h0.IsList l1 (X.map λx=>ae x.2.1).toArray
 pl2:h0.IsList l2 (X.map λx=>x.2.2).toArray
 key:∀x∈X,∃o,h0.get? x.2.1=U o/\∀h:Heap,h.get? x.2.1=U o->knd.is h x.1 x.2.1
 ka:∀x∈X,x.2.1≠z/\x.2.1≠TO/\x.2.1≠i1/\x.2.1≠i2/\x.2.1≠d
 l1d:l1≠d
 l2d:l2≠d
 nd:(X.map (·.1)).Nodup
 sz:X.length<=A5
def Kp(z TO i1 i2 d:Addr)(h h':Heap):Prop:=∀c o,c≠z->c≠TO->c≠i1->c≠i2->c≠d->h.get? c=U o->h'.get? c=U o
def OO{X:List (κ×Addr×j5)}{TO i1 i2 l1 l2 d:Addr}(hu:knd.room N.in1)(hh:N.in1.handled=J)(Z:Zs knd a9 X z T TO i1 i2 l1 l2 d):
  ∀(k j:Nat) (s:l5) (i:Int) (G:Addr) (f1:Bool),X.length-j=k->j<=X.length->Kp z TO i1 i2 d a9 s.heap->fc s.heap z T TO (V5 G) f1->(∃o,s.heap.get? G=U o)->G≠z/\G≠i1/\G≠i2/\G≠d->d<(hz s) ->
   s.heap.IsListIter i1 l1 j->s.heap.IsListIter i2 l2 j->s.heap.DictOfH knd d (X.take j) ->
   (∀h' tk,h'.DictOfH knd d X->Kp z TO i1 i2 d s.heap h'->j0 (.ok (.ret b6)) {s with heap:=h',toks:=tk}) ->
   codeAny (model prog w) N (.builtin "dict.update.loop" ⟨[.ref d,.ref z,V5 i,b6],[]⟩) j0 s:=by
 have F:∀{h:Heap},Kp z TO i1 i2 d a9 h->Q5 h T (.ref i1) (.ref i2):=λk=>k _ _ Z.D.TIz Z.D.TITO Z.D.TIi1 Z.D.TIi2 Z.dTI.symm Z.pTI;have I:∀{h:Heap},Kp z TO i1 i2 d a9 h->h.IsList l1 (X.map λx=>ae x.2.1).toArray:=λk=>Z.Tu.at λo e=>k _ _ Z.D.l1z Z.D.l1TO Z.D.l1i1 Z.D.l1i2 Z.l1d e;have kl2:∀{h:Heap},Kp z TO i1 i2 d a9 h->h.IsList l2 (X.map λx=>x.2.2).toArray:=λk=>Z.pl2.at λo e=>k _ _ Z.D.l2z Z.D.l2TO Z.D.l2i1 Z.D.l2i2 Z.l2d e
 intro k;induction k with
 |zero =>
  intro j s i G f1 hk hj t hz B b A h1 h2 hd hR;have e:j=X.length:=by lia
  subst e;refine Ep jJ ?_;refine l8 (Cu hh Z.D hz B (F t) h1 (I t) t7 λh' q=>?_);refine l8 (p4 (p4 (hR h' s.toks ?_ λc o m C l r p e=>q c o m l e)));rw[Nl]at hd;obtain⟨o,es,ep,e1,e2,e3,e4,e5,e6⟩:=hd;exact⟨o,es,ep,q _ _ Z.dz Z.HA e1,e2,e3,e4,λx g=>by obtain⟨o',H,q2⟩:=Z.key x g;obtain⟨n,u,E,L,O⟩:=Z.ka x g;exact q2 _ (q _ _ n E (t _ _ n u E L O H)),e6⟩
 |succ k ih =>
  intro j s i G f1 hk hj t hz B b A h1 h2 hd hR;have f:j<X.length:=by lia
  have g:=F2 f;refine Ep jJ ?_;refine l8 (IS Z.D hz B (F t) h1 h2 (I t) (kl2 t) (x:=.ref X[j].2.1) (y:=X[j].2.2) (by simp[f]) (by simp[f]) λh1' z1 b1 b2 p1 nV q=>?_);have K:=tF f;have v:=λc o m C l r p e=>q c o m l r (t c o m C l r p e)
  have hd1:h1'.DictOfH knd d (X.take j):=by
   obtain⟨o,es,ep,e1,e2,e3,e4,e5,e6⟩:=hd;exact⟨o,es,ep,q _ _ Z.dz Z.HA Z.MB e1,e2,e3,e4,λx g=>by have g:=NK g;obtain⟨o',H,q2⟩:=Z.key x g;obtain⟨n,u,E,L,O⟩:=Z.ka x g;exact q2 _ (v _ _ n u E L O H),e6⟩
  refine BE hu p1 ?_ hd1 (by rw[tH];have:=Z.sz;lia) λh2' tk M a=>?_;obtain⟨o',H,q2⟩:=Z.key _ K;obtain⟨n,u,E,L,O⟩:=Z.ka _ K;exact q2 _ (v _ _ n u E L O H);rw[rL Z.nd g]at M;refine⟨Ef jC _,ih (j+1) _ (i+1) G Uf j7 f ?_ ?_ ?_ b ?_ ?_ ?_ M λh' tk' n u=>hR h' tk' n ?_⟩;exact λc o m C l r p e=>a.extBut _ _ p (v c o m C l r p e);exact a.extBut _ _ Z.dz.symm z1;obtain⟨o,B⟩:=B;exact⟨o,a.extBut _ _ b.2.2.2 (q _ _ b.1 b.2.1 b.2.2.1 B)⟩;show d<h2'.objs.size;rw[a.1,nV];exact nC A;exact b1.extBut a.extBut Z.HA.symm;exact b2.extBut a.extBut Z.MB.symm;exact λc o m C l r p e=>u c o m C l r p (a.extBut _ _ p (q c o m l r e))
def JW{X:List (κ×Addr×j5)}{TO i1 i2 l1 l2 d:Addr}{b:j5}(hu:knd.room N.in1)(hh:N.in1.handled=J)(Z:Zs knd a9 X z T TO i1 i2 l1 l2 d){res:j5}(F:Kp z TO i1 i2 d a9 B.heap)(hz:IsZip B.heap z T TO .none)(E:Q5 B.heap TO b6 b)(L:B.heap.IsListIter i1 l1 0)(h2:B.heap.IsListIter i2 l2 0)(hd:B.heap.DictOfH knd d [])(hR:∀h' tk,h'.DictOfH knd d X->Kp z TO i1 i2 d B.heap h'->j0 (.ok (.ret res)) {B with heap:=h',toks:=tk}):
  codeAny (model prog w) N (.builtin "dict.update.loop" ⟨[.ref d,.ref z,V5 0,res],[]⟩) j0 B:=by
 have s:=F _ _ Z.D.TIz Z.D.TITO Z.D.TIi1 Z.D.TIi2 Z.dTI.symm Z.pTI;have p:=Z.Tu.at λo e=>F _ _ Z.D.l1z Z.D.l1TO Z.D.l1i1 Z.D.l1i2 Z.l1d e;have C:=Z.pl2.at λo e=>F _ _ Z.D.l2z Z.D.l2TO Z.D.l2i1 Z.D.l2i2 Z.l2d e
 have m:d<B.heap.objs.size:=by obtain⟨o,_,_,e,_⟩:=hd;exact C3 e
 refine Ep jJ ?_;by_cases hX:X=[];subst hX;refine l8 (wpAny_pyNext_zip_end hh Z.D hz s E L h2 p C (.inl rfl) λh' n=>?_);refine l8 (p4 (p4 (hR h' B.toks ?_ λc o k h i j l e=>n c o k h i j e)));obtain⟨o,M,ep,e1,e2,e3,I,e5,e6⟩:=hd;exact⟨o,M,ep,n _ _ Z.dz Z.dTO Z.HA Z.MB e1,e2,e3,I,λx q=>by simp at q,e6⟩
 . have g:=List.length_pos_iff.mpr hX;have q:=F2 g;have r:=tF g;refine l8 (wpAny_pyNext_zip_item Z.D hz s E L h2 p C (x:=.ref X[0].2.1) (y:=X[0].2.2) (by simp[g]) (by simp[g]) λG z1 t1 b1 b2 p1 nV n=>?_);have u:=λc o k h i j l e=>n c o k h i j (F c o k h i j l e)
   have hd1:G.DictOfH knd d (X.take 0):=by obtain⟨o,M,ep,e1,e2,e3,I,e5,e6⟩:=hd;exact⟨o,M,ep,n _ _ Z.dz Z.dTO Z.HA Z.MB e1,e2,e3,I,λx q=>by simp at q,e6⟩
   refine BE hu p1 ?_ hd1 (gs _) λh2' tk v f=>?_;obtain⟨o',q1,q2⟩:=Z.key _ r;obtain⟨K,H,a3,a4,a5⟩:=Z.ka _ r;exact q2 _ (u _ _ K H a3 a4 a5 q1);rw[rL Z.nd q]at v;have lt:∀{c:Addr} {o:Obj},B.heap.get? c=U o->B.heap.objs.size≠c:=λe=>eZ (C3 e);refine⟨Ef jC _,OO hu hh Z (X.length-1) 1 _ (0+1) B.heap.objs.size U' rfl g ?_ ?_ ?_ ⟨lt hz,?_,?_,eZ m⟩ ?_ ?_ ?_ v λh' A K H=>hR h' A K ?_⟩;exact λc o k h i j l e=>f.extBut _ _ l (u c o k h i j l e);exact f.extBut _ _ Z.dz.symm z1;exact⟨_,f.extBut _ _ (eZ m) p1⟩;obtain⟨t,e⟩:=L;exact lt e.1;obtain⟨t,e⟩:=h2;exact lt e.1;show d<h2'.objs.size;rw[f.1,nV];exact nC m;exact b1.extBut f.extBut Z.HA.symm;exact b2.extBut f.extBut Z.MB.symm;exact λc o k h i j l e=>H c o k h i j l (f.extBut _ _ l (n c o k h i j e))
def Bh{X:List (κ×Addr×j5)}{TO i1 i2 m q:Addr}{b:j5}{Q:j5->l5->Prop}(O:knd.room N.in1.in1)(n:N.in1.in1.handled=J)(Z:Zs knd B.heap X z T TO i1 i2 m q B.heap.objs.size)(hz:IsZip B.heap z T TO .none)(l:Q5 B.heap TO b6 b)(L:B.heap.IsListIter i1 m 0)(C:B.heap.IsListIter i2 q 0)(h:∀h' p,h'.DictOfH knd B.heap.objs.size X->Kp z TO i1 i2 B.heap.objs.size B.heap h'->Q (.ref B.heap.objs.size) {B with heap:=h',toks:=p}):
  wpAny (model prog w) N (call (.type "dict") [.ref z]) Q Y B:=by
 refine callType_codes (Q₁:=λobj i=>obj=.ref B.heap.objs.size/\i={B with heap:=B.heap.push {cls:=.type "dict",data:=.dict #[]}}) F.kt_called_dict (F.kt_typeCall_dict_1 _) F.entry_dict_init (kt_code_dict_new _ ⟨rfl,rfl⟩) ?_;rintro obj i ⟨rfl,rfl⟩;have d:(B.heap.push {cls:=.type "dict",data:=.dict #[]}).DictOfH knd B.heap.objs.size []:=Heap.DictOfH.new B.heap;have f:∀{c:Addr} {o:Obj},B.heap.get? c=U o->(B.heap.push {cls:=.type "dict",data:=.dict #[]}).get? c=U o:=λe=>F8 _ e;refine⟨d.typeIs,F.args_dict_init_2 _ _,?_⟩;refine l8 ?_;refine l8 (wpAny_notOrdered_dict d.typeIs ?_);refine p4 ?_;refine l8 (sY ⟨_,f hz,rfl⟩ ?_);refine l8 (FC (f hz) n λh' p g=>?_);refine l8 (mZ ?_);refine l8 (EB (g _ _ (f hz)) (p4 ?_));refine⟨Ef jC _,JW O n Z (λc o _ _ _ _ _ e=>g _ _ (f e)) (g _ _ (f hz)) (g _ _ (f l)) (L.at λo e=>g _ _ (f e)) (C.at λo e=>g _ _ (f e)) ?_ λk j D t=>⟨rfl,h k j D λc o A v E K u e=>t c o A v E K u (g _ _ (f e))⟩⟩;obtain⟨o,M,P,H,r,R,y,S,G⟩:=d;exact⟨o,M,P,g _ _ H,r,R,y,λx I=>by simp at I,G⟩
set_option backward.match.sparseCases false
end
noncomputable def asK:f7->Option Key
 | .int i=>U (.inl i)
 | .str x=>U (.inr x)
 |_=>J
noncomputable def jN:List f7->Option (List Key)
 | []=>U []
 |d::r=>(asK d).bind λk=>(jN r).bind λks=>U (k::ks)
noncomputable def ou:f7->Option (List Key)
 | .dict [(.list l,.none)]=>jN l
 |_=>J
noncomputable def kF:List f7->Option (List (List Key))
 | []=>U []
 |d::r=>(ou d).bind λk=>(kF r).bind λks=>U (k::ks)
def mR(k:List Key):jN (k.map aP)=U k:=by
 induction k with
 |nil=>rfl
 |cons a k h=>cases a<;>exact r9 (sU · λs=>U (_::s)) h
theorem u5.jN{K:n6}{H:Hp}{l:List f7}:∀{vs:List V} {k:List Key},u5 K H vs l->L2.jN l=U k->vs=k.map kV:=by
 induction l with
 |nil=>intro _ _ h e;cases h;cases e;rfl
 |cons d l i =>
  intro _ _ h e;cases h with
  |cons h t =>
  obtain⟨a,b,e⟩:=j3 e;obtain⟨d,c,e⟩:=j3 e;cases e;rw[i t c];cases h<;>first|(cases b;rfl)|exact nE b
theorem Dt.ou{K:n6}{H:Hp}{v:V}{d:f7}{k:List Key}(h:Dt K H v d)(e:L2.ou d=U k):∃a,v=.ref a/\H a=U (.tup (k.map kV)):=by
 cases h with
 |key h =>
  cases(mR _).symm.trans e;exact⟨_,rfl,h⟩
 |_=>exact nE e
theorem u5.kF{K:n6}{H:Hp}{l:List f7}:∀{vs:List V} {ks:List (List Key)},u5 K H vs l->L2.kF l=U ks->∃as:List Addr,vs=as.map V.ref/\Paired (λa k=>H a=U (.tup (k.map kV))) as ks:=by
 induction l with
 |nil=>intro _ _ h e;cases h;cases e;exact⟨[],rfl,.nil⟩
 |cons d l i =>
  intro _ _ h e;cases h with
  |cons h t =>
  obtain⟨k,b,e⟩:=j3 e;obtain⟨f,d,e⟩:=j3 e;cases e;obtain⟨a,rfl,g⟩:=h.ou b;obtain⟨as,rfl,c⟩:=i t d;exact⟨a::as,rfl,.cons g c⟩
noncomputable def S5(Fl:DL):DV:=λds=>(Fl ds).bind λl=>(jN l).bind λk=>if l.length<=1000000 then U (.dat (G8 k))else J
def Va{x1}(h:cT c I Z M S):PX c I (.Tuple Z x1 p) (OZ M) (S5 S):=⟨Lh h.p,by
 intro O b n f H s pv Q X a q;obtain⟨l,o,a⟩:=j3 a;obtain⟨k,m,a⟩:=j3 a;obtain⟨j,a⟩:=D7 a;cases a;refine h.t O b n f H s l _ X o λv u e r=>⟨by rw[r.length];exact nU j,λt d=>q _ _ (e.trans (m3.new d)) ?_⟩
 obtain⟨g,i⟩:=(X.grow e).dm.fresh d;rw[r.jN m];exact Dt.key (A0.mpr ⟨g,i,J8⟩)⟩
noncomputable def un:f7->f7
 | .dict [(.list l,.none)]=>.tuple l
 |d=>d
theorem zV{K:n6}{H:Hp}:∀k:List Key,u5 K H (k.map kV) (k.map aP)
 | []=>.nil
 | .inl i::k=>.cons (.int i) (zV k)
 | .inr i::k=>.cons (.str i) (zV k)
theorem Dt.un{K:n6}{H:Hp}{v:V}{d:f7}(h:Dt K H v d):Dt K H v (un d):=by
 cases h with
 |key h=>exact .tup (T9.of h) (zV _)
 |non=>exact .non
 |bl b=>exact .bl b
 |int i=>exact .int i
 |str x=>exact .str x
 |tup h t=>exact .tup h t
 |lst h t=>exact .lst h t
 |exc c n e a t=>exact .exc c n e a t
 |fn h=>exact .fn h
 |ins e a f t=>exact .ins e a f t
 |dct e a t=>exact .dct e a t
 |dtt e a f t=>exact .dtt e a f t
theorem u5.un{K:n6}{H:Hp}{vs:List V}{l:List f7}(h:u5 K H vs l):u5 K H vs (l.map L2.un):=by
 induction l generalizing vs with
 |nil=>exact h
 |cons _ _ i=>cases h with
  |cons a t=>exact .cons a.un (i t)
def x3(ks:List (List Key))(as:List Addr)(vs:List j5)(g:as.length=ks.length)(h:vs.length=ks.length):
  (ks.zip (as.zip vs)).map (λx=>x.1)=ks/\(ks.zip (as.zip vs)).map (λx=>ae x.2.1)=as.map ae/\(ks.zip (as.zip vs)).map (λx=>x.2.2)=vs/\(ks.zip (as.zip vs)).length=ks.length:=by
 induction ks generalizing as vs with
 |nil=>exact⟨rfl,by cases as<;>trivial,by cases vs<;>trivial,rfl⟩
 |cons k ks i=>cases as with
  |nil=>cases g
  |cons a as=>cases vs with
   |nil=>cases h
   |cons v vs =>
    obtain⟨b,e,d,c⟩:=i as vs (xX g) (xX h);exact⟨r9 (k::·) b,r9 (_::·) e,r9 (v::·) d,r9 (· + 1) c⟩
def Xc{R:Addr->List Key->Prop}{ks:List (List Key)}(vs:List j5)(p:Paired R O ks):∀x∈ks.zip (O.zip vs),R x.2.1 x.1:=by
 induction p generalizing vs with
 |nil=>intro _ h;cases h
 |cons r t i=>cases vs with
  |nil=>intro _ h;cases h
  |cons v vs =>
   intro x h;rcases List.mem_cons.1 h with rfl|h
   exact r;exact i vs x h
def Uo{R S:Addr->List Key->Prop}(f:∀a k,R a k->S a k){ks:List (List Key)}(p:Paired R O ks)(v:Vals L d8)(h:L.length=ks.length):
  Paired (λ(p:List Key×V) (q:List Key×Addr×j5)=>p.1=q.1/\S q.2.1 p.1/\RelV p.2 q.2.2) (ks.zip L) (ks.zip (O.zip d8)):=by
 induction p generalizing L d8 with
 |nil=>exact .nil
 |cons r t i=>cases v with
  |nil=>cases h
  |cons a b=>exact .cons ⟨rfl,f _ _ r,a⟩ (i b (xX h))
def JU:∀{as:List Addr} {us:List j5},Vals (as.map V.ref) us->us=as.map ae:=by
 intro l_;induction l_ with
 |nil =>
  intro _ r;cases r;rfl
 |cons a as ih_ =>
  intro _ r;cases r with
  |cons h t=>rw[v5,<-ih_ t];exact r9 (·::_) h
def Iy{b:Type}{R:c6->b->Prop}{l:List c6}{m:List b}(h:Paired R l m):l.length=m.length:=by
 induction h with
 |nil=>rfl
 |cons _ _ i=>exact r9 (· + 1) i
def BX(K:n6):List V->Hp->VK->Prop:=λvs H Q=>∃(p1 p2:Addr) (as:List Addr) (ys:List V) (ks:List (List Key)),vs=[.ref p1,.ref p2]/\K6 K H p1 (as.map V.ref)/\K6 K H p2 ys /\
 Paired (λa k=>H a=U (.tup (k.map kV))) as ks/\ks.Nodup/\ys.length=ks.length/\∀p,H p=J->Q (.ref p) (upd H p (.dT (ks.zip ys)))
def JB{Q:VK}(hu:c.A.units+2<N6)(hh:c.A.handled=J)(I:Inv c b8 D H B)(rv:Vals L d8)(h:BX c.K L H Q):
  wpAny (model c.prog c.w) c.A (call (.type "zip") d8) (λz s1=>wpAny (model c.prog c.w) c.A (call (.type "dict") [z]) (EP c b8 D Q) c.xe s1) c.xe B:=by
 obtain⟨Y,T,O,ys,C,rfl,hs1,W,hk,hn,R,q⟩:=h;cases rv with
 |cons r1 rr =>
 cases rr with
 |cons r2 rr =>
 cases rr;cases r1;cases r2;obtain⟨its1,ri1,t,z1⟩:=I.list hs1;obtain⟨d,G,m,z2⟩:=I.list W;have e1:=JU ri1;subst e1;have la:=Iy hk;have lv:d.length=C.length:=by rw[<-G.length,R]
 obtain⟨x1,x2,x3',x4⟩:=x3 C O d la lv;have E:∀x∈C.zip (O.zip d),∃o,B.heap.get? x.2.1=U o/\∀h:Heap,h.get? x.2.1=U o->(mY (Y6 c.prog c.w)).is h x.1 x.2.1:=λx y=>by
  have y:=Xc d hk x y;obtain⟨_,its,r,o,v,F,n,g3⟩:=(show X0 c.prog c.w H B.heap x.2.1 (.tup (x.1.map kV))from I.E7 _ _ y);exact⟨o,v,λh e=>⟨o,its.toArray,n,e,F,g3,by simpa using AF r⟩⟩
 have N:Y<B.heap.objs.size:=by obtain⟨o,e,_⟩:=t.isList;exact C3 e
 have M:T<B.heap.objs.size:=by obtain⟨o,e,_⟩:=m.isList;exact C3 e
 have ls:∀{X:Nat} j,X<B.heap.objs.size->X≠B.heap.objs.size+j:=λj h=>by exact O2 (J4 k8 (jV _ _))
 have l:∀{X:Nat},X<B.heap.objs.size->X≠B.heap.objs.size:=λh=>by exact O2 k8
 have g:∀{i j:Nat},i≠j->B.heap.objs.size+i≠B.heap.objs.size+j:=λh=>by simp[*]
 have w:∀{j:Nat},j≠0->B.heap.objs.size≠B.heap.objs.size+j:=λh=>by simp[*]
 refine call_zip_2 t.isList m.isList λs hz AH Hq i1 i2 p P=>?_
 have σ:gp (B.heap.objs.size+4) (B.heap.objs.size+2) (B.heap.objs.size+3) B.heap.objs.size (B.heap.objs.size+1) Y T :=
  ⟨g f5,g f5,w f5,g f5,g f5,(w f5).symm,g f5,(w f5).symm,g f5,w f5,ls _ N,ls _ N,l N,ls _ N,ls _ M,ls _ M,l M,ls _ M⟩
 have Z:Zs (mY (Y6 c.prog c.w)) s (C.zip (O.zip d)) (B.heap.objs.size+4) (B.heap.objs.size+2) (B.heap.objs.size+3) B.heap.objs.size (B.heap.objs.size+1) Y T s.objs.size:=by
  rw[p];refine⟨σ,g f5,(w f5).symm,g f5,g f5,g f5,AH,?_,?_,λx y=>?_,λx y=>?_,ls _ N,ls _ M,?_,?_⟩;rw[x2];exact t.isList.at λo e=>P _ _ e;rw[x3'];exact m.isList.at λo e=>P _ _ e;obtain⟨o,v,F⟩:=E x y;exact⟨o,P _ _ v,F⟩;obtain⟨o,v,_⟩:=E x y;have:=C3 v;exact⟨ls _ this,ls _ this,l this,ls _ this,ls _ this⟩;rw[x1];exact hn;rw[x4,<-la];simpa using z1
 refine Bh (show c.A.in1.in1.units<N6 from hu) hh Z hz Hq i1 i2 λh' tk hd kp=>?_
 have keep:∀b u,B.heap.get? b=U u->h'.get? b=U u:=λb u e=>by have:=C3 e;exact kp b u (ls _ this) (ls _ this) (l this) (ls _ this) (by show b≠s.objs.size;rw[p];exact ls _ this) (P _ _ e)
 have hp:B.heap.objs.size<=s.objs.size:=by rw[p];simp[*]
 have f:=I.E7.fresh hp;refine⟨.ref s.objs.size,_,I.laid keep hp ?_,rfl,q _ f⟩;obtain⟨o,es,ep,v,F,g3,g4,g5,g6⟩:=hd;refine⟨?_,?_,C.zip (O.zip d),Uo (S:=λa k=>upd H s.objs.size (HO.dT (C.zip ys)) a=U (HO.tup (List.map kV k))) (λa k e=>?_) hk G R,o,es,ep,v,F,g3,g4,g6⟩;rw[List.length_zip,R,Nat.min_self,<-R];exact z2;have:=I.big;exact beq_eq_false_iff_ne.mpr (eZ (J4 this hp));rw[E3 (W8 e f)];exact e
def QE{pos X:Pos}(m:c.A.units+2<N6)(r:c.A.handled=J)(u:Gl c "dict")(y:c.mg "dict" = J)(x:dM "dict" = U (.type "dict"))(g:Gl c "zip")(l:c.mg "zip" = J)(k:dM "zip" = U (.type "zip"))(o:PA c [e,E] M)(v:autoParam (m8 [.Call (.Name "zip" A) [e,E] [] X] c.env=(U',eval (.Call (.Name "zip" A) [e,E] [] X) c.env)::m8 [] c.env) k6)(j:autoParam ((C6 pos (m8 [] c.env)).any (·.1)=U') k6)(i:autoParam (m8 [e,E] c.env=(U',eval e c.env)::m8 [E] c.env) k6)(d:autoParam ((C6 X (m8 [E] c.env)).any (·.1)=U') k6)(F:autoParam (C6 pos (m8 [] c.env)=[]) k6):
  PE c (.Call (.Name "dict" p) [.Call (.Name "zip" A) [e,E] [] X] [] pos) (BH (BX c.K) M):=by
 intro a s B H Q I h;refine qf (iF I u y x ?_ f5 f5);refine oC ?_ v j;refine yt (qf (iF I g l k ?_ f5 f5));refine oC (C4 (o X a s B H _ I h) λt G ⟨L,D,C,q,n⟩=>?_) i d;exact C4 (JB m r C q n) λz b w=>EG w
def Zq{c H2:Hp}{a:Bool}(S:DS g O q y D H G)(e:m3 H c)(k:m3 c H2):∀b o,p7 c (X4 I y) O b=U o->¬Cell o->p7 H2 (X4 a y) O b=U o:=by
 intro b o K l;obtain⟨i,_,f⟩:=A0.mp K;refine A0.mpr ⟨i,λz=>?_,k _ _ f⟩;obtain⟨_,u,h⟩:=S.new b (oT z);have:=e _ _ h;rw[f]at this;have d:=u.2;rw[<-R1 this]at d;exact l d
noncomputable def TQ:FV
 | [.list a,.list b]=>(kF a).bind λks=>if ks.Nodup/\b.length=ks.length/\kG b=Uf then U (.dat (vT ks b))else J
 |_=>J
def Dh(Fl:DL):DV:=λds=>(Fl ds).bind TQ
set_option tactic.hygienic true in
def PL{K':n6}{pos X:Pos}(R:c.K=K')(hu:c.A.units+2<N6)(B:c.A.handled=J)(P:Gl c "dict")(L:c.mg "dict" = J)(Y:dM "dict" = U (.type "dict"))(m:Gl c "zip")(u:c.mg "zip" = J)(s:dM "zip" = U (.type "zip"))(w:cT c U' [e,E] M S)(t:autoParam (m8 [.Call (.Name "zip" A) [e,E] [] X] c.env=(U',eval (.Call (.Name "zip" A) [e,E] [] X) c.env)::m8 [] c.env) k6)(g:autoParam ((C6 pos (m8 [] c.env)).any (·.1)=U') k6)(k:autoParam (m8 [e,E] c.env=(U',eval e c.env)::m8 [E] c.env) k6)(f:autoParam ((C6 X (m8 [E] c.env)).any (·.1)=U') k6)(hn:autoParam (C6 pos (m8 [] c.env)=[]) k6):
  PX c I (.Call (.Name "dict" p) [.Call (.Name "zip" A) [e,E] [] X] [] pos) (BH (BX K') M) (Dh S):=by
 subst R;refine⟨QE hu B P L Y m u s w.p t g k f hn,?_⟩;intro O b as V H ds pv Q i d q;obtain⟨l,h1,d⟩:=j3 d;refine w.t O b as V H ds l _ i h1 λvs H1 j N=>?_;unfold TQ at d;split at d
 . rename_i la lb;obtain⟨D,h2,d⟩:=j3 d;obtain⟨F,d⟩:=D7 d;obtain⟨T,z,Z⟩:=F;cases d;cases N with
   |cons o h =>
   cases h with
   |cons r h =>
   cases h;cases o with
   |lst a G =>
   cases r with
   |lst C v =>
   obtain⟨bs,rfl,y⟩:=(G.same t9).kF h2;have x:=v.length;refine⟨_,_,bs,_,D,rfl,t9.seq a,t9.seq C,y,T,x.trans z,λp n=>q _ _ (j.trans (m3.new n)) ?_⟩;obtain⟨o,r⟩:=(i.grow j).dm.fresh n;exact Dt.dtt (A0.mpr ⟨o,r,J8⟩) (x.trans z).symm rfl (u5.lf (Zq i j (m3.new n)) v Z)
 exact nE d
noncomputable def sF:List f7->Option (List (List Key))
 | []=>U []
 | .tuple l::r=>(jN l).bind λk=>(sF r).bind λks=>U (k::ks)
 |_=>J
def xI(ks:List (List Key)):sF (ks.map λk=>.tuple (k.map aP))=U ks:=by
 induction ks with
 |nil=>rfl
 |cons k s h =>
  change (jN _).bind _=_;rw[mR];exact r9 (sU · λs=>U (k::s)) h
noncomputable def lg(d:f7)(k:List Key):Option (Option f7):=match d with
 | .dict [(.list l,.list vs)]=>(sF l).bind λks=>U (((ks.zip vs).find? λp=>decide (p.1=k)).map (·.2))
 |_=>J
theorem Gk{K:n6}{H:Hp}(k:List Key):∀{ks:List (List Key)} {vs:List V} {l:List f7},u5 K H vs l ->
  (iq (ks.zip vs) k=J/\((ks.zip l).find? λp=>decide (p.1=k)).map (·.2)=J)\/∃v d,iq (ks.zip vs) k=U v/\((ks.zip l).find? λp=>decide (p.1=k)).map (·.2)=U d/\Dt K H v d
 | [],_,_,_=>.inl ⟨rfl,rfl⟩
 |_::_,_,_,.nil=>.inl ⟨rfl,rfl⟩
 |k'::ks,_,_,.cons (x:=x) (d:=d) h t=>by
  by_cases e:k'=k;exact .inr ⟨x,d,vp e,by simp[e],h⟩;rw[jW,jW,vq e,Na];simp only[S6 e];exact Gk k t
set_option tactic.hygienic true in
theorem Dt.lg{K:n6}{H:Hp}{x:V}{d:f7}{k:List Key}{r:Option f7}(h:Dt K H x d)(e:L2.lg d k=U r):
  ∃a b,x=.ref a/\H a=U (.dT b)/\((iq b k=J/\r=J)\/∃v d',iq b k=U v/\r=U d'/\Dt K H v d'):=by
 cases h with
 |dtt c g f t =>
  rename_i a b i j l;change (sF _).bind _=_ at e;rw[xI]at e;replace e:=R1 e;refine⟨a,b,rfl,c,?_⟩;rw[f,<-e];exact Gk k t
 |dct c g t=>exact nE e
 |key h=>exact nE e
 |_=>exact nE e
noncomputable def kB(Fo Fi:DV):DV:=λds=>(Fo ds).bind λx=>(Fi ds).bind λy=>(ou y.d).bind λk=>(lg x.d k).bind λr=>r.bind λd=>U (.dat d)
noncomputable def jI(Fo Fi Fx:DV):DV:=λds=>(Fo ds).bind λx=>(Fi ds).bind λy=>(Fx ds).bind λz=>(ou y.d).bind λk=>(lg x.d k).bind λr=>U (.dat (r.getD z.d))
def PM{ty:TE}{Fi:DV}(F:c.A.units+1<N6)(m:PX c I e u r)(l:PX c I E ty Fi)(hs:autoParam (SE E) jO):PX c I (.Subscript e E p) (Tf u ty) (kB r Fi):=⟨VH F m.p l.p hs,by
 intro O i w n H A pv Q S X q;obtain⟨x,L,X⟩:=j3 X;obtain⟨y,M,X⟩:=j3 X;obtain⟨k,o,X⟩:=j3 X;obtain⟨W,B,X⟩:=j3 X;obtain⟨d,g,X⟩:=j3 X;cases X;refine m.t O i w n H A x _ S L λv C j P=>?_;refine l.t O i w n C A y _ (S.grow j) M λT R s G=>?_
 obtain⟨b,rfl,t⟩:=(G.dt (S.grow j).dm).ou o;obtain⟨a,h,rfl,z,f⟩:=((P.grow s).dt S.dm).lg B;rcases f with ⟨_,f⟩|⟨D,V,f,N,K⟩
 . simp_all
 . rw[N]at g;cases g;exact⟨a,D,rfl,.inr ⟨h,k,b,.inl (A0.mp z).2.2,rfl,(A0.mp t).2.2,f.symm⟩,q _ _ (j.trans s) K⟩⟩
def KH{f:Expr}{ty tx:TE}{Fi Fx:DV}(V:c.A.units+1<N6)(o:PX c I e u r)(t:PX c I E ty Fi)(F:PX c I f tx Fx)(m:M2 c e "get" p E f A:=by exact⟨rfl,rfl,rfl,rfl⟩):PX c I (.Call (.Attribute e "get" p) [E,f] [] A) (Kj u ty tx) (jI r Fi Fx):=⟨QF V o.p t.p F.p m,by
 intro O X C s H w pv Q S d q;obtain⟨x,h1,d⟩:=j3 d;obtain⟨y,h2,d⟩:=j3 d;obtain⟨z,B,d⟩:=j3 d;obtain⟨k,Y,d⟩:=j3 d;obtain⟨td,K,d⟩:=j3 d;cases d;refine o.t O X C s H w x _ S h1 λv R h M=>?_;obtain⟨a,fr,rfl,N,_⟩:=(M.dt S.dm).lg K;refine⟨a,rfl,.inr ⟨fr,.inl (A0.mp N).2.2⟩,?_⟩;refine t.t O X C s R w y _ (S.grow h) h2 λv2 Z l W=>?_;refine F.t O X C s Z w z _ ((S.grow h).grow l) B λv3 H3 n P=>?_
 obtain⟨b,rfl,L⟩:=((W.grow n).dt (S.grow h).dm).ou Y;obtain⟨a',g,i,G,j⟩:=(((M.grow l).grow n).dt S.dm).lg K;cases i;rcases j with ⟨j,D⟩|⟨T,d',j,D,g4⟩
 refine⟨J,.inr ⟨g,k,b,.inl (A0.mp G).2.2,rfl,(A0.mp L).2.2,j.symm⟩,q _ _ ((h.trans l).trans n) ?_⟩;rw[D];exact(P.dt ((S.grow h).grow l).dm)
 . refine⟨U T,.inr ⟨g,k,b,.inl (A0.mp G).2.2,rfl,(A0.mp L).2.2,j.symm⟩,q _ _ ((h.trans l).trans n) ?_⟩;rw[D];exact g4⟩
noncomputable def ma:f7->FV
 | .list l,[d]=>zH (.list (l.map un)) [un d]
 |_,_=>J
set_option tactic.hygienic true in
def KG {K':n6} (V:c.A.units + 64 < N6) (N:c.K=K') (t:PX c I E u r) (B:cT c I [e] M S) (h:autoParam (Z2 E "index" c.env (eval E c.env)=eval E c.env) k6) (k:autoParam (((C6 A (m8 [e] c.env)).all (λx=>!x.1)&&(aQ A (dq [] c.env)).all (λx=>x.1.isSome)
   && decide ([e].length+([]:List aa).length+(if ([]:List aa).isEmpty then 0 else 1)<30))=Uf) k6)
  (i:autoParam ((p.endLine==A.line)=Uf) k6) (hs:autoParam (m8 [e] c.env=(U',eval e c.env)::m8 [] c.env) k6) (X:autoParam ((C6 A (m8 [] c.env)).any (·.1)=U') k6) :
  PX c I (.Call (.Attribute E "index" p) [e] [] A) (Gp K' "list" (GA K') u M) (uF ma r S):=by
 subst N;refine⟨wO qj yA Oh (LL V) t.p B.p h k i hs X,?_⟩;intro O g o z H C pv Q f b q;obtain⟨x,h1,b⟩:=j3 b;obtain⟨l,h2,b⟩:=j3 b;refine t.t O g o z H C x _ f h1 λv R G r1=>?_;have D:=r1.dt f.dm;generalize x.d=xd at b D;unfold ma at b;split at b
 . rename_i w d;obtain⟨n,b⟩:=D7 b;obtain⟨j,L,b⟩:=j3 b;cases b;cases D with
   |lst m ht =>
    rename_i a T;refine⟨.inl ⟨rfl,_,t9.seq m⟩,?_⟩;refine B.t O g o z R C _ _ (f.grow G) h2 λvs Z s Y=>?_
    cases Y with
    |cons y P =>
     cases P;exact⟨a,T,w.map un,_,un d,j,rfl,rfl,s.seq (t9.seq m),((ht.same t9).same s).un,(y.same t9).un,n.1,n.2.1,n.2.2.1,n.2.2.2,L,q _ Z (G.trans s) (Dt.int _)⟩
 exact nE b
def KQ{nb:List Str}{iter:Expr}{pos:Pos}{wi:TI}{g:TG}(I:c.N.Nodup)(X:c.N[m]? = U o)(F:Loc c.env.scope o)(M:c.calm=Uf)(B:jq c Q nb c5)(l:eU c Uf E iter wi S)(f:jg Q.length g)(i:∀cl C fp s H pins,PG (S7 c Q nb c5 cl C fp s H pins) E g)(b:sH c.K Q.length g g8)(k:∀cl C fp s H pins,PX (S7 c Q nb c5 cl C fp s H pins) Uf e u r)(d:autoParam (ag (.ListComp e [⟨E,iter,[],0⟩] c5 p) (U (.Name o A)) pos.line c.env=pure Uf) k6)(L:autoParam (c.fn o=Uf\/c.env.scope.names.lookup o=U .local) bC)(hs:autoParam (∀o,dw iter c.env o=pure o) Q4):H0 c (.Assign [.Name o A] (.ListComp e [⟨E,iter,[],0⟩] c5 p) pos) (fO (gF Q wi g wz u) (Y9 m)) (O8 m (iM S g8 r)) :=
 ⟨yS I X F M B l.p f i (λ_ _ _ _ _ _=>vF) (λ_ _ _ _ _ _=>(k _ _ _ _ _ _).p) d L hs,by
 intro O a y w H j D N K h q;obtain⟨pv,e1,h⟩:=j3 h;cases h;refine((PQ (pos:=p) M B l f i b k hs).t) O a y w H j pv _ K e1 λv G x t=>?_
 obtain⟨n,z⟩:=K.store x m t;exact q _ _ _ z⟩
def K7.u1(r:K7 m N):N.units+1<N6:=by have:=r.un;lia
def K7.u2(r:K7 m N):N.units+2<N6:=by have:=r.un;lia
def uJ:List (Str×PF)->Option (List f7)
 | []=>U []
 |(_,.dat d)::r=>(uJ r).bind λl=>U (d::l)
 |_=>J
def L4.N8(t:L4 g q H e9 c7 O):∀{l:List f7},uJ c7=U l->u5 g q (e9.map (·.2)) l:=by
 induction t with
 |nil=>intro l h;cases h;exact .nil
 |dat F t K=>intro l h;obtain⟨a,b,c⟩:=j3 h;cases c;exact .cons F (K b)
 |own=>intro l h;exact nE h
 |dct=>intro l h;exact nE h
def RY(h:u5 g q L P):L4 g q H (dW L) (dW (P.map PF.dat)) []:=by
 induction P generalizing L with
 |nil=>cases h;exact .nil
 |cons d P j=>cases h with
  |cons a b=>exact .dat a (j b)
def MF(l:List f7):uJ (dW (l.map PF.dat))=U l:=by
 induction l with
 |nil=>rfl
 |cons d l j=>show(uJ (dW (l.map PF.dat))).bind _=_;rw[j];rfl
def qE(i:Nat)(ds:Ds):Option (Option Addr×List f7):=match ds[i]? with
 |some (U (.ob w (.seq Uf fs)))=>(uJ fs).bind λl=>U (w,l)
 |_=>J
abbrev eM(w:Option Addr)(l:List f7):PV:=.ob w (.seq Uf (dW (l.map PF.dat)))
set_option tactic.hygienic true in
theorem DS.lst(S:DS g O q y D H G)(h:qE m G=U (g0,P)):
  ∃v xs,D[m]? = U (U (.ref v))/\H v=U (.lst xs)/\u5 g (p7 H y O) xs P/\∀{A:Hp} {ys:List V} {l:List f7},m3 H A->u5 g (p7 A y O) ys l->DS g O q y D (upd A v (.lst ys)) (G.set m (U (eM g0 l))):=by
 unfold qE at h;split at h;rename_i fs hd;obtain⟨a,b,c⟩:=j3 h;cases c;obtain⟨v,R,N,ew,hR,d,R',rfl,nv,s,x⟩:=S.slot m _ hd;refine⟨v,d.map (·.2),N,s,x.N8 b,λ{A ys l} e dy=>?_⟩;have Y:=S.grow e;obtain⟨rg,r1,r2,Q⟩:=Y.fX;obtain⟨v',R2,i,E,w,B,r,rfl,K,p,F⟩:=Q m _ hd;rw[N]at i;cases i;exact Y.wo (u:=Cl.l ys) hd r1 r2 Q (w v v8) λsm=>⟨v,[v],N,E,λb z=>w b (by cases mem_singleton.1 z;exact v8),dW ys,[],rfl,fB,by rw[J8,Tw];rfl,RY (dy.same sm)⟩;exact nE h
def sy(i:Nat)(F:DV):DV:=λds=>(qE i ds).bind λx=>(F ds).bind λk=>u9 (.list x.2) k.d
section
def Yh{K':n6}(d:c.K=K')(i:Nat)(o:PE c e (G4 i))(s:PX c I E u r)(hs:autoParam (ic E) jO):PX c I (.Subscript e E p) (my (wJ K') (G4 i) u) (sy i r):=by
 subst d;exact⟨wN sr o s.p hs,by
 intro O f w A H D pv Q S X q;obtain⟨⟨w',l⟩,n,X⟩:=j3 X;obtain⟨k,z,X⟩:=j3 X;obtain⟨a,M,t,L,x,_⟩:=S.lst n;refine⟨_,t,s.t O f w A H D k _ S z λy m b h=>?_⟩
 have C:=h.dt S.dm;generalize k.d=R at X C;cases C with
 |int j =>
  have g:=X;obtain⟨d,F,g⟩:=j3 g;cases g;obtain⟨v,G,N⟩:=x.V4 F;exact .inl ⟨a,M,j,v,rfl,rfl,K6.of (b _ _ L),G,q v m b (Dt.same (fm.trans (L0 b)) N)⟩
 |_=>exact nE X⟩
def uB(i:Nat)(Fk Fv:DV):DO:=λds=>(Fv ds).bind λpv=>(Fk ds).bind λk=>match k.d with
 | .int k=>(qE i ds).bind λx=>(eQ x.2.length k).bind λj=>U (.next (ds.set i (U (eM x.1 (x.2.set j pv.d)))))
 |_=>J
set_option tactic.hygienic true in
def Qi {k:Expr} {te:TE} {Fk:DV} (i:Nat) (Q:PE c E (G4 i)) (b:PX c Uf k u Fk) (x:PX c Uf e te r) (N:autoParam (∀v,assign (.Subscript E k A) c.env v=(do
   let ov <- holding [v] (eval E c.env)
   let iv <- holding [v,ov] (eval k c.env)
   bH A
   holding [v,ov,iv] (pO ov iv v)
   release [v,ov,iv] [])) Q4)
  (hs:autoParam (tq [.Subscript E k A] e p.line c.env=pure U') k6) (P:autoParam (tm [.Subscript E k A] e c.env=pure J) k6)
  (R:autoParam ((gr [.Subscript E k A] c.env).map (·.2)=[assign (.Subscript E k A) c.env]) k6) :
  H0 c (.Assign [.Subscript E k A] e p) (fO te (CS (G4 i) u wI)) (uB i Fk r):=⟨wK x.p (wM Q b.p set_list N) hs P R,by
 intro O X F m H f D E S h q;obtain⟨pv,e1,h⟩:=j3 h;obtain⟨kv,e2,h⟩:=j3 h;split at h;rename_i s n;obtain⟨⟨w',l⟩,C,h⟩:=j3 h;obtain⟨j,e3,h⟩:=j3 h;cases h;refine x.t O X F m H f pv _ S e1 λv o I K=>?_;have d:=S.grow I;obtain⟨a,M,B,G,y,wr⟩:=d.lst C;refine⟨_,B,?_⟩;refine b.t O X F m o f kv _ d e2 λw T g L=>?_;have z:=L.dt d.dm;rw[n]at z;cases z;refine⟨a,M,s,j,rfl,rfl,g _ _ G,by rw[y.length];exact e3,q F m _ ?_⟩;exact wr g ((y.same (L0 g)).set j ((K.grow g).dt S.dm))
 . exact nE h⟩
end
end L2
namespace Sx
variable{n j m:Nat}{p s x:Int}{w f:Nat->Int}{Z:Bool}{Y X:Nat->Nat}{S:Nat->Nat->Int}
def sm:Nat->(Nat->Int)->Int
 | 0,_=>0
 |n+1,f=>sm n f+f n
def o7(h:∀i,i<n->f i=w i):sm n f=sm n w:=by
 induction n with
 |zero=>rfl
 |succ n a=>rw[sm,sm,a λi b=>h i cO,h n o9]
def hF(h:∀i,i<n->f i=0):sm n f=0:=by
 induction n with
 |zero=>rfl
 |succ n a=>rw[sm,a λi b=>h i cO,h n o9];rfl
def iz(n:Nat)(f g:Nat->Int):sm n (λi=>f i+g i)=sm n f+sm n g:=by
 induction n with
 |zero=>rfl
 |succ n a=>rw[sm,sm,sm,a];lia
def E8(n:Nat)(a:Int)(f:Nat->Int):sm n (λi=>a*f i)=a*sm n f:=by
 induction n with
 |zero=>rw[sm,sm,Q9]
 |succ n b=>rw[sm,sm,b,cC]
def Gu(n:Nat)(a:Int)(f:Nat->Int):sm n (λi=>f i*a)=sm n f*a:=by rw[F1,<-E8];exact o7 λi _=>F1 _ _
def R6{k:Nat}(a:k<n)(h:∀i,i<n->i≠k->f i=0):sm n f=f k:=by
 induction n with
 |zero=>simp_all
 |succ n d =>
  rw[sm];by_cases c:k=n;subst c;rw[hF λi b=>h i cO (O2 k8)];simp[*];rw[d (nG (qe k8) k8) λi b a=>h i cO a,h n o9 λz=>c z.symm];simp[*]
def Xz(a:j+1<n)(h:∀i,i<n->i≠j->i≠j+1->f i=0):sm n f=f j+f (j+1):=by
 induction n with
 |zero=>simp_all
 |succ n g =>
  rw[sm];by_cases c:j+1=n;subst c;rw[R6 o9 λi b a=>h i cO a (O2 k8)];rw[g (nG (qe k8) k8) λi b d e=>h i cO d e,h n o9 j7 λz=>c z.symm];simp[*]
def oW(n m:Nat)(f:Nat->Nat->Int):sm n (λi=>sm m λj=>f i j)=sm m λj=>sm n λi=>f i j:=by
 induction n with
 |zero=>rw[sm];exact(hF λ_ _=>rfl).symm
 |succ n a =>
  rw[sm,a,<-iz];rfl
def iy(n:Nat)(f g:Nat->Int):sm n (λi=>f i-g i)=sm n f-sm n g:=by
 have e:(λi=>f i-g i)=λi=>f i+(-1)*g i:=by funext i;lia
 rw[e,iz,E8];lia
def wA(f:Nat->Int)(a:j<n):sm n f=f j+sm n λi=>if i=j then 0 else f i:=by
 have:sm n f=sm n λi=>(if i=j then f j else 0)+(if i=j then 0 else f i):=o7 λi _=>by
  by_cases c:i=j;rw[j2 c,j2 c,c];simp[*];rw[j1 c,j1 c];simp[*]
 rw[this,iz,R6 a λi _ h=>by rw[j1 h],j2 rfl]
def skip(j c:Nat):Nat:=if c<j then c else c+1
noncomputable def det:Nat->(Nat->Nat->Int)->Int
 | 0,_=>1
 |n+1,M=>sm (n+1) λj=>(-1) ^ j*M j 0*det n λc r=>M (skip j c) (r+1)
def UP(a:j<n+1)(b:m<n):skip j m<n+1:=by delta skip;split<;>lia
def UO:skip j n≠j:=by delta skip;split<;>lia
def U5:∀{n:Nat} {M a:Nat->Nat->Int},(∀c r,c<n->r<n->M c r=a c r)->det n M=det n a:=by
 intro l_;induction l_ with
 |zero =>
  intro _ _ _;exact rfl
 |succ n ih_ =>
  intro M a h;refine o7 λj b=>?_;rw[h j 0 b o9,ih_ λc r d e=>h _ _ (UP b d) o9]
def B6(M:Nat->Nat->Int)(k:Nat)(v:Nat->Int):Nat->Nat->Int:=λc r=>if c=k then v r else M c r
def aJ(M:Nat->Nat->Int)(k:Nat)(v:Nat->Int)(r:Nat):B6 M k v k r=v r:=by delta B6;simp
def X5(M:Nat->Nat->Int)(v:Nat->Int)(r:Nat)(h:j≠n):B6 M n v j r=M j r:=by delta B6;rw[j1 h]
def back(j k:Nat):Nat:=if k<j then k else k-1
def Ak(h:n≠j):skip j (back j n)=n:=by
 delta back;by_cases c:n<j;rw[j2 c];delta skip;rw[j2 c];rw[j1 c];delta skip;rw[j1 j7];lia
def WG(a:j<n+1)(b:m<n+1)(h:m≠j):back j m<n:=by delta back;split<;>lia
def Ph(h:skip j n=skip j m):n=m:=by unfold skip at h;split at h<;>split at h<;>lia
def uI:∀{n k:Nat} (M:Nat->Nat->Int) (a b:Int) (u v:Nat->Int),k<n->det n (B6 M k λr=>a*u r+b*v r)=a*det n (B6 M k u)+b*det n (B6 M k v):=by
 intro l_;induction l_ with
 |zero =>
  intro k M a b u v h;exact lI
 |succ n ih_ =>
  intro k M a b u v h;rw[det,det,det,<-E8,<-E8,<-iz];refine o7 λj g=>?_;by_cases c:k=j
  . subst c;have e:∀w:Nat->Int,det n (λc r=>B6 M k w (skip k c) (r+1))=det n (λc r=>M (skip k c) (r+1)):=λw=>U5 λc r _ _=>X5 _ _ _ UO;rw[e,e,e,aJ,aJ,aJ];generalize (-1) ^ k=s;rw[cC,DR]
    congr 1
    rw[<-L9,<-L9,<-L9,F1 s a];rw[<-L9,<-L9,<-L9,F1 s b]
  . have e:∀w:Nat->Int,det n (λc r=>B6 M k w (skip j c) (r+1))=det n (B6 (λc r=>M (skip j c) (r+1)) (back j k) λr=>w (r+1)):=λw=>U5 λf r _ _=>by
      delta B6;by_cases d:f=back j k;rw[j2 d,d,Ak c,j2 rfl];rw[j1 d,j1 λz=>d (Ph (by rw[z,Ak c]))]
    rw[e,e,e,X5 _ _ _ (λz=>c z.symm),X5 _ _ _ (λz=>c z.symm),X5 _ _ _ (λz=>c z.symm),ih_ _ a b (λr=>u (r+1)) (λr=>v (r+1)) (WG g h c)];generalize (-1) ^ j*M j 0=s;rw[cC]
    congr 1
    rw[<-L9,<-L9,F1 s a];rw[<-L9,<-L9,F1 s b]
def HD:∀{n k:Nat} {M:Nat->Nat->Int},k+1<n->(∀r,r<n->M k r=M (k+1) r)->det n M=0:=by
 intro l_;induction l_ with
 |zero =>
  intro k M h _
  simp_all
 |succ n ih_ =>
  intro k M h e;rw[det,Xz h]
  . have b:det n (λc r=>M (skip k c) (r+1))=det n (λc r=>M (skip (k+1) c) (r+1)):=U5 λc r _ a=>by
      by_cases d:c=k;subst d;rw[show skip c c=c+1 from by delta skip;rw[j1 o9],show skip (c+1) c=c from by delta skip;rw[j2 o9]];exact(e _ o9).symm;rw[show skip k c=skip (k+1) c from by delta skip;split<;>split<;>lia]
    rw[b,e 0 o9,Int.pow_succ];lia
  . intro j f g i;have:det n (λc r=>M (skip j c) (r+1))=0:=by
     by_cases c:j<k;refine ih_ (k:=k-1) j7 λr a=>?_;rw[show skip j (k-1)=k from by delta skip;rw[j1 jM];lia,show skip j (k-1+1)=k+1 from by delta skip;rw[j1 jM];lia];exact e _ o9;refine ih_ (k:=k) j7 λr a=>?_;rw[show skip j k=k from by delta skip;rw[j2 j7],show skip j (k+1)=k+1 from by delta skip;rw[j2 j7]];exact e _ o9
    simp_all
def mi(M:Nat->Nat->Int)(k:Nat):B6 M k (M k)=M:=by
 funext c r
 delta B6
 simp_all
def JX(M:Nat->Nat->Int)(k:Nat)(u v:Nat->Int):B6 (B6 M k u) k v=B6 M k v:=by
 funext c r
 delta B6
 simp_all
def gO(M:Nat->Nat->Int)(u v:Nat->Int)(h:n≠j):B6 (B6 M n u) j v=B6 (B6 M j v) n u:=by
 funext c r
 delta B6;by_cases a:c=j;rw[j2 a,j1 j7,j2 a];rw[j1 a];by_cases b:c=n;rw[j2 b,j2 b];rw[j1 b,j1 b,j1 a]
def zY(M:Nat->Nat->Int)(u v:Nat->Int)(h:j<n):det n (B6 M j λr=>u r+v r)=det n (B6 M j u)+det n (B6 M j v):=by have:=uI M 1 1 u v h;simpa using this
def ve(b:m<n)(c:j<n)(a:m≠j)(M:Nat->Nat->Int)(z:∀w,det n (B6 (B6 M m w) j w)=0)(u v:Nat->Int):det n (B6 (B6 M m u) j v) = - det n (B6 (B6 M m v) j u):=by
 have h:=z λr=>u r+v r;rw[zY _ _ _ c,gO _ _ _ a,gO _ _ _ a,zY _ _ _ b,zY _ _ _ b,gO _ _ _ a.symm,gO _ _ _ a.symm,gO _ _ _ a.symm,gO _ _ _ a.symm,z u,z v]at h;lia
def Dm:∀(d:Nat) {n a:Nat} {M:Nat->Nat->Int},a+d+1<n->(∀r,r<n->M a r=M (a+d+1) r)->det n M=0:=by
 intro l_;induction l_ with
 |zero =>
  intro n a M h e;exact HD h e
 |succ d ih_ =>
  intro n a M h e;have b:M=B6 (B6 M (a+d+1) (M (a+d+1))) (a+d+1+1) (M (a+d+1+1)):=by rw[mi,mi]
  rw[b,ve cw jM o9 M (λw=>HD (k:=a+d+1) jM λr _=>by rw[X5 _ _ _ o9,aJ,aJ])];rw[ih_ cw λr c=>?_];rfl;rw[X5 _ _ _ j7,X5 _ _ _ j7,X5 _ _ _ o9,aJ];exact e r c
def qL(f:m<n)(d:j<n)(c:m≠j)(e:∀r,r<n->S m r=S j r):det n S=0:=by
 rcases DY m j with h|h
 refine Dm (j-m-1) (a:=m) jM λr b=>?_;rw[show m+(j-m-1)+1=j from by omega];exact e r b;refine Dm (m-j-1) (a:=j) jM λr b=>?_;rw[show j+(m-j-1)+1=m from by lia];exact(e r b).symm
def RV(c:m<n)(b:j<n)(a:m≠j)(M:Nat->Nat->Int)(u v:Nat->Int):det n (B6 (B6 M m u) j v) = - det n (B6 (B6 M m v) j u) :=
 ve c b a M (λw=>qL c b a λr _=>by rw[X5 _ _ _ a,aJ,aJ]) u v
def HB(M:Nat->Nat->Int)(h:j<n)(a:Nat->Int)(V:Nat->Nat->Int):∀m,det n (B6 M j λr=>sm m λi=>a i*V i r)=sm m λi=>a i*det n (B6 M j (V i)):=by
 intro l_;induction l_ with
 |zero =>
  have:=uI M 0 0 (λ_=>0) (λ_=>0) h;simp only[bE]at this;exact this
 |succ m ih_ =>
  have:=uI M 1 (a m) (λr=>sm m λi=>a i*V i r) (V m) h;simp only[Z1]at this;show det n (B6 M j λr=>sm m (λi=>a i*V i r)+a m*V m r)=sm m (λi=>a i*det n (B6 M j (V i)))+a m*det n (B6 M j (V m));rw[this,ih_]
def HC:∀n,det n (λc r=>if c=r then 1 else 0)=1:=by
 intro l_;induction l_ with
 |zero =>
  exact rfl
 |succ n ih_ =>
  rw[det,R6 (k:=0) o9]
  . have e:det n (λc r=>if skip 0 c=r+1 then 1 else 0)=det n (λc r=>if c=r then 1 else 0):=U5 λc r _ _=>by
      rw[show skip 0 c=c+1 from by delta skip;rw[j1 o9]];by_cases h:c=r;rw[j2 h,j2 o9];rw[j1 h,j1 o9]
    rw[e,ih_,j2 rfl];rfl
  intro j _ a;rw[j1 a,Q9,bE]
def sN:Nat->(Nat->Nat)->Nat
 | 0,_=>0
 |n+1,f=>sN n f+f n
def pN:Nat->(Nat->Nat)->Nat
 | 0,_=>1
 |n+1,f=>pN n f*f n
def Kt(n:Nat)(f:Nat->Int):(sm n f).natAbs<=sN n λi=>(f i).natAbs:=by
 induction n with
 |zero=>exact X1 _
 |succ n a =>
  exact p5 (Int.natAbs_add_le _ _) (EU a _)
def Bk(h:∀i,i<n->Y i<=X i):sN n Y<=sN n X:=by
 induction n with
 |zero=>exact X1 _
 |succ n a=>exact yc (a λi b=>h i cO) (h n o9)
def a0R(h:∀i,i<n->Y i<=X i):pN n Y<=pN n X:=by
 induction n with
 |zero=>exact X1 _
 |succ n a=>exact yb (a λi b=>h i cO) (h n o9)
def QL(h:∀i,i<n->Y i=X i):pN n Y=pN n X:=by
 induction n with
 |zero=>rfl
 |succ n a=>rw[pN,pN,a λi b=>h i cO,h n o9]
def UT(n:Nat)(f:Nat->Nat):sN (n+1) f=f 0+sN n λi=>f (i+1):=by
 induction n with
 |zero=>rw[sN,sN,sN];exact pV _ _
 |succ n a=>rw[sN,a,sN];exact Nat.add_assoc _ _ _
def UU(n a:Nat)(f:Nat->Nat):sN n (λi=>f i*a)=sN n f*a:=by
 induction n with
 |zero=>rw[sN,sN,Nat.zero_mul]
 |succ n b=>rw[sN,sN,b,Nat.add_mul]
def Qq(x y:Nat->Nat):∀n,sN (n+1) (λj=>x j*pN n λc=>y (skip j c))<=pN (n+1) λc=>x c+y c:=by
 intro l_;induction l_ with
 |zero =>
  simp[sN,pN]
 |succ n ih_ =>
  rw[sN];have a:sN (n+1) (λj=>x j*pN (n+1) λc=>y (skip j c))<=sN (n+1) λj=>(x j*pN n λc=>y (skip j c))*y (n+1):=Bk λj f=>by
   rw[pN,show skip j n=n+1 from by delta skip;rw[j1 j7],Ee];exact X1 _
  rw[UU]at a;have b:pN (n+1) (λc=>y (skip (n+1) c))=pN (n+1) y:=QL λc e=>by rw[show skip (n+1) c=c from by delta skip;rw[j2 e]]
  have d:pN (n+1) y<=pN (n+1) λc=>x c+y c:=a0R λc _=>by simp[*]
  rw[b];refine p5 (EU a _) ?_;show _<=(pN (n+1) λc=>x c+y c)*(x (n+1)+y (n+1));rw[Nat.mul_add,pV,sX (x (n+1))];exact yc (nK _ d) (nK _ (ih_))
def MC:∀(n:Nat) (M:Nat->Nat->Int),(det n M).natAbs<=pN n λc=>sN n λr=>(M c r).natAbs:=by
 intro l_;induction l_ with
 |zero =>
  intro M;simp[det,pN]
 |succ n ih_ =>
  intro M;refine p5 (Kt _ _) ?_;have e:(λc=>sN (n+1) λr=>(M c r).natAbs)=λc=>(M c 0).natAbs+sN n λr=>(M c (r+1)).natAbs:=by funext c;rw[UT]
  rw[e];refine p5 (Bk λj a=>?_) (Qq (λc=>(M c 0).natAbs) (λc=>sN n λr=>(M c (r+1)).natAbs) n)
  rw[cj,cj];have:((-1) ^ j).natAbs=1:=by simp
  rw[this,Nat.one_mul];exact Nat.mul_le_mul_left _ (ih_ _)
structure Pb where
 m:Nat
 n:Nat
 A:Nat->Nat->Int
 b:Nat->Int
 u:Nat->Option Int
 c:Nat->Nat->Int
variable{c:Pb}
structure Tb where
 B:Nat->Nat
 full:Nat->Bool
 size:Int
 inv:Nat->Nat->Int
 pr:Nat->Nat->Int
 rt:Nat->Int
variable{b:Tb}
def dot(m:Nat)(x y:Nat->Int):Int:=sm m λr=>x r*y r
def kC{x' y':Nat->Int}(h:∀r,r<m->w r=x' r)(h':∀r,r<m->f r=y' r):dot m w f=dot m x' y':=o7 λr a=>by rw[h r a,h' r a]
def zW(m l:Nat)(x:Nat->Int)(a:Nat->Int)(V:Nat->Nat->Int):dot m x (λr=>sm l λi=>a i*V i r)=sm l λi=>a i*dot m x (V i):=by
 delta dot;have:sm m (λr=>x r*sm l λi=>a i*V i r)=sm m λr=>sm l λi=>a i*(x r*V i r):=o7 λr _=>by rw[<-E8];exact o7 λi _=>by rw[<-L9,<-L9,F1 (x r)]
 rw[this,oW];exact o7 λi _=>E8 _ _ _
def Hz(m:Nat)(a:Int)(x y:Nat->Int):dot m (λr=>a*x r) y=a*dot m x y:=by delta dot;rw[<-E8];exact o7 λr _=>L9 _ _ _
def vV(m:Nat)(a:Int)(x y:Nat->Int):dot m x (λr=>a*y r)=a*dot m x y:=by delta dot;rw[<-E8];exact o7 λr _=>by rw[<-L9,<-L9,F1 a]
def Hx(m:Nat)(x y z:Nat->Int):dot m x (λr=>y r-z r)=dot m x y-dot m x z:=by delta dot;rw[<-iy];exact o7 λr _=>Int.mul_sub _ _ _
def unit(q:Nat):Nat->Int:=λp=>if p=q then 1 else 0
def qJ(x:Nat->Int)(h:n<m):dot m x (unit n)=x n:=by
 delta dot;rw[R6 h λi _ a=>by delta unit;rw[j1 a,Q9]];delta unit;simp
def JT(x:Nat->Int)(h:n<m):(sm m λq=>x q*unit q n)=x n:=by
 rw[R6 h λi _ a=>by delta unit;rw[j1 (λz=>a z.symm),Q9]];delta unit;simp
def JY(h:∀p,p<m->f p=w p):det m (B6 S n f)=det m (B6 S n w):=U5 λc r _ a=>by
 delta B6
 simp_all
def Tb.M(P:Pb)(T:Tb):Nat->Nat->Int:=λk=>P.A (T.B k)
structure N3(P:Pb)(T:Tb):Prop where
 bn:∀k,k<P.m->T.B k<P.n
 inj:∀k l,k<P.m->l<P.m->T.B k=T.B l->k=l
 sg:∃s:Int,(s=1\/s = -1)/\s*T.size=det P.m (T.M P)/\∀r,r<P.m->∀x,s*dot P.m (T.inv r) x=det P.m (B6 (T.M P) r x)
 pos:0<T.size
 span:∀p q,p<P.m->q<P.m->sm P.m (λk=>T.inv k q*P.A (T.B k) p)=if p=q then T.size else 0
 pr:∀t q,q<P.m->T.pr t q=sm P.m λk=>P.c t (T.B k)*T.inv k q
def UJ(h:s=1\/s = -1):s*s=1:=by rcases h with h|h<;>rw[h]<;>rfl
section
variable{P:Pb}{T:Tb}
def N3.left(L:N3 P T)(b:n<P.m)(g:j<P.m):dot P.m (T.inv n) (P.A (T.B j))=if n=j then T.size else 0:=by
 obtain⟨s,d,e,f⟩:=L.sg;have a:s*dot P.m (T.inv n) (P.A (T.B j))=s*(if n=j then T.size else 0):=by
  rw[(f n b (P.A (T.B j)))];by_cases c:n=j;subst c;rw[j2 rfl,e];exact r9 _ (mi (T.M P) n)
  . rw[j1 c,Q9];exact qL b g c λp _=>by
     rw[aJ,X5 _ _ _ (λz=>c z.symm)];rfl
 have:s*(s*dot P.m (T.inv n) (P.A (T.B j)))=s*(s*(if n=j then T.size else 0)):=by rw[a]
 rw[<-L9,<-L9,UJ d,Z1,Z1]at this;exact this
theorem N3.by(L:N3 P T)(x:Nat->Int)(a:n<P.m):(sm P.m λk=>dot P.m (T.inv k) x*P.A (T.B k) n)=T.size*x n:=by
 have:(sm P.m λk=>dot P.m (T.inv k) x*P.A (T.B k) n)=sm P.m λk=>sm P.m λq=>x q*(T.inv k q*P.A (T.B k) n):=o7 λk _=>by delta dot;rw[<-Gu];exact o7 λq _=>by rw[F1 (T.inv k q),L9]
 rw[this,oW];have:(sm P.m λq=>sm P.m λk=>x q*(T.inv k q*P.A (T.B k) n))=sm P.m λq=>x q*(if n=q then T.size else 0):=o7 λq hq=>by rw[E8,L.span n q a hq]
 rw[this,R6 a λi _ b=>by rw[j1 (λz=>b z.symm),Q9],j2 rfl,F1]
def N3.ratio(L:N3 P T)(u:s=1\/s = -1)(g:∀n,n<P.m->∀x,s*dot P.m (T.inv n) x=det P.m (B6 (T.M P) n x))(c:n<P.m)(f:j<P.m)(b:n≠j)(a x:Nat->Int):
  T.size*(s*det P.m (B6 (B6 (T.M P) j a) n x))=dot P.m (T.inv j) a*dot P.m (T.inv n) x-dot P.m (T.inv n) a*dot P.m (T.inv j) x:=by
 have:T.size*det P.m (B6 (B6 (T.M P) j a) n x)=det P.m (B6 (B6 (T.M P) j a) n λp=>sm P.m λk=>dot P.m (T.inv k) x*P.A (T.B k) p):=by
  have:=uI (B6 (T.M P) j a) T.size 0 x (λ_=>0) c;simp only[sW,bE]at this;rw[<-this];exact JY λp l=>(L.by x l).symm
 have:=HB (B6 (T.M P) j a) c (λk=>dot P.m (T.inv k) x) (λk=>P.A (T.B k)) P.m
 have t:(sm P.m λk=>dot P.m (T.inv k) x*det P.m (B6 (B6 (T.M P) j a) n (P.A (T.B k))))=sm P.m λk=>(if k=n then dot P.m (T.inv n) x*(s*dot P.m (T.inv j) a)else 0)+(if k=j then dot P.m (T.inv j) x*(-(s*dot P.m (T.inv n) a))else 0):=o7 λk o=>by
  by_cases d:k=n
  . subst d;rw[j2 rfl,j1 b,sW,g j f a]
    congr 1
    rw[gO _ _ _ b.symm];exact r9 (λz=>det P.m (B6 z j a)) (mi (T.M P) k)
  . by_cases e:k=j
    . subst e;rw[j1 d,j2 rfl,O1,g n c a]
      congr 1
      rw[RV f c (λz=>b z.symm) (T.M P) a (P.A (T.B k))]
      congr 1
      exact r9 (λz=>det P.m (B6 z n a)) (mi (T.M P) k)
    rw[j1 d,j1 e];rw[qL o c d λp _=>by rw[X5 _ _ _ d,X5 _ _ _ e,aJ];rfl];simp
 have r:(sm P.m λk=>if k=n then dot P.m (T.inv n) x*(s*dot P.m (T.inv j) a)else 0)=dot P.m (T.inv n) x*(s*dot P.m (T.inv j) a):=by rw[R6 c (λi _ h=>by rw[j1 h]),j2 rfl]
 have q:(sm P.m λk=>if k=j then dot P.m (T.inv j) x*(-(s*dot P.m (T.inv n) a))else 0)=dot P.m (T.inv j) x*(-(s*dot P.m (T.inv n) a)):=by rw[R6 f (λi _ h=>by rw[j1 h]),j2 rfl]
 rw[iz,r,q]at t;grind
def Tb.m6(P:Pb)(T:Tb)(a r:Nat):Int:=dot P.m (T.inv r) (P.A a)
def Tb.rest(P:Pb)(T:Tb)(t a:Nat):Int:=P.c t a*T.size-dot P.m (T.pr t) (P.A a)
structure DG(P:Pb)(T:Tb)(a l:Nat)(g:Int)(T':Tb):Prop where
 b:∀k,k<P.m->T'.B k=if k=l then a else T.B k
 size:T'.size=g*T.m6 P a l
 il:∀q,q<P.m->T'.inv l q=g*T.inv l q
 ir:∀r q,r<P.m->q<P.m->r≠l->T.size*T'.inv r q=T.inv r q*(g*T.m6 P a l)-g*T.m6 P a r*T.inv l q
 pr:∀t q,q<P.m->T.size*T'.pr t q=T.pr t q*(g*T.m6 P a l)+g*T.rest P t a*T.inv l q
def N3.exact(L:N3 P T){l:Nat}(c:l<P.m)(g:Int):∀r q,r<P.m->q<P.m->r≠l->∃z,T.size*z=T.inv r q*(g*T.m6 P n l)-g*T.m6 P n r*T.inv l q:=λr q d hq b=>by obtain⟨s,h,i,f⟩:=L.sg;have e:=L.ratio h f d c b (P.A n) (unit q);rw[qJ _ hq,qJ _ hq]at e;refine⟨g*(s*det P.m (B6 (B6 (T.M P) l (P.A n)) r (unit q))),?_⟩;delta Tb.m6;grind
def ue(f:Nat->Int)(h:n<m)(g:Nat->Int):(sm m λk=>if k=n then g k else f k)=g n+(sm m f-f n):=by
 rw[wA _ h,j2 rfl,wA f h];have:(sm m λi=>if i=n then 0 else if i=n then g i else f i)=sm m λi=>if i=n then 0 else f i:=o7 λi _=>by simp_all
 lia
def wL(L:N3 P T)(t:Nat)(x:Nat->Int):dot P.m (T.pr t) x=sm P.m λk=>P.c t (T.B k)*dot P.m (T.inv k) x:=by
 delta dot;have:(sm P.m λr=>T.pr t r*x r)=sm P.m λr=>sm P.m λk=>P.c t (T.B k)*(T.inv k r*x r):=o7 λr a=>by rw[L.pr t r a,<-Gu];exact o7 λk _=>by rw[L9]
 rw[this,oW];exact o7 λk _=>E8 _ _ _
def Dj(L:N3 P T)(d:j<P.m)(b:Nat->Nat->Int)(il:∀m,m<P.m->b j m=p*T.inv j m)(h:∀r m,r<P.m->m<P.m->r≠j->T.size*b r m=T.inv r m*(p*T.m6 P n j)-p*T.m6 P n r*T.inv j m)(t:Nat)(hq:m<P.m):
  T.size*(sm P.m λk=>P.c t (if k=j then n else T.B k)*b k m)=T.pr t m*(p*T.m6 P n j)+p*T.rest P t n*T.inv j m:=by
 have e:(T.size*sm P.m λk=>P.c t (if k=j then n else T.B k)*b k m)=sm P.m λk=>if k=j then T.size*(P.c t n*(p*T.inv j m))else(p*T.m6 P n j)*(P.c t (T.B k)*T.inv k m)-(p*T.inv j m)*(P.c t (T.B k)*T.m6 P n k):=by
  rw[<-E8];refine o7 λk f=>?_;by_cases c:k=j;subst c;rw[j2 rfl,j2 rfl,il m hq];rw[j1 c,j1 c];grind
 rw[e,ue _ d,iy,E8,E8,<-L.pr t m hq];have:(sm P.m λk=>P.c t (T.B k)*T.m6 P n k)=dot P.m (T.pr t) (P.A n):=(wL L t (P.A n)).symm;delta Tb.rest;grind
def N3.ZT(L:N3 P T)(c:j<P.m)(g:Int)(t:Nat)(hq:m<P.m):∃z,T.size*z=T.pr t m*(g*T.m6 P n j)+g*T.rest P t n*T.inv j m:=by
 have:∃b:Nat->Nat->Int,(∀m,m<P.m->b j m=g*T.inv j m)/\∀r m,r<P.m->m<P.m->r≠j->T.size*b r m=T.inv r m*(g*T.m6 P n j)-g*T.m6 P n r*T.inv j m:=by
  refine⟨λr m=>if r=j then g*T.inv j m else(T.inv r m*(g*T.m6 P n j)-g*T.m6 P n r*T.inv j m)/T.size,λm _=>by simp,λr m e hq h=>?_⟩;simp only[j1 h];obtain⟨z,f⟩:=L.exact c g r m e hq h;rw[<-f,iT _ (by have:=L.pos;exact E6)]
 obtain⟨b,i,d⟩:=this;exact⟨_,Dj L c b i d t hq⟩
def fj(h:0<p)(e:p*x=p*s):x=s:=yE E6 e
def N3.turn(L:N3 P T)(N:n<P.n)(F:∀k,k<P.m->T.B k≠n)(u:j<P.m)(v:p=1\/p = -1)(G:0<p*T.m6 P n j)(Uff:DG P T n j p b):N3 P b:=by
 obtain⟨s,a,Q,C⟩:=L.sg;have H:∀r x,det P.m (B6 (b.M P) r x)=det P.m (B6 (B6 (T.M P) j (P.A n)) r x):=λr x=>U5 λc l z _=>by
  delta B6 Tb.M;by_cases i:c=r;rw[j2 i,j2 i];rw[j1 i,j1 i,Uff.b c z];by_cases f:c=j;rw[j2 f,j2 f];rw[j1 f,j1 f]
 have O:det P.m (b.M P)=det P.m (B6 (T.M P) j (P.A n)):=U5 λc l z _=>by
  delta B6 Tb.M;rw[Uff.b c z];by_cases f:c=j;rw[j2 f,j2 f];rw[j1 f,j1 f]
 have y:=L.pos;refine⟨λk d=>?_,λk D d h e=>?_,⟨s*p,?_,?_,λr w x=>?_⟩,by rw[Uff.size];exact G,λl q o hq=>?_,λt q hq=>?_⟩;rw[Uff.b k d];split;exact N;exact L.bn k d;rw[Uff.b k d,Uff.b D h]at e;split at e;rename_i i;split at e;rename_i f;rw[i,f];exact absurd e.symm (F D h);split at e;exact absurd e (F k d);exact L.inj k D d h e
 . rcases a with a|a<;>rcases v with v|v<;>rw[a,v]<;>simp
 rw[Uff.size,O,<-C j u (P.A n)];delta Tb.m6;grind
 . rw[H];by_cases c:r=j
   . subst c;rw[JX,<-C r w x];have:dot P.m (b.inv r) x=p*dot P.m (T.inv r) x:=by rw[<-Hz];exact kC (λq hq=>Uff.il q hq) λ_ _=>rfl
     grind
   . have:=L.ratio a C w u c (P.A n) x;refine fj y ?_;have K:T.size*dot P.m (b.inv r) x=dot P.m (T.inv r) x*(p*T.m6 P n j)-p*T.m6 P n r*dot P.m (T.inv j) x:=by
      rw[<-Hz];have:dot P.m (λq=>T.size*b.inv r q) x=sm P.m λq=>(p*T.m6 P n j)*(T.inv r q*x q)-(p*T.m6 P n r)*(T.inv j q*x q):=o7 λq hq=>by simp only;rw[Uff.ir r q w hq c];grind
      rw[this,iy,E8,E8];delta dot;rw[F1 (p*T.m6 P n j)]
     have E:T.size*(s*p*dot P.m (b.inv r) x)=s*p*(T.size*dot P.m (b.inv r) x):=by grind
     rw[E,K];delta Tb.m6;grind
 . refine fj y ?_;have I:(T.size*sm P.m λk=>b.inv k q*P.A (b.B k) l)=sm P.m λk=>if k=j then T.size*(p*T.inv j q*P.A n l)else(p*T.m6 P n j)*(T.inv k q*P.A (T.B k) l)-(p*T.inv j q)*(T.m6 P n k*P.A (T.B k) l):=by
    rw[<-E8];refine o7 λk d=>?_;rw[Uff.b k d];by_cases c:k=j;subst c;rw[j2 rfl,j2 rfl,Uff.il q hq];rw[j1 c,j1 c];have:=Uff.ir k q d hq c;grind
   have E:(sm P.m λk=>T.m6 P n k*P.A (T.B k) l)=T.size*P.A n l:=(L.by (P.A n) o)
   rw[I,ue _ u,iy,E8,E8,E,L.span l q o hq,Uff.size];split<;>grind
 . refine fj y ?_;rw[Uff.pr t q hq,<-Dj L u b.inv Uff.il Uff.ir t hq]
   congr 1
   exact o7 λk d=>by rw[Uff.b k d]
end
def uv(P:Pb)(j:Nat):Int:=(P.u j).getD 0
def Tb.am(P:Pb)(T:Tb)(k:Nat):Int:=dot P.m (T.inv k) T.rt
def fsum(P:Pb)(T:Tb)(f:Nat->Int):Int:=sm P.n λj=>if T.full j=Uf then uv P j*f j else 0
def Tb.sg(T:Tb)(a:Nat):Int:=if T.full a=Uf then -1 else 1
def qz(T:Tb)(a:Nat):(T.full a=Uf/\T.sg a = -1)\/(T.full a=U'/\T.sg a=1):=by delta Tb.sg;simp
structure Ok(P:Pb)(T:Tb):Prop where
 C7:N3 P T
 rt:∀p,p<P.m->T.rt p=P.b p-fsum P T λj=>P.A j p
 fu:∀j,j<P.n->T.full j=Uf->P.u j≠J/\∀k,k<P.m->T.B k≠j
 lo:∀k,k<P.m->0<=T.am P k
 hi:∀k v,k<P.m->P.u (T.B k)=U v->T.am P k<=v*T.size
def om{T':Tb}(T:n<c.n)(h:∀j,j<c.n->T'.full j=if j=n then !b.full n else b.full j)(f:Nat->Int):fsum c T' f=fsum c b f+b.sg n*(uv c n*f n):=by
 delta fsum;rw[wA _ T,wA (λj=>if b.full j=Uf then uv c j*f j else 0) T,h n T,j2 rfl]
 have:(sm c.n λi=>if i=n then 0 else if T'.full i=Uf then uv c i*f i else 0)=sm c.n λi=>if i=n then 0 else if b.full i=Uf then uv c i*f i else 0:=o7 λi g=>by
  by_cases P:i=n;rw[j2 P,j2 P];rw[j1 P,j1 P,h i g,j1 P]
 rcases qz b n with ⟨d,e⟩|⟨d,e⟩<;>rw[d,e]<;>simp<;>lia
def oj{T:Tb}(h:∀j,j<c.n->b.full j=T.full j)(f:Nat->Int):fsum c b f=fsum c T f:=o7 λj a=>by rw[h j a]
section
variable{P:Pb}{T T':Tb}
def N3.Ig(L:N3 P T)(a:n<P.m)(t:Nat):T.rest P t (T.B n)=0:=by
 delta Tb.rest;rw[wL L,R6 a λi b h=>by rw[L.left b a,j1 h,Q9],L.left a a,j2 rfl];simp[*]
def N3.K5(L:N3 P T)(h:∀p,p<P.m->s*T.rt p=sm P.m λn=>w n*P.A (T.B n) p)(a:n<P.m):s*T.am P n=T.size*w n:=by
 delta Tb.am;rw[<-vV];have e:dot P.m (T.inv n) (λr=>s*T.rt r)=dot P.m (T.inv n) λr=>sm P.m λi=>w i*P.A (T.B i) r:=kC (λ_ _=>rfl) λr c=>h r c;rw[e,zW,R6 a λi b h=>by rw[L.left a b,j1 (λz=>h z.symm),Q9],L.left a a,j2 rfl,F1]
def N3.Pt(L:N3 P T)(a:n<P.m):(sm P.m λk=>T.am P k*P.A (T.B k) n)=T.size*T.rt n:=L.by T.rt a
structure sJ(P:Pb)(T:Tb)(a:Nat)(top bot:Int):Prop where
 nn:0<=top
 pb:0<bot
 own:∀v,P.u a=U v->top<=v*bot
 dn:∀k,k<P.m->0<T.sg a*T.m6 P a k->top*(T.sg a*T.m6 P a k)<=T.am P k*bot
 up:∀k v,k<P.m->T.sg a*T.m6 P a k<0->P.u (T.B k)=U v->top*(-(T.sg a*T.m6 P a k))<=(v*T.size-T.am P k)*bot
structure JL(P:Pb)(T:Tb)(a:Nat)(T':Tb):Prop where
 b:∀k,k<P.m->T'.B k=T.B k
 size:T'.size=T.size
 inv:∀k q,k<P.m->q<P.m->T'.inv k q=T.inv k q
 pr:∀t q,q<P.m->T'.pr t q=T.pr t q
 full:∀j,j<P.n->T'.full j=if j=a then !T.full a else T.full j
 rt:∀p,p<P.m->T'.rt p=T.rt p-T.sg a*(uv P a*P.A a p)
def N3.same(L:N3 P T)(d:∀k,k<P.m->T'.B k=T.B k)(hs:T'.size=T.size)(f:∀k q,k<P.m->q<P.m->T'.inv k q=T.inv k q)(v:∀t q,q<P.m->T'.pr t q=T.pr t q):N3 P T':=by
 have j:∀c r,c<P.m->r<P.m->T'.M P c r=T.M P c r:=λc r g _=>by delta Tb.M;rw[d c g]
 obtain⟨s,n,o,u⟩:=L.sg;refine⟨λk a=>by rw[d k a];exact L.bn k a,λk l a i e=>L.inj k l a i (by rw[d k a,d l i]at e;exact e),⟨s,n,by rw[hs,o];exact(U5 j).symm,λr h x=>?_⟩,by rw[hs];exact L.pos,λp q b hq=>?_,λt q hq=>?_⟩
 . rw[kC (λq hq=>f r q h hq) (λ_ _=>rfl),u r h x]
   exact U5 λc p g b=>by
    delta B6;split;rfl;exact(j c p g b).symm
 . rw[hs,<-L.span p q b hq];exact o7 λk a=>by rw[f k q a hq,d k a]
 . rw[v t q hq,L.pr t q hq];exact o7 λk a=>by rw[f k q a hq,d k a]
def Ok.flip(K:Ok P T)(x:n<P.n)(t:∀k,k<P.m->T.B k≠n)(l:P.u n=U p)(S:sJ P T n p 1)(F:JL P T n T'):Ok P T'/\∀k,k<P.m->T'.am P k=T.am P k-T.sg n*p*T.m6 P n k:=by
 have h:uv P n=p:=by delta uv;rw[l];rfl
 have am:∀k,k<P.m->T'.am P k=T.am P k-T.sg n*p*T.m6 P n k:=λk d=>by
  delta Tb.am Tb.m6;have e:dot P.m (T'.inv k) T'.rt=dot P.m (T.inv k) λa=>T.rt a-(T.sg n*p)*P.A n a:=kC (λq hq=>F.inv k q d hq) λa f=>by rw[F.rt a f,h,L9]
  rw[e,Hx,vV]
 refine⟨⟨(K.C7.same F.b F.size F.inv F.pr),λa f=>?_,λj o i=>?_,λk d=>?_,λk w d g=>?_⟩,am⟩;rw[F.rt a f,K.rt a f,om x F.full];lia;rw[F.full j o]at i;by_cases c:j=n;subst c;exact⟨by rw[l];simp,λk d=>by rw[F.b k d];exact t k d⟩;rw[j1 c]at i;obtain⟨r,s⟩:=K.fu j o i;exact⟨r,λk d=>by rw[F.b k d];exact s k d⟩;rw[am k d];have:=K.lo k d;by_cases c:0<T.sg n*T.m6 P n k;have:=(S.dn k d) c;grind;have:=qV S.nn (Int.not_lt.1 k8);grind;rw[F.b k d]at g;rw[am k d,F.size];have:=K.hi k w d g;by_cases c:T.sg n*T.m6 P n k<0;have:=S.up k w d c g;grind;have:=gz S.nn (Int.not_lt.1 k8);grind
structure Move(P:Pb)(T:Tb)(a l:Nat)(g:Int)(tp:Bool)(T':Tb):Prop where
 tn:DG P T a l g T'
 full:∀j,j<P.n->T'.full j=if j=a then U' else if j=T.B l then tp else T.full j
 rt:∀p,p<P.m->T'.rt p=T.rt p+(if T.full a=Uf then uv P a*P.A a p else 0)-(if tp=Uf then uv P (T.B l)*P.A (T.B l) p else 0)
structure At(P:Pb)(T:Tb)(a l:Nat)(tp:Bool)(top bot:Int):Prop where
 dn:tp=U'->top=T.am P l/\bot=T.sg a*T.m6 P a l
 up:tp=Uf->top=uv P (T.B l)*T.size-T.am P l/\bot = -(T.sg a*T.m6 P a l)/\P.u (T.B l)≠J
noncomputable def mh(P:Pb)(T:Tb)(a l:Nat)(top bot:Int)(k:Nat):Int:=if k=l then T.size*(if T.full a=Uf then uv P a*bot-top else top)else T.am P k*bot-T.sg a*T.m6 P a k*top
def Ks(m:Nat)(x y:Int)(f g h:Nat->Int):(sm m λk=>(x*f k-y*g k)*h k)=x*(sm m λk=>f k*h k)-y*sm m λk=>g k*h k:=by
 rw[<-E8,<-E8,<-iy];exact o7 λk _=>by grind
def Ok.zj(K:Ok P T)(t:N3 P T')(b:j<P.m)(A:At P T n j Z s x)(M:Move P T n j p Z T'){k:Nat}(f:k<P.m):(x*T.size)*T'.am P k=T'.size*mh P T n j s x k:=by
 refine t.K5 (λg i=>?_) f
 have e:(sm P.m λk=>mh P T n j s x k*P.A (T'.B k) g)=sm P.m λk=>if k=j then T.size*(if T.full n=Uf then uv P n*x-s else s)*P.A n g else(x*T.am P k-(T.sg n*s)*T.m6 P n k)*P.A (T.B k) g:=o7 λk f=>by
  rw[M.tn.b k f];delta mh;by_cases c:k=j;rw[j2 c,j2 c,j2 c];rw[j1 c,j1 c,j1 c];grind
 have r:(sm P.m λk=>T.m6 P n k*P.A (T.B k) g)=T.size*P.A n g:=K.C7.by (P.A n) i
 rw[e,ue _ b,Ks,K.C7.Pt i,r,M.rt g i];have l:=A.dn;have h:=A.up;rcases qz T n with ⟨o,q⟩|⟨o,q⟩<;>rw[o]<;>rw[q]at l h ⊢ <;> cases Z
 obtain⟨d,a⟩:=l rfl;simp;grind;obtain⟨d,a,_⟩:=h rfl;simp;grind;obtain⟨d,a⟩:=l rfl;simp;grind;obtain⟨d,a,_⟩:=h rfl;simp;grind
def AD(h:0<x)(e:x*p<=x*s):p<=s:=yD e h
def Ok.move(K:Ok P T){a l:Nat}{g top bot:Int}{tp:Bool}(E:a<P.n)(H:∀k,k<P.m->T.B k≠a)(i:l<P.m)(N:g=1\/g = -1)(y:0<g*T.m6 P a l)(S:sJ P T a top bot)(A:At P T a l tp top bot)(M:Move P T a l g tp T'):Ok P T':=by
 have C:=K.C7.turn E H i N y M.tn;have O:=K.C7.pos;have:=C.pos;have D:=S.pb;have am:=λk d=>K.zj C i A M (k:=k) d;have s:=H l i;have F:=F0 D O;refine⟨C,λp y=>?_,λj o f=>?_,λk d=>?_,λk w d q=>?_⟩
 . -- rights
   rw[M.rt p y,K.rt p y];have L:∃t:Tb,(∀j,j<P.n->t.full j=if j=a then U' else T.full j)/\fsum P t (λj=>P.A j p)=fsum P T (λj=>P.A j p)-(if T.full a=Uf then uv P a*P.A a p else 0):=by
    refine⟨{T with full:=λj=>if j=a then U' else T.full j},λj _=>rfl,?_⟩;cases h:T.full a;rw[oj (T:=T) λj _=>?_];simp;show(if j=a then U' else T.full j)=T.full j;split;rename_i c;rw[c,h];rfl;rw[om E λj _=>?_];delta Tb.sg;rw[h];simp;rfl;show(if j=a then U' else T.full j)=if j=a then !T.full a else T.full j;rw[h];rfl
   obtain⟨t,x,W⟩:=L;have u:t.full (T.B l)=U':=by
    rw[x _ (K.C7.bn l i),j1 s];cases h:T.full (T.B l);rfl;exact absurd rfl ((K.fu _ (K.C7.bn l i) h).2 l i)
   have:fsum P T' (λj=>P.A j p)=fsum P t (λj=>P.A j p)+(if tp=Uf then uv P (T.B l)*P.A (T.B l) p else 0):=by
    cases tp
    . rw[oj (T:=t) λj o=>?_];simp;rw[M.full j o,x j o];by_cases c:j=a;rw[j2 c,j2 c];rw[j1 c,j1 c];split;rename_i e;rw[e];have:=u;rw[x _ (K.C7.bn l i),j1 s]at this;exact this.symm;rfl
    . rw[om (K.C7.bn l i) λj o=>?_];delta Tb.sg;rw[u];simp;rw[M.full j o,u];by_cases c:j=a;rw[j2 c,j1 (λz=>s (by rw[<-z];exact c)),x j o,j2 c];rw[j1 c];split;rfl;rw[x j o,j1 c]
   lia
 . rw[M.full j o]at f;by_cases c:j=a;rw[j2 c]at f;exact nT f;rw[j1 c]at f;by_cases e:j=T.B l;rw[j2 e]at f;refine⟨by rw[e];exact(A.up f).2.2,λk d=>?_⟩;rw[M.tn.b k d];split;exact λz=>c z.symm;rename_i R;rw[e];exact λz=>R (K.C7.inj k l d i z);rw[j1 e]at f;obtain⟨u,I⟩:=K.fu j o f;refine⟨u,λk d=>?_⟩;rw[M.tn.b k d];split;exact λz=>c z.symm;exact I k d
 . -- from Zb on
   have Q:0<=mh P T a l top bot k:=by
    delta mh;by_cases c:k=l
    . rw[j2 c];refine gz bx ?_;split
      . rename_i f;obtain⟨v,G⟩:=Option.ne_none_iff_exists'.mp (K.fu a E f).1;have:=S.own v G;have r:uv P a=v:=by delta uv;rw[G];rfl
        rw[r];simp[*]
      exact S.nn
    rw[j1 c];by_cases e:0<T.sg a*T.m6 P a k;have:=S.dn k d e;lia;have:=OA (Int.not_lt.1 k8) S.nn;have:0<=T.am P k*bot:=gz (K.lo k d) bx;lia
   have:0<=T'.size*mh P T a l top bot k:=gz bx Q;rw[<-(am k d)]at this;exact AD F (by rw[Q9];exact this)
 . have:=am k d;have V:mh P T a l top bot k<=w*(bot*T.size):=by
    rw[M.tn.b k d]at q;delta mh;by_cases c:k=l
    . rw[j2 c]at q ⊢;have:=S.nn;have r:uv P a=w:=by delta uv;rw[q];rfl
      have:(if T.full a=Uf then uv P a*bot-top else top)<=w*bot:=by
       split;rw[r];lia;exact(S.own w q)
      have:=fF this (bx:0<=T.size);lia
    rw[j1 c]at q ⊢;by_cases e:T.sg a*T.m6 P a k<0;have:=S.up k w d e q;grind;have:=gz (Int.not_lt.1 k8) S.nn;have:=lM (K.hi k w d q) (bx:0<=bot);lia
   have:T'.size*mh P T a l top bot k<=T'.size*(w*(bot*T.size)):=fF V bx;refine AD F ?_;lia
end
def Neg(w:Nat->Int):Prop:=w 0<0\/(w 0=0/\(w 1<0\/(w 1=0/\w 2<0)))
def Neg.mul(d:0<p)(h:Neg w):Neg λt=>p*w t:=by
 have m:∀x:Int,x<0->p*x<0:=λx c=>Int.mul_neg_of_pos_of_neg d c
 rcases h with h|⟨a,h|⟨b,h⟩⟩
 exact .inl (m _ h);exact .inr ⟨by simp[a],.inl (m _ h)⟩;exact .inr ⟨by simp[a],.inr ⟨by simp[b],m _ h⟩⟩
def Neg.congr{v:Nat->Int}(e:∀t,t<3->w t=v t)(h:Neg w):Neg v:=by unfold Neg at *;rw[e 0 f5,e 1 f5,e 2 f5]at h;exact h
def Neg.pd(d:0<p)(h:Neg λt=>p*w t):Neg w:=by
 have m:∀x:Int,p*x<0->x<0:=λx a=>Int.lt_of_not_ge λz=>by
  have:=gz bx z;lia
 have z:∀x:Int,p*x=0->x=0:=λx a=>(Int.mul_eq_zero.mp a).resolve_left E6
 rcases h with h|⟨b,h|⟨c,h⟩⟩
 exact .inl (m _ h);exact .inr ⟨z _ b,.inl (m _ h)⟩;exact .inr ⟨z _ b,.inr ⟨z _ c,m _ h⟩⟩
def Neg.add{v:Nat->Int}(h:Neg w)(k:Neg v\/∀t,t<3->v t=0):Neg λt=>w t+v t:=by
 unfold Neg at *;rcases k with k|k
 lia;have:=k 0 f5;have:=k 1 f5;have:=k 2 f5;simp[*]
def hP(h:∀t,t<3->w t=0):¬Neg w:=by delta Neg;simp[*]
def LI(h:¬Neg w)(k:¬Neg f):¬Neg λt=>w t+f t:=by
 unfold Neg at *
 lia
def Ct(a:0<=p)(h:¬Neg w):¬Neg λt=>p*w t:=by
 rcases EL a with a|a
 exact λz=>h (z.pd a);refine hP λt _=>?_;rw[<-a,bE]
def wX(a:0<=p)(h:Neg w):¬Neg λt=>-(p*w t):=by
 rcases EL a with a|a
 . have:=h.mul a;unfold Neg at *
   lia
 refine hP λt _=>?_;rw[<-a,bE];rfl
theorem Tv{f:Nat->Nat->Int}:∀m,(∀r,r<m->¬Neg (f r))->¬Neg λt=>sm m λr=>f r t
 | 0,_=>hP λt _=>rfl
 |m+1,h=>LI (Tv m λr a=>h r cO) (h m o9)
section
variable{P:Pb}{T T':Tb}
noncomputable def Tb.obj(P:Pb)(T:Tb)(t:Nat):Int:=T.size*fsum P T (P.c t)+sm P.m λk=>T.am P k*P.c t (T.B k)
def nZ(L:N3 P T)(a t:Nat):(sm P.m λk=>T.m6 P a k*P.c t (T.B k))=P.c t a*T.size-T.rest P t a:=by
 have:(sm P.m λk=>T.m6 P a k*P.c t (T.B k))=dot P.m (T.pr t) (P.A a):=by rw[wL L];exact o7 λk _=>F1 _ _
 delta Tb.rest;lia
def Ok.RG(K:Ok P T)(h:n<P.n)(g:P.u n=U p)(F:JL P T n T')(am:∀k,k<P.m->T'.am P k=T.am P k-T.sg n*p*T.m6 P n k)(t:Nat):T'.obj P t=T.obj P t+p*(T.sg n*T.rest P t n):=by
 have d:uv P n=p:=by delta uv;rw[g];rfl
 have e:(sm P.m λk=>T'.am P k*P.c t (T'.B k))=(sm P.m λk=>T.am P k*P.c t (T.B k))-(T.sg n*p)*sm P.m λk=>T.m6 P n k*P.c t (T.B k):=by
  rw[<-E8,<-iy];refine o7 λk f=>?_;rw[am k f,F.b k f];grind
 delta Tb.obj;rw[e,F.size,om h F.full,d,nZ K.C7];grind
def Mt(K:Ok P T)(r:n<P.n)(t:∀k,k<P.m->T.B k≠n)(l:j<P.m)(M:Move P T n j p Z T')(f:Nat->Int):fsum P T' f=fsum P T f-(if T.full n=Uf then uv P n*f n else 0)+(if Z=Uf then uv P (T.B j)*f (T.B j)else 0):=by
 have b:=t j l;have d:=K.C7.bn j l;have q:T.full (T.B j)=U':=by
  cases h:T.full (T.B j);rfl;exact absurd rfl ((K.fu _ d h).2 j l)
 delta fsum;have e:(sm P.n λa=>if T'.full a=Uf then uv P a*f a else 0)=sm P.n λa=>((if T.full a=Uf then uv P a*f a else 0)+(if a=n then -(if T.full n=Uf then uv P n*f n else 0)else 0))+(if a=T.B j then(if Z=Uf then uv P (T.B j)*f (T.B j)else 0)else 0):=o7 λa v=>by
  rw[M.full a v];by_cases c:a=n;have o:a≠T.B j:=λz=>b (by rw[<-z];exact c);simp;lia;by_cases o:a=T.B j;rw[o]at *;simp[b,q];simp[c,o]
 have s:(sm P.n λa=>if a=n then -(if T.full n=Uf then uv P n*f n else 0)else 0) = -(if T.full n=Uf then uv P n*f n else 0):=by rw[R6 r (λi _ h=>by rw[j1 h]),j2 rfl]
 have u:(sm P.n λa=>if a=T.B j then(if Z=Uf then uv P (T.B j)*f (T.B j)else 0)else 0)=(if Z=Uf then uv P (T.B j)*f (T.B j)else 0):=by rw[R6 d (λi _ h=>by rw[j1 h]),j2 rfl]
 rw[e,iz,iz,s,u];rfl
def Ok.Rk(K:Ok P T)(r:n<P.n)(g:∀k,k<P.m->T.B k≠n)(h:j<P.m)(u:N3 P T')(A:At P T n j Z s x)(M:Move P T n j p Z T')(t:Nat):(x*T.size)*T'.obj P t=T'.size*(x*T.obj P t+s*(T.sg n*T.rest P t n)):=by
 have q:((x*T.size)*sm P.m λk=>T'.am P k*P.c t (T'.B k))=T'.size*sm P.m λk=>if k=j then T.size*(if T.full n=Uf then uv P n*x-s else s)*P.c t n else(x*T.am P k-(T.sg n*s)*T.m6 P n k)*P.c t (T.B k):=by
  rw[<-E8,<-E8];refine o7 λk o=>?_;rw[<-L9,K.zj u h A M o,M.tn.b k o];delta mh;by_cases c:k=j;rw[j2 c,j2 c,j2 c,L9];rw[j1 c,j1 c,j1 c];grind
 rw[ue _ h,Ks,nZ K.C7]at q;delta Tb.obj;rw[cC,q,Mt K r g h M];have d:=A.dn;have f:=A.up;rcases qz T n with ⟨l,a⟩|⟨l,a⟩<;>rw[l]<;>rw[a]at d f ⊢ <;> cases Z
 obtain⟨e,i⟩:=d rfl;simp;grind;obtain⟨e,i,_⟩:=f rfl;simp;grind;obtain⟨e,i⟩:=d rfl;simp;grind;obtain⟨e,i,_⟩:=f rfl;simp;grind
def cmp(P:Pb)(T' T:Tb)(t:Nat):Int:=T'.obj P t*T.size-T.obj P t*T'.size
def sD{T2:Tb}(t:Nat):T'.size*cmp P T2 T t=T.size*cmp P T2 T' t+T2.size*cmp P T' T t:=by delta cmp;grind
def Gx(L:N3 P T)(e:N3 P T')(d:∀n,n<P.m->T'.B n=T.B n)(b:∀p,p<P.m->T'.rt p=T.rt p)(c:n<P.m):T.size*T'.am P n=T'.size*T.am P n:=by
 refine e.K5 (λp a=>?_) c
 rw[b p a,<-L.Pt a];exact o7 λi f=>by rw[d i f]
def Gw(K:Ok P T)(K':Ok P T')(b:∀j,j<P.n->T'.full j=T.full j)(a:n<P.m):T'.rt n=T.rt n:=by rw[K.rt n a,K'.rt n a,oj b]
def Pp(K:Ok P T)(K':Ok P T')(b:∀k,k<P.m->T'.B k=T.B k)(d:∀j,j<P.n->T'.full j=T.full j)(t:Nat):cmp P T' T t=0:=by
 have:(T.size*sm P.m λk=>T'.am P k*P.c t (T'.B k))=T'.size*sm P.m λk=>T.am P k*P.c t (T.B k):=by
  rw[<-E8,<-E8];refine o7 λk a=>?_;rw[<-L9,Gx K.C7 K'.C7 b (λp e=>Gw K K' d e) a,b k a,L9]
 delta cmp Tb.obj;rw[oj d];grind
structure N0(P:Pb)(T:Tb)(a:Nat):Prop where
 an:a<P.n
 u0:P.u a≠U 0
 neg:Neg λt=>T.sg a*T.rest P t a
def N0.nb(E:N0 P T a)(L:N3 P T):∀k,k<P.m->T.B k≠a:=λk b z=>by
 refine hP (λt _=>?_) E.neg;rw[<-z,L.Ig b,Q9]
inductive Step(P:Pb)(T:Tb)(a:Nat)(top:Int)(T':Tb):Prop
 |flip {v}:P.u a=U v->top=v->sJ P T a v 1->JL P T a T'->Step P T a top T'
 |move {l g tp bot}:l<P.m->(g=1\/g = -1)->0<g*T.m6 P a l->sJ P T a top bot->At P T a l tp top bot->Move P T a l g tp T' ->
   (top=0->∀k,k<P.m->(0<T.sg a*T.m6 P a k/\T.am P k=0)\/(T.sg a*T.m6 P a k<0/\∃v,P.u (T.B k)=U v/\T.am P k=v*T.size)->T.B l<=T.B k)->Step P T a top T'
def Step.ok(S:Step P T a top T')(K:Ok P T)(E:N0 P T a):Ok P T':=by
 cases S with
 |flip d g b F=>exact(K.flip E.an (E.nb K.C7) d b F).1
 |move c f e b A M _=>exact K.move E.an (E.nb K.C7) c f e b A M
theorem Step.nn(S:Step P T a top T'):0<=top:=by
 cases S with
 |flip e c b F=>rw[c];exact b.nn
 |move d g f b A M _=>exact b.nn
set_option tactic.hygienic true in
def Step.a1h(S:Step P T a top T')(K:Ok P T)(E:N0 P T a):(0<top->Neg (cmp P T' T))/\(top=0->∀t,cmp P T' T t=0):=by
 have e:∃q:Int,(0<top->0<q)/\(top=0->q=0)/\∃d:Int,0<d/\∀t,d*cmp P T' T t=q*(T.sg a*T.rest P t a):=by
  cases S with
  |flip k m b F =>
   rename_i v;refine⟨top*T.size,λh=>F0 h K.C7.pos,λh=>by rw[h,bE],1,by decide,λt=>?_⟩;delta cmp;rw[(K.RG E.an k F (K.flip E.an (E.nb K.C7) k b F).2) t,F.size,m];grind
  | @move l g s c j r o b A M u =>
   have f:=K.move E.an (E.nb K.C7) j r o b A M;refine⟨T'.size*top,λh=>F0 f.C7.pos h,λh=>by rw[h,Q9],c,b.pb,λt=>?_⟩;have:=K.Rk E.an (E.nb K.C7) j f.C7 A M t;delta cmp;grind
 obtain⟨q,p,q2,d,n,i⟩:=e;constructor;exact λh=>Neg.pd n ((E.neg.mul (p h)).congr λt _=>(i t).symm);intro h t;have:=i t;rw[q2 h,bE]at this;exact(Int.mul_eq_zero.mp this).resolve_left E6
end
def Yu:∀(N:Nat) (f:Nat->Nat),(∀i,i<=N->f i<N)->∃p q,p<q/\q<=N/\f p=f q:=by
 intro l_;induction l_ with
 |zero =>
  intro f h;exact absurd (h 0 y4) (Eo _)
 |succ N ih_ =>
  intro f h;by_cases c:∃p,p<=N/\f p=f (N+1);obtain⟨p,d,b⟩:=c;exact⟨p,N+1,yj k8,X1 _,b⟩
  . have a:=λp j z=>c ⟨p,j,z⟩
    obtain⟨p,q,d,b,e⟩:=ih_ (λi=>if f i=N then f (N+1)else f i) λi g=>by have:=h i (tL k8);have:=h (N+1) y4;have:=a i g;split<;>lia
    refine⟨p,q,d,tL k8,?_⟩;have:=a p (p5 cw k8);have:=a q b;split at e<;>split at e<;>lia
def enc(b:Nat)(f:Nat->Nat):Nat->Nat
 | 0=>0
 |k+1=>enc b f k*b+f k
def xC:∀k,(∀i,i<k->Y i<n)->enc n Y k<n ^ k:=by
 intro l_;induction l_ with
 |zero =>
  intro _;simp[enc]
 |succ k ih_ =>
  intro h;have:=h k o9;rw[enc,DX];have:(enc n Y k+1)*n<=n ^ k*n:=nK _ (ih_ λi a=>h i cO);lia
def Hw:∀k,(∀i,i<k->Y i<n)->(∀i,i<k->X i<n)->enc n Y k=enc n X k->∀i,i<k->Y i=X i:=by
 intro l_;induction l_ with
 |zero =>
  intro _ _ _ i a;exact lI
 |succ k ih_ =>
  intro hf hg e i a;rw[enc,enc]at e;have j:=hf k o9;have d:Y k=X k:=by have:=r9 (· % n) e;rw[Nat.add_mod,Nk,pU,Nat.mod_mod,Nj j,Nat.add_mod,Nk,pU,Nat.mod_mod,Nj (hg k o9)]at this;exact this
  by_cases c:i=k;rw[c];exact d
  . refine ih_ (λi a=>hf i cO) (λi a=>hg i cO) ?_ i (nG (qe k8) k8)
    have h:0<n:=by lia
    exact Nat.eq_of_mul_eq_mul_right h (by simp_all)
structure Chain(P:Pb) where
 T:Nat->Tb
 a:Nat->Nat
 top:Nat->Int
 cf:Nat->Bool
structure Chain.Ok{P:Pb}(C:Chain P):Prop where
 ok:∀i,Sx.Ok P (C.T i)
 en:∀i,N0 P (C.T i) (C.a i)
 cr:∀i,C.cf i=Uf->∀j,j<C.a i->¬N0 P (C.T i) j
 st:∀i,Step P (C.T i) (C.a i) (C.top i) (C.T (i+1))
 cn:∀i,C.cf (i+1)=Uf↔C.top i=0
def iO(P:Pb)(T:Tb)(j:Nat):Prop:=∃k,k<P.m/\T.B k=j
structure Bd(P:Pb)(T:Tb)(j:Nat)(τ:Bool):Prop where
 b:∀k,k<P.m->T.B k=j->T.am P k=if τ=Uf then uv P j*T.size else 0
 n:¬iO P T j->T.full j=τ
def good(P:Pb)(j:Nat)(τ:Bool):Prop:=uv P j≠0\/(P.u j=J/\τ=U')
section
variable{T:Tb}
def Bd.move{P:Pb}{T':Tb}{a:Nat}{l:Nat}{j:Nat}{g:Int}{bot:Int}{tp:Bool}{τ:Bool}(K:Ok P T)(K':Ok P T')(s:j<P.n)(t:a<P.n)(r:∀k,k<P.m->T.B k≠a)(o:l<P.m)(i:0<bot)(A:At P T a l tp 0 bot)(M:Move P T a l g tp T')(G:good P j τ)(B:Bd P T j τ):Bd P T' j τ:=by
 have p:=F0 i K.C7.pos;constructor
 . intro k d e;have am:=K.zj K'.C7 o A M d;rw[M.tn.b k d]at e;unfold mh at am;by_cases c:k=l
   . rw[j2 c]at e am;subst e;have nb:¬iO P T a:=λ⟨k,d,z⟩=>r k d z
     have:=B.n nb;refine fj p ?_;cases τ<;>simp<;>grind
   . rw[j1 c]at e am;have:=B.b k d e;refine fj p ?_;cases τ<;>simp<;>grind
 . intro nb;rw[M.full j s];by_cases c:j=a;exact absurd ⟨l,o,by rw[M.tn.b l o,j2 rfl,c]⟩ nb
   . rw[j1 c];by_cases h:j=T.B l
     . rw[j2 h];have f:=B.b l o h.symm;cases tp with
       |false =>
        have e:=(A.dn rfl).1;cases τ with
        |false=>rfl
        |true =>
         rw[<-e,j2 rfl]at f;rcases G with G|G
         have:=Int.mul_eq_zero.mp f.symm;lia;cases G.2
       |true =>
        obtain⟨e,_,q⟩:=A.up rfl;cases τ with
        |true=>rfl
        |false =>
         rw[f]at e;rcases G with G|G
         rw[<-h,j1 f5,sV]at e;have:=Int.mul_eq_zero.mp e.symm;lia;rw[<-h]at q;exact absurd G.1 q
     rw[j1 h];refine B.n λ⟨k,d,e⟩=>nb ⟨k,d,?_⟩;rw[M.tn.b k d,j1 λz=>h (by rw[<-e,z]),e]
def Bd.same(K:Ok c T)(K':Ok c b)(f:j<c.n)(P:∀k,k<c.m->b.B k=T.B k)(d:∀j,j<c.n->b.full j=T.full j)(B:Bd c T j Z):Bd c b j Z:=by
 constructor
 . intro k a e;rw[P k a]at e;have g:=Gx K.C7 K'.C7 P (λp h=>Gw K K' d h) a
   rw[B.b k a e]at g;refine fj K.C7.pos ?_;cases Z<;>simp<;>grind
 intro nb;rw[d j f];exact B.n λ⟨k,a,e⟩=>nb ⟨k,a,by rw[P k a];exact e⟩
def Pu(L:N3 c T)(a:N3 c b)(s t:Nat):T.size*b.rest c t s=b.size*T.rest c t s+sm c.m λr=>-(b.m6 c s r*T.rest c t (b.B r)):=by
 have d:(sm c.m λr=>b.m6 c s r*dot c.m (T.pr t) (c.A (b.B r)))=b.size*dot c.m (T.pr t) (c.A s):=by rw[<-zW,<-vV];exact kC (λ_ _=>rfl) λp e=>a.by (c.A s) e
 have P:(sm c.m λr=>-(b.m6 c s r*T.rest c t (b.B r)))=(sm c.m λr=>b.m6 c s r*dot c.m (T.pr t) (c.A (b.B r)))-T.size*sm c.m λr=>b.m6 c s r*c.c t (b.B r):=by
  rw[<-E8,<-iy];refine o7 λr _=>?_;delta Tb.rest;grind
 rw[P,d,(nZ a s t)];delta Tb.rest;grind
end
structure Zero(P:Pb)(T:Tb)(a:Nat)(T':Tb)(l:Nat)(tp:Bool)(bot:Int):Prop where
 hl:l<P.m
 pb:0<bot
 at_:At P T a l tp 0 bot
 mv:∃g,Move P T a l g tp T'
 Xp:∀k,k<P.m->(0<T.sg a*T.m6 P a k/\T.am P k=0)\/(T.sg a*T.m6 P a k<0/\∃v,P.u (T.B k)=U v/\T.am P k=v*T.size)->T.B l<=T.B k
def Step.zero{T':Tb}(S:Step c b n 0 T')(E:N0 c b n):∃l tp bot,Zero c b n T' l tp bot:=by
 cases S with
 |flip f P T F=>exact absurd rfl (by have:=E.u0;rw[f,<-P]at this;exact this)
 | @move l g tp bot d i h T A M e=>exact⟨l,tp,bot,d,T.pb,A,⟨g,M⟩,e rfl⟩
section
variable{T:Tb}
def Zero.a1q(a:Zero c T n b m Z p)(h:iO c b j)(nb:¬iO c T j):j=n:=by
 obtain⟨g,M⟩:=a.mv;obtain⟨k,d,e⟩:=h;rw[M.tn.b k d]at e;by_cases P:k=m;rw[j2 P]at e;exact e.symm;rw[j1 P]at e;exact absurd ⟨k,d,e⟩ nb
def Zero.a0e(a:Zero c T n b m Z p)(h:iO c T j)(nb:¬iO c b j):j=T.B m:=by
 obtain⟨g,M⟩:=a.mv;obtain⟨k,d,e⟩:=h;by_cases P:k=m;rw[<-P];exact e.symm;exact absurd ⟨k,d,by rw[M.tn.b k d,j1 P];exact e⟩ nb
end
def jy{Q:Nat->Prop}(a:Q n)(hs:∀i,n<=i->i<j->Q i->Q (i+1)):∀i,n<=i->i<=j->Q i:=by
 intro i d hq;induction i with
 |zero =>
  have:n=0:=by lia
  rw[<-this];exact a
 |succ i b =>
  by_cases c:n=i+1;rw[<-c];exact a;exact hs i j7 k8 (b j7 cw)
def Ra{C:Chain c}(H:C.Ok){p:Nat}(hpq:p<n)(hz:∀i,p<=i->i<n->C.top i=0)(hc:∀i,p<=i->i<n->C.cf i=Uf)(hb:∀k,k<c.m->(C.T n).B k=(C.T p).B k)(hf:∀j,j<c.n->(C.T n).full j=(C.T p).full j):False:=by
 have zs:=λi y A=>by have s:=H.st i;rw[hz i y A]at s;exact s.zero (H.en i)
 have Y:∀i,¬iO c (C.T i) (C.a i):=λi ⟨k,I,e⟩=>(H.en i).nb (H.ok i).C7 k I e;have bpq:∀j,iO c (C.T n) j↔iO c (C.T p) j:=λj=>⟨λ⟨k,I,e⟩=>⟨k,I,by rw[<-hb k I];exact e⟩,λ⟨k,I,e⟩=>⟨k,I,by rw[hb k I];exact e⟩⟩
 have fick:∀j i k,p<=i->i<=n->p<=k->k<=n->¬iO c (C.T i) j->iO c (C.T k) j->∃V,p<=V/\V<n/\C.a V=j:=λj i k F L hk1 hk2 nb bk=>by
  apply tS;intro no;have R:∀x,p<=x->x<n->¬iO c (C.T x) j->¬iO c (C.T (x+1)) j:=λx y A E h4=>by obtain⟨l,N,bot,Z⟩:=zs x y A;exact no ⟨x,y,A,(Z.a1q h4 E).symm⟩
  exact jy (λz=>(jy nb (λx y A E=>R x j7 A E) n L y4) ((bpq j).mpr z)) (λx y A E=>R x y A E) k hk1 hk2 bk
 have mx:∃i1,p<=i1/\i1<n/\∀i,p<=i->i<n->C.a i<=C.a i1:=by
  have:∀d,p+d<n->∃i1,p<=i1/\i1<=p+d/\∀i,p<=i->i<=p+d->C.a i<=C.a i1:=by
   intro d;induction d with
   |zero =>
    intro _;refine⟨p,X1 _,by simp[*],λi y A=>?_⟩
    have:i=p:=by lia
    rw[this];exact X1 _
   |succ d ih =>
    intro hd;obtain⟨i1,y,A,E⟩:=ih cw;by_cases P:C.a (p+(d+1))<=C.a i1;refine⟨i1,y,tL k8,λi K O=>?_⟩;by_cases e:i=p+(d+1);rw[e];exact P;exact E i K j7;refine⟨p+(d+1),by simp[*],X1 _,λi K O=>?_⟩;by_cases e:i=p+(d+1);rw[e];exact X1 _;have:=E i K j7;lia
  obtain⟨i1,y,A,E⟩:=this (n-1-p) jM;exact⟨i1,y,by omega,λi K O=>E i K jM⟩
 obtain⟨i1,F,S,W⟩:=mx;have lv:∃o l N bot,p<=o/\o<n/\Zero c (C.T o) (C.a o) (C.T (o+1)) l N bot/\(C.T o).B l=C.a i1:=by
  apply tS;intro no;have R:=λx y A E=>by apply tS;intro h4;obtain⟨l,N,bot,Z⟩:=zs x y A;exact no ⟨x,l,N,bot,y,A,Z,(Z.a0e E h4).symm⟩
  obtain⟨l,N,bot,Z⟩:=zs i1 F S;obtain⟨g,M⟩:=Z.mv;have b1:iO c (C.T (i1+1)) (C.a i1):=⟨l,Z.hl,by rw[M.tn.b l Z.hl,j2 rfl]⟩;exact Y i1 (jy (Q:=λx=>iO c (C.T x) (C.a i1)) ((bpq _).mp (jy (Q:=λx=>iO c (C.T x) (C.a i1)) b1 (λx y A E=>R x (bF (kS k8 k8)) A E) n k8 y4)) (λx y A E=>R x y A E) i1 F cw)
 obtain⟨o,l,N,bot,L,X,Z,hl⟩:=lv;have bd:∀i,p<=i->i<n->good c (C.a i) ((C.T i).full (C.a i))/\∀x,p<=x->x<=n->Bd c (C.T x) (C.a i) ((C.T i).full (C.a i)):=λi y A=>by
  have hn:=(H.en i).an;have G:good c (C.a i) ((C.T i).full (C.a i)):=by
   cases e:c.u (C.a i)with
   |none =>
    refine .inr ⟨e,?_⟩;cases f:(C.T i).full (C.a i);rfl;exact absurd e ((H.ok i).fu _ hn f).1
   |some v =>
    refine .inl λz=>(H.en i).u0 ?_;unfold uv at z;rw[e]at z;have z':v=0:=z;rw[e,z']
  have R:∀x,p<=x->x<n->Bd c (C.T x) (C.a i) ((C.T i).full (C.a i))->Bd c (C.T (x+1)) (C.a i) ((C.T i).full (C.a i)):=λx K O B=>by obtain⟨l,N,bot,Z⟩:=zs x K O;obtain⟨g,M⟩:=Z.mv;exact B.move (H.ok x) (H.ok (x+1)) hn (H.en x).an ((H.en x).nb (H.ok x).C7) Z.hl Z.pb Z.at_ M G
  have B0:Bd c (C.T i) (C.a i) ((C.T i).full (C.a i)):=⟨λk I e=>absurd ⟨k,I,e⟩ (Y i),λ_=>rfl⟩;exact⟨G,jy ((jy B0 (λx K O g3=>R x (p5 k8 k8) O g3) n cw y4).same (H.ok n) (H.ok p) hn (λk I=>(hb k I).symm) λj hj=>(hf j hj).symm) R⟩
 have K1:=H.ok i1;have K2:=H.ok o;have tb2:iO c (C.T o) (C.a i1):=⟨l,Z.hl,hl⟩;have sne:C.a o≠C.a i1:=λz=>Y o (by rw[z];exact tb2)
 have nn1:=λi K O ne h=>by have:=W i K O;exact(H.cr i1 (hc i1 F S)) (C.a i) (nG k8 k8) ⟨(H.en i).an,(H.en i).u0,h⟩
 refine absurd (((H.en o).neg.mul K1.C7.pos).congr (v:=λt=>(C.T o).size*((C.T o).sg (C.a o)*(C.T i1).rest c t (C.a o))+sm c.m λr=>-(((C.T o).sg (C.a o)*(C.T o).m6 c (C.a o) r)*(C.T i1).rest c t ((C.T o).B r))) λt _=>?_) (LI (Ct (by have:=K2.C7.pos;exact bx) ?_) (Tv c.m λr hr=>?_))
 . have:=(Pu K1.C7 K2.C7 (C.a o)) t;have:(sm c.m λr=>-(((C.T o).sg (C.a o)*(C.T o).m6 c (C.a o) r)*(C.T i1).rest c t ((C.T o).B r)))=(C.T o).sg (C.a o)*sm c.m λr=>-((C.T o).m6 c (C.a o) r*(C.T i1).rest c t ((C.T o).B r)):=by
    rw[<-E8];refine o7 λr _=>?_;grind
   grind
 . -- the entering one
   by_cases P:iO c (C.T i1) (C.a o)
   . obtain⟨k,I,e⟩:=P;exact hP λt _=>by rw[<-e,K1.C7.Ig I,Q9]
   . have f2:=((bd o L X).2 i1 F cw).n P;have:(C.T o).sg (C.a o)=(C.T i1).sg (C.a o):=by delta Tb.sg;rw[f2]
     rw[this];exact nn1 o L X sne
 . -- the chosen ones
   by_cases P:iO c (C.T i1) ((C.T o).B r)
   . obtain⟨k,I,e⟩:=P;exact hP λt _=>by rw[<-e,K1.C7.Ig I,Q9];rfl
   . obtain⟨V,K,O,g3⟩:=fick ((C.T o).B r) i1 o F cw L cw P ⟨r,hr,rfl⟩;obtain⟨G,B⟩:=bd V K O;rw[g3]at G B;generalize hτ:(C.T V).full ((C.T o).B r)=τ at G B;have f1:=(B i1 F cw).n P;have am:=(B o L cw).b r hr rfl;by_cases ct:(C.T o).B r=C.a i1
     . -- the greatest
       have erl:=K2.C7.inj r l hr Z.hl (by rw[ct,hl])
       subst erl;have:=Z.pb;have dn:=Z.at_.dn;have R:=Z.at_.up;have etp:τ=N:=by
        cases N with
        |false =>
         cases τ with
         |false=>rfl
         |true =>
          have:=(dn rfl).1;rw[am,j2 rfl]at this;rcases G with G|G
          have:=Int.mul_eq_zero.mp this.symm;have:=K2.C7.pos;lia;cases G.2
        |true =>
         cases τ with
         |true=>rfl
         |false =>
          obtain⟨y,_,A⟩:=R rfl;rw[am]at y;rcases G with G|G
          rw[j1 f5,sV]at y;have:=Int.mul_eq_zero.mp y.symm;have:=K2.C7.pos;lia;exact absurd G.1 A
       have sg1:(C.T i1).sg ((C.T o).B r)=if N=Uf then -1 else 1:=by delta Tb.sg;rw[f1,etp]
       have ng:Neg λt=>(C.T i1).sg ((C.T o).B r)*(C.T i1).rest c t ((C.T o).B r):=by have:=(H.en i1).neg;rw[<-ct]at this;exact this
       rw[sg1]at ng;cases N with
       |false =>
        have:=wX (p:=(C.T o).sg (C.a o)*(C.T o).m6 c (C.a o) r) j7 ng;simp at this;exact this
       |true =>
        have:=wX (p:=-((C.T o).sg (C.a o)*(C.T o).m6 c (C.a o) r)) j7 ng;refine λz=>this (z.congr λt _=>?_);grind
     . have:(C.T o).B r<C.a i1:=by
         have:=W V K O;lia
       have hn:=nn1 V K O (by rw[g3];exact ct)
       have Xp:=Z.Xp r hr;cases τ with
       |false =>
        have:(C.T i1).sg ((C.T o).B r)=1:=by delta Tb.sg;rw[f1];rfl
        have:=Ct (p:=-((C.T o).sg (C.a o)*(C.T o).m6 c (C.a o) r)) j7 hn;refine λz=>this (z.congr λt _=>?_);grind
       |true =>
        have:(C.T i1).sg ((C.T o).B r) = -1:=by delta Tb.sg;rw[f1];rfl
        have:¬(C.T o).sg (C.a o)*(C.T o).m6 c (C.a o) r<0:=λz=>by
         obtain⟨v,hv⟩:=Option.ne_none_iff_exists'.mp ((K1.fu _ (K2.C7.bn r hr) f1).1);have euv:uv c ((C.T o).B r)=v:=by delta uv;rw[hv];rfl
         have:=Xp (.inr ⟨z,v,hv,by rw[am,j2 rfl,euv]⟩);lia
        have:=Ct (Int.not_lt.1 k8) hn;refine λz=>this (z.congr λt _=>?_);grind
def Rb{P:Pb}{C:Chain P}(H:C.Ok):False:=by
 have y:=λi k l=>(H.ok i).C7.bn k l
 let f:=λi j=>if (C.T i).full j=Uf then 1 else 0
 have o:∀i j,j<P.n->f i j<2:=λi j _=>by dsimp only[f];split<;>simp[*]
 let b:=λi=>(enc P.n (C.T i).B P.m*2 ^ P.n+enc 2 (f i) P.n)*2+(if C.cf i=Uf then 1 else 0)
 have l:∀i,b i<(P.n ^ P.m*2 ^ P.n)*2:=λi=>by have r:=xC P.m (y i);have u:=xC P.n (o i);have:(enc P.n (C.T i).B P.m+1)*2 ^ P.n<=P.n ^ P.m*2 ^ P.n:=nK _ r;dsimp only[b];split<;>lia
 obtain⟨p,q,x,_,e⟩:=Yu _ b λi _=>l i
 dsimp only[b]at e;have s:(enc P.n (C.T p).B P.m*2 ^ P.n+enc 2 (f p) P.n)=(enc P.n (C.T q).B P.m*2 ^ P.n+enc 2 (f q) P.n)/\(C.cf p=C.cf q):=by cases hp:C.cf p<;>cases hq:C.cf q<;>rw[hp,hq]at e<;>simp only[kT]at e<;>first|exact⟨by lia,rfl⟩|(exfalso;lia)
 obtain⟨s,Y⟩:=s;have R:0<2 ^ P.n:=Nat.two_pow_pos _;have G:enc P.n (C.T p).B P.m=enc P.n (C.T q).B P.m:=by have:=r9 (· / 2 ^ P.n) s;rw[sX,Nat.mul_add_div R,Ni (xC P.n (o p)),sX,Nat.mul_add_div R,Ni (xC P.n (o q))]at this;omega
 have V:enc 2 (f p) P.n=enc 2 (f q) P.n:=by rw[G]at s;simp_all
 have K:=λk l=>(Hw P.m (y p) (y q) G k l).symm
 have F:∀j,j<P.n->(C.T q).full j=(C.T p).full j:=λj hj=>by have:=Hw P.n (o p) (o q) V j hj;dsimp only[f]at this;cases r:(C.T p).full j<;>cases u:(C.T q).full j<;>rw[r,u]at this<;>simp at this<;>rfl
 have w:=λi=>(H.st i).a1h (H.ok i) (H.en i);have nn:=λi=>(H.st i).nn
 have le:∀d i,Neg (cmp P (C.T (i+d)) (C.T i))\/∀t,t<3->cmp P (C.T (i+d)) (C.T i) t=0:=by
  intro d;induction d with
  |zero=>intro i;exact .inr λt _=>by delta cmp;simp
  |succ d I =>
   intro i;have E:=λt=>sD (P:=P) (T:=C.T i) (T':=C.T (i+d)) (T2:=C.T (i+d+1)) t;have L:=(H.ok (i+d)).C7.pos;have S:=(H.ok (i+d+1)).C7.pos;by_cases c:0<C.top (i+d)
   . refine .inl (Neg.pd L (Neg.congr (λt _=>(E t).symm) (Neg.add (((w (i+d)).1 c).mul ((H.ok i).C7.pos)) ?_)))
     rcases I i with h|h
     exact .inl (h.mul S)
     . exact .inr λt g=>by rw[h t g,Q9]
   . have z:=(w (i+d)).2 (by have:=nn (i+d);lia)
     rcases I i with h|h
     refine .inl (Neg.pd L (Neg.congr (λt _=>?_) (h.mul S)));have:=E t;rw[z t,Q9,O1]at this;exact this.symm;refine .inr λt g=>?_;have:=E t;rw[z t,h t g,Q9,Q9,O1]at this;exact(Int.mul_eq_zero.mp this).resolve_left E6
 have a:∀i,p<=i->i<q->C.top i=0:=λi r u=>by
  apply tS;intro c;have X:0<C.top i:=by have:=nn i;lia
  have O:=le (i-p) p;rw[show p+(i-p)=i from by simp[*]]at O;have N:=le (q-(i+1)) (i+1);rw[show i+1+(q-(i+1))=q from Nat.add_sub_of_le k8]at N
  have Q:=(H.ok p).C7.pos;have M:=(H.ok (i+1)).C7.pos;have Z:Neg (cmp P (C.T (i+1)) (C.T p)):=by
   refine Neg.pd ((H.ok i).C7.pos) (Neg.congr (λt _=>((λt=>sD t) t).symm) (Neg.add (((w i).1 X).mul Q) ?_))
   rcases O with h|h
   exact .inl (h.mul M)
   . exact .inr λt g=>by rw[h t g,Q9]
  have W:Neg (cmp P (C.T q) (C.T p)):=by
   refine Neg.pd M (Neg.congr (λt _=>?_) (Neg.add (Z.mul ((H.ok q).C7.pos)) (v:=λt=>(C.T p).size*cmp P (C.T q) (C.T (i+1)) t) ?_));rw[(λt=>sD (T':=C.T (i+1)) t) t];exact Int.add_comm _ _
   . rcases N with h|h
     exact .inl (h.mul Q)
     . exact .inr λt g=>by rw[h t g,Q9]
  exact hP (λt _=>Pp (H.ok p) (H.ok q) K F t) W
 have A:C.cf q=Uf:=by
  have:=(H.cn (q-1)).mpr (a (q-1) j7 j7);rw[show q-1+1=q from by lia]at this;exact this
 have D:∀i,p<=i->i<q->C.cf i=Uf:=λi r u=>by
  by_cases c:i=p;rw[c,Y];exact A;have:=(H.cn (i-1)).mpr (a (i-1) j7 (Nat.sub_lt_of_lt k8));rw[show i-1+1=i from by lia]at this;exact this
 exact Ra H x a D K F
end Sx
namespace Law
open PySem L2
section
abbrev m5:=j4 0
abbrev o2:=j4 1
abbrev B7:=j4 2
abbrev D3:=j4 3
abbrev K0:=j4 4
abbrev U4:=j4 5
abbrev cv:=j4 6
abbrev aY:=j4 7
abbrev hH:=j4 8
abbrev nW:=j4 9
abbrev yO:=j4 10
abbrev qy:=j4 11
abbrev vx:=j4 12
abbrev v9:=fC (.int 0)
abbrev o3:=fC (.int 1)
abbrev M5:=fC (.int 2)
abbrev iE:=fC (.int 3)
abbrev kx:=fC (.int 4)
abbrev Cq:=fC (.int 5)
abbrev uT:=fC (.int 6)
abbrev Cp:=fC (.int 8)
abbrev za:=fC (.int 10)
abbrev vI:=fC (.int 12)
abbrev dV:=fC .none
abbrev r4(a:DV):=f6 a l7
abbrev m4(a b:DV):=f6 a (f6 b l7)
abbrev M9(a b c:DV):=f6 a (f6 b (f6 c l7))
abbrev mS(a b c d:DV):=f6 a (f6 b (f6 c (f6 d l7)))
abbrev xK(a b c d e:DV):=f6 a (f6 b (f6 c (f6 d (f6 e l7))))
abbrev MR(a b c d e f:DV):=f6 a (f6 b (f6 c (f6 d (f6 e (f6 f l7)))))
abbrev j6:=j8 u9
abbrev u6:=j8 F7
abbrev J3:f7:=(.tuple [(.int 0),(.int 1)])
abbrev fw:f7:=(.tuple [(.int 0),(.int 1),(.int 2)])
abbrev D5:f7:=(.tuple [(.int 0),(.int 1)])
abbrev mP:f7:=(.tuple [(.tuple [(.int 0),(.int 1)]),(.tuple [(.int 0),(.int 1)]),(.tuple [(.int 0),(.int 1)])])
abbrev DC:f7:=(.tuple [(.tuple [(.int 1),(.int 1)]),(.tuple [(.int 0),(.int 1)]),(.tuple [(.int 0),(.int 1)])])
abbrev vZ:f7:=(.tuple [(.tuple [(.int 0),(.int 1)]),(.tuple [(.int 1),(.int 1)]),(.tuple [(.int 0),(.int 1)])])
def bK:DB:=o8 (j8 lj o2 v9)
def bL:DO:=j9 (k9 2 (j8 df m5 o2)) (j9 (k9 0 o2) (k9 1 B7))
def L3:FV:=E1 2 3 (j9 (kA (wZ 1) bK bL) (Y8 0))
def R4:FV:=E1 2 3 (j9 (M0 (o8 (j8 Z7 o2 v9)) xq E4) (j9 (k9 2 (f9 L3 (m4 (f9 oP (r4 m5)) (f9 oP (r4 o2))))) (j9 (M0 (o8 (j8 ri o2 v9)) (k9 2 (gg bP B7)) E4) (A1 (n9 (m4 (j8 T7 m5 B7) (j8 T7 o2 B7)))))))
noncomputable def kW:FV:=E1 2 5 (j9 (k9 2 (f9 L3 (m4 (j6 m5 o3) (j6 o2 o3)))) (j9 (k9 3 (j8 p8 (u6 (j6 m5 v9) (j8 T7 (j6 o2 o3) B7)) (u6 (j6 o2 v9) (j8 T7 (j6 m5 o3) B7)))) (j9 (k9 4 (f9 L3 (m4 (f9 oP (r4 D3)) B7))) (A1 (n9 (m4 (j8 T7 D3 K0) (u6 (j8 T7 (j6 m5 o3) B7) (j8 T7 (j6 o2 o3) K0))))))))
def aE:FV:=E1 2 2 (A1 (f9 kW (m4 m5 (n9 (m4 (gg bP (j6 o2 v9)) (j6 o2 o3))))))
def U3:FV:=E1 2 5 (j9 (k9 2 (f9 L3 (m4 (f9 oP (r4 (j6 m5 v9))) (j6 o2 o3)))) (j9 (k9 3 (f9 L3 (m4 (f9 oP (r4 (j6 o2 v9))) (j6 m5 o3)))) (j9 (k9 4 (u6 (j8 T7 (j6 m5 v9) B7) (j8 T7 (j6 o2 v9) D3))) (A1 (n9 (m4 K0 (u6 (j8 T7 (j6 m5 o3) D3) (j8 T7 (j6 o2 o3) B7))))))))
def tV:FV:=E1 2 2 (j9 (M0 (o8 (j8 Z7 (j6 o2 v9) v9)) xq E4) (A1 (f9 U3 (m4 m5 (f9 R4 (m4 (j6 o2 o3) (j6 o2 v9)))))))
def ig:FV:=E1 2 2 (A1 (j8 ri (u6 (j6 m5 v9) (j6 o2 o3)) (u6 (j6 o2 v9) (j6 m5 o3))))
def V8:DO:=k9 1 (u6 (j6 (f9 R4 (m4 o2 B7)) v9) B7)
def J6:FV:=E1 1 3 (j9 (k9 1 o3) (j9 (D4 (M7 m5) (C1 2) V8) (Y8 1)))
def ie:FV:=E1 2 2 (A1 (u6 (j6 m5 v9) (j8 T7 o2 (j6 m5 o3))))
def nP:DV:=j6 (j6 m5 B7) o3
def ji:FV:=E1 2 2 (A1 (f9 J6 (r4 (p9 (M7 m5) p6 q5 nP))))
def U8:DV:=n9 (m4 m5 (f9 ie (m4 (j6 o2 D3) K0)))
def U6:DB:=o8 (j8 lj (j6 o2 D3) (fC J3))
def gC:FV:=E1 3 3 (A1 (p9 (x9 bZ (r4 m5)) (N5 2) U6 U8))
def jh:FV:=E1 2 3 (j9 (O8 2 (j8 dX (E2 (r4 v9)) m5)) (j9 (bX 2 o2 o3) (Y8 2)))
def oQ:DV:=u6 m5 o2
def kU:FV:=E1 2 2 (A1 (f9 BJ (r4 (p9 (x9 cq (m4 m5 o2)) (N5 2) q5 oQ))))
def S0:DV:=u6 (j6 B7 m5) o2
def W6:FV:=E1 2 2 (A1 (f9 BJ (r4 (p9 (M7 o2) (N5 2) q5 S0))))
def qY:DV:=j8 T7 (j8 dR (u6 m5 U4) (u6 K0 o2)) cv
def gT:FV:=E1 5 5 (j9 (M0 (mQ (o8 (j8 Z7 B7 v9)) (o8 (j8 Z7 D3 K0))) (Y8 0) E4) (A1 (p9 (x9 cq (m4 m5 o2)) (N5 2) q5 qY)))
def bT:DV:=j6 (j6 (B9 "Table" "weights" o2) B7) m5
def J1:FV:=E1 2 2 (A1 (p9 (M7 (B9 "Table" "chosen" m5)) p6 q5 bT))
def ax:DV:=hZ (o8 (j8 mI m5 dV)) dV (f9 U3 (m4 m5 (n9 (m4 o3 o2))))
def aw:DV:=j6 m5 o3
def O4:DV:=j6 m5 o3
def O0:DB:=o8 (j8 gb m5 dV)
def av:DV:=f9 ie (m4 m5 (K8 "Table" 1 "unit"))
def au:DV:=hZ (o8 (j8 mI m5 dV)) dV (f9 ie (m4 m5 (K8 "Table" 1 "unit")))
def Y0:List PV->Option (PV×Ds):=mM 3 5 (j9 (k9 3 (p9 (x9 cq (m4 B7 (K8 "Table" 0 "scales"))) (N5 2) q5 ax)) (j9 (k9 4 (j8 p8 (p9 (M7 o2) p6 q5 aw) (p9 (M7 D3) p6 O0 O4))) (j9 (U9 "Table" 0 "unit" iN (f9 J6 (r4 K0))) (j9 (U9 "Table" 0 "rights" gJ (p9 (M7 o2) p6 q5 av)) (U9 "Table" 0 "limits" iN (p9 (M7 D3) p6 q5 au))))))
def S3:DV:=f9 U3 (m4 (j6 m5 K0) (n9 (m4 o2 o3)))
def cJ:DV:=j6 m5 o3
def cH:DV:=f9 ie (m4 m5 U4)
def Z5:DO:=j9 (k9 3 (p9 (x9 cq (m4 o2 (K8 "Table" 0 "scales"))) (N5 2) q5 S3)) (j9 (k9 4 (f9 J6 (r4 (p9 (M7 D3) p6 q5 cJ)))) (j9 (oi "Table" 0 "multiples" K0) (oi "Table" 0 "weights" (p9 (M7 D3) p6 q5 cH))))
def V7:List PV->Option (PV×Ds):=mM 2 5 (j9 (U9 "Table" 0 "multiples" gJ (E2 l7)) (j9 (U9 "Table" 0 "weights" gJ (E2 l7)) (D4 (M7 (fC fw)) (C1 2) Z5)))
def hE:DV:=f9 ji (m4 D3 m5)
def hC:DV:=f9 gC (M9 K0 m5 o2)
def hB:DV:=f9 jh (m4 (f9 A9 (r4 cv)) m5)
def gZ:DV:=W4 (O6 "Table" "first_prices" J1 (P6 1) (r4 m5))
def aF:List PV->Option (PV×Ds):=mM 6 6 (j9 (U9 "Table" 0 "scales" iN (p9 (x9 C9 (r4 (f9 A9 (r4 o2)))) p6 q5 hE)) (j9 (U9 "Table" 0 "columns" iN (p9 (x9 bZ (r4 (K8 "Table" 0 "scales"))) (N5 2) q5 hC)) (j9 (M8 (L6 "Table" "set_weights" 0 V7 (B8 o2 aL))) (j9 (M8 (L6 "Table" "set_limits" 0 Y0 (B8 D3 (B8 K0 aL)))) (j9 (U9 "Table" 0 "chosen" gJ (f9 xh (r4 U4))) (j9 (U9 "Table" 0 "full" gJ (j8 dX (E2 (r4 (fC (.bool U')))) (f9 A9 (r4 o2)))) (j9 (U9 "Table" 0 "size" iN o3) (j9 (U9 "Table" 0 "inverse" iN (p9 (x9 C9 (r4 (f9 A9 (r4 U4)))) p6 q5 hB)) (U9 "Table" 0 "prices" gJ (p9 (M7 (fC fw)) p6 q5 gZ))))))))))
def Q7:FV:=E1 3 3 (A1 (j8 dR (u6 (j6 (j6 (B9 "Table" "weights" m5) o2) B7) (B9 "Table" "size" m5)) (f9 W6 (m4 (j6 (B9 "Table" "prices" m5) o2) (j6 (B9 "Table" "columns" m5) B7)))))
def fV:DV:=f9 kU (m4 m5 (B9 "Table" "rights" o2))
def Q0:FV:=E1 1 1 (A1 (p9 (M7 (B9 "Table" "inverse" m5)) p6 q5 fV))
def jo:DV:=f9 W6 (m4 m5 (j6 (B9 "Table" "columns" o2) B7))
def U7:FV:=E1 2 2 (A1 (p9 (M7 (B9 "Table" "inverse" m5)) p6 q5 jo))
def cN:DO:=bY "Table" 0 "rights" D3 (j8 p8 (iL "Table" 0 "rights" D3) (u6 B7 K0))
def L7:List PV->Option (PV×Ds):=mM 2 5 (j9 (k9 2 (hZ (o8 (iL "Table" 0 "full" o2)) (j6 (K8 "Table" 0 "limits") o2) (gg bP (j6 (K8 "Table" 0 "limits") o2)))) (j9 (bY "Table" 0 "full" o2 (Dg (iL "Table" 0 "full" o2))) (D4 (M7 (j6 (K8 "Table" 0 "columns") o2)) (cY 2 (G3 3 (G3 4 cZ))) cN)))
def cM:DO:=j9 (k9 8 (u6 (gg bP K0) (W4 (O6 "Table" "rest" Q7 (P6 0) (m4 aY o2))))) (bY "Table" 0 "prices" aY (f9 gT (xK (iL "Table" 0 "prices" aY) cv hH U4 (K8 "Table" 0 "size"))))
def fI:DV:=f9 gT (xK m5 hH (u6 cv o2) aY (K8 "Table" 2 "size"))
def cG:DV:=u6 U4 m5
def cF:List PV->Option (PV×Ds):=mM 4 10 (j9 (M0 (o8 (iL "Table" 0 "full" o2)) (M8 (L6 "Table" "flip" 0 L7 (B8 o2 aL))) E4) (j9 (k9 4 (hZ (o8 (j8 uY (j6 D3 B7) v9)) o3 (gg bP o3))) (j9 (k9 5 (u6 K0 (j6 D3 B7))) (j9 (k9 6 (j6 (K8 "Table" 0 "inverse") B7)) (j9 (D4 (M7 (fC fw)) (C1 7) cM) (j9 (O8 9 (p9 (x9 cq (m4 (K8 "Table" 0 "inverse") D3)) (N5 2) q5 fI)) (j9 (bX 9 B7 (p9 (M7 cv) p6 q5 cG)) (j9 (uC 9 (U9 "Table" 0 "inverse" iN nW)) (j9 (U9 "Table" 0 "size" iN U4) (bY "Table" 0 "chosen" B7 o2))))))))))
def kl:DO:=j9 (k9 4 (u6 B7 (O6 "Table" "rest" Q7 m5 (m4 D3 o2)))) (M0 (o8 (j8 lj K0 v9)) (A1 (hZ (o8 (j8 ri K0 v9)) (n9 (m4 D3 K0)) dV)) E4)
def kY:FV:=E1 2 5 (j9 (M0 (o8 (j8 Z7 (j6 (B9 "Table" "limits" m5) o2) v9)) (A1 dV) E4) (j9 (k9 2 (hZ (o8 (j6 (B9 "Table" "full" m5) o2)) (gg bP o3) o3)) (j9 (D4 (M7 (fC fw)) (C1 3) kl) (A1 dV))))
def az:DO:=j9 (k9 5 (f9 kY (m4 m5 K0))) (M0 (mQ (o8 (j8 gb U4 dV)) (AQ (o8 (j8 mI B7 dV)) (o8 (j8 zu U4 D3)))) (j9 (k9 2 K0) (j9 (k9 3 U4) (M0 (o8 o2) (Y8 2) E4))) E4)
def gU:FV:=E1 2 6 (j9 (k9 2 dV) (j9 (k9 3 dV) (j9 (D4 (x9 C9 (r4 (f9 A9 (r4 (B9 "Table" "full" m5))))) (C1 4) az) (Y8 2))))
def kZ:DO:=j9 (k9 7 (j6 (B9 "Table" "chosen" m5) U4)) (j9 (k9 8 (j6 (B9 "Table" "limits" m5) aY)) (j9 (k9 9 (u6 K0 (j6 B7 U4))) (M0 (o8 (j8 uY nW v9)) (cy 3 (n9 (xK cv nW aY U4 (fC (.bool U'))))) (M0 (mQ (o8 (j8 ri nW v9)) (o8 (j8 gb hH dV))) (cy 3 (n9 (xK (j8 dR (u6 hH (B9 "Table" "size" m5)) cv) (gg bP nW) aY U4 (fC (.bool Uf))))) E4))))
def ij:FV:=E1 3 10 (j9 (O8 3 (E2 l7)) (j9 (M0 (o8 (j8 gb (j6 (B9 "Table" "limits" m5) o2) dV)) (cy 3 (n9 (xK (j6 (B9 "Table" "limits" m5) o2) o3 o2 dV (fC (.bool U'))))) E4) (j9 (k9 4 (hZ (o8 (j6 (B9 "Table" "full" m5) o2)) (gg bP o3) o3)) (j9 (D4 (x9 bZ (r4 (O6 "Table" "amounts" Q0 m5 l7))) (cY 2 (G3 5 (G3 6 cZ))) kZ) (Y8 3)))))
def nM:FV:=E1 2 4 (j9 (k9 2 (u6 (j6 m5 v9) (j6 o2 o3))) (j9 (k9 3 (u6 (j6 o2 v9) (j6 m5 o3))) (A1 (TL (j8 ri B7 D3) (Js (j8 Z7 B7 D3) (j8 ri (j6 m5 M5) (j6 o2 M5)))))))
def aG:DO:=M0 (AQ (o8 (j8 mI o2 dV)) (o8 (f9 nM (m4 B7 o2)))) (k9 1 B7) E4
def aS:FV:=E1 1 3 (j9 (k9 1 dV) (j9 (D4 (M7 m5) (C1 2) aG) (Y8 1)))
def kX:List PV->Option (PV×Ds):=mM 4 4 (j9 (M0 (o8 (j8 mI (j6 D3 iE) dV)) (j9 (M8 (L6 "Table" "flip" 0 L7 (B8 o2 aL))) mK) E4) (j9 (M8 (L6 "Table" "turn" 0 cF (B8 o2 (B8 (j6 D3 iE) (B8 B7 aL))))) (M0 (o8 (j6 D3 kx)) (M8 (L6 "Table" "flip" 0 L7 (B8 (j6 D3 M5) aL))) E4)))
def ra:DV:=hZ (o8 o2) m5 (fC J3)
def lQ:DO:=bX 2 D3 (f9 R4 (m4 (u6 K0 (j6 (B9 "Table" "scales" m5) D3)) (u6 (B9 "Table" "size" m5) (B9 "Table" "unit" m5))))
def bQ:FV:=E1 2 5 (j9 (O8 2 (p9 (x9 cq (m4 o2 (B9 "Table" "full" m5))) (N5 2) q5 ra)) (j9 (D4 (x9 cq (m4 (B9 "Table" "chosen" m5) (O6 "Table" "amounts" Q0 m5 l7))) (cY 2 (G3 3 (G3 4 cZ))) lQ) (Y8 2)))
def fe:DV:=f9 R4 (m4 (j6 (j6 (B9 "Table" "prices" o2) m5) B7) (u6 (B9 "Table" "size" o2) (j6 (B9 "Table" "multiples" o2) m5)))
def jj:FV:=E1 2 3 (j9 (k9 2 (p9 (M7 (fC fw)) p6 q5 fe)) (A1 (f9 cW (r4 B7))))
def lO:DO:=bX 3 K0 (f9 R4 (m4 (u6 (gg bP U4) (j6 (B9 "Table" "scales" m5) K0)) (B9 "Table" "size" m5)))
def jR:FV:=E1 3 6 (j9 (O8 3 (j8 dX (E2 (r4 (fC J3))) (f9 A9 (r4 (B9 "Table" "full" m5))))) (j9 (bX 3 o2 (n9 (m4 (j6 (B9 "Table" "scales" m5) o2) o3))) (j9 (D4 (x9 cq (m4 (B9 "Table" "chosen" m5) B7)) (cY 2 (G3 4 (G3 5 cZ))) lO) (Y8 3))))
def bJ:DB:=o8 (j8 gb cv dV)
def ay:DO:=j9 (k9 7 (W4 (O6 "Table" "paces" U7 (P6 5) (r4 cv)))) (j9 (k9 8 (f9 aS (r4 (W4 (f9 ij (M9 (P6 5) cv aY)))))) (j9 (M0 (o8 (j8 mI hH dV)) (A1 (n9 (M9 (fC (.str "endless")) (W4 (f9 bQ (m4 (P6 5) D3))) (W4 (f9 jR (M9 (P6 5) cv aY)))))) E4) (j9 (M8 (bz kX (bW 5 (B8 cv (B8 aY (B8 hH aL)))))) (k9 6 (W4 (f9 gU (m4 (P6 5) (j8 Z7 (j6 hH v9) v9))))))))
def qZ:DV:=W4 (f9 jj (m4 (P6 6) m5))
def nN:FV:=E1 5 9 (j9 (O8 5 (uG "Table" aF (xK m5 o2 B7 D3 K0))) (j9 (k9 6 (W4 (f9 gU (m4 (P6 5) (fC (.bool U')))))) (j9 (kA (IU bJ ay) bJ ay) (A1 (n9 (M9 (fC (.str "best")) (W4 (f9 bQ (m4 (P6 5) D3))) (p9 (x9 C9 (r4 (f9 A9 (r4 o2)))) p6 q5 qZ)))))))
def ql:FV:=E1 2 2 (A1 (n9 (M9 (f9 kW (m4 (j6 m5 v9) (j6 o2 v9))) (f9 kW (m4 (j6 m5 o3) (j6 o2 o3))) (f9 kW (m4 (j6 m5 M5) (j6 o2 M5))))))
def cD:FV:=E1 2 2 (A1 (n9 (M9 (f9 U3 (m4 (j6 m5 v9) o2)) (f9 U3 (m4 (j6 m5 o3) o2)) (f9 U3 (m4 (j6 m5 M5) o2)))))
def me:FV:=E1 1 1 (A1 (n9 (M9 (n9 (m4 v9 o3)) (n9 (m4 v9 o3)) (n9 (m4 m5 o3)))))
def dN:FV:=E1 1 1 (A1 (hZ (o8 (j8 TH (j6 m5 o3) (j6 m5 v9))) (n9 (m4 o3 o3)) (n9 (m4 (gg bP o3) o3))))
def dA:FV:=E1 1 1 (A1 (f9 aE (m4 (fC D5) (f9 dN (r4 m5)))))
def cE:FV:=E1 2 4 (j9 (O8 2 (E2 (m4 (n9 (mS (S5 (m4 (fC (.str "lacked")) m5)) (fC DC) (n9 (m4 (j6 o2 o3) o3)) (E2 (r4 (n9 (m4 m5 (f9 dN (r4 o2)))))))) (n9 (mS (S5 (m4 (fC (.str "spilt")) m5)) (fC mP) dV (E2 (r4 (n9 (m4 m5 (f9 dA (r4 o2))))))))))) (j9 (k9 3 (j6 o2 M5)) (j9 (M0 (o8 (j8 gb D3 dV)) (j9 (cy 2 (n9 (mS (S5 (m4 (fC (.str "bought")) m5)) (f9 me (r4 (j6 D3 v9))) (n9 (m4 (j6 D3 o3) o3)) (E2 (r4 (n9 (m4 m5 (f9 dN (r4 o2))))))))) (cy 2 (n9 (mS (S5 (m4 (fC (.str "given")) m5)) (f9 me (r4 (gg bP (j6 D3 M5)))) (n9 (m4 (j6 D3 iE) o3)) (E2 (r4 (n9 (m4 m5 (f9 dA (r4 o2)))))))))) E4) (Y8 2))))
def lC:DV:=n9 (m4 m5 (f9 aE (m4 (fC D5) (j6 U4 kx))))
def lB:DV:=n9 (m4 m5 (n9 (m4 o3 o3)))
def ej:FV:=E1 2 8 (j9 (k9 2 (f9 A9 (r4 (j6 m5 v9)))) (j9 (k9 3 (j6 (j6 m5 v9) o2)) (j9 (k9 4 (j6 m5 o3)) (j9 (k9 5 (p9 (x9 jx (m4 (j8 p8 B7 o2) (u6 M5 B7))) p6 q5 lC)) (j9 (k9 6 (p9 (x9 jx (m4 (j8 p8 B7 o2) (u6 M5 B7))) p6 q5 lB)) (j9 (k9 7 (hZ (o8 (j8 Z7 o2 (j8 dR B7 o3))) (j6 K0 uT) v9)) (A1 (E2 (M9 (n9 (mS (S5 (m4 (fC (.str "filled")) o2)) (fC mP) (n9 (m4 (j6 K0 M5) o3)) (j8 p8 (E2 (r4 (n9 (m4 o2 (f9 dA (r4 D3)))))) U4))) (n9 (mS (S5 (m4 (fC (.str "taken")) o2)) (fC mP) (n9 (m4 (j6 K0 iE) o3)) (j8 p8 (E2 (r4 (n9 (m4 o2 (f9 U3 (m4 (f9 dN (r4 D3)) (j6 K0 Cq))))))) cv))) (n9 (mS (S5 (m4 (fC (.str "level")) o2)) (f9 me (r4 (gg bP aY))) (n9 (m4 (j6 K0 v9) o3)) (E2 (r4 (n9 (m4 (j8 p8 B7 o2) (n9 (m4 o3 o3)))))))))))))))))
def dC:DO:=j9 (k9 6 (E2 (m4 (n9 (m4 U4 (f9 dA (r4 (j6 (j6 m5 v9) U4))))) (n9 (m4 D3 (n9 (m4 o3 o3))))))) (cy 4 (n9 (mS (S5 (M9 (fC (.str "worked")) U4 o2)) (fC mP) (n9 (m4 (j6 B7 kx) o3)) cv)))
def fG:FV:=E1 2 7 (j9 (k9 2 (j6 (j6 m5 M5) o2)) (j9 (k9 3 (j8 p8 (u6 M5 (f9 A9 (r4 (j6 m5 v9)))) o2)) (j9 (O8 4 (E2 (r4 (n9 (mS (S5 (m4 (fC (.str "undone")) o2)) (fC vZ) (n9 (m4 (j6 B7 o3) o3)) (E2 (r4 (n9 (m4 D3 (n9 (m4 o3 o3))))))))))) (j9 (D4 (x9 jx (m4 (j6 B7 M5) (j8 p8 (j6 B7 iE) o3))) (C1 5) dC) (Y8 4)))))
def fK:DO:=j9 (vN 1 (f9 cE (m4 B7 D3))) (vN 1 (f9 ej (m4 m5 B7)))
def fJ:DO:=vN 1 (f9 fG (m4 m5 B7))
def jl:FV:=E1 1 4 (j9 (O8 1 (E2 l7)) (j9 (D4 (x9 bZ (r4 (j6 m5 v9))) (cY 2 (G3 2 (G3 3 cZ))) fK) (j9 (D4 (x9 C9 (r4 (f9 A9 (r4 (j6 m5 M5))))) (C1 2) fJ) (Y8 1))))
def bS:DV:=j8 dX (E2 (r4 (fC D5))) (f9 A9 (r4 o2))
def kb:DO:=xp 2 U4 D3 cv
def jZ:DO:=D4 (M7 (j6 K0 iE)) (cY 2 (G3 5 (G3 6 cZ))) kb
def oD:FV:=E1 2 7 (j9 (O8 2 (iM (x9 C9 (r4 o2)) p6 bS)) (j9 (D4 (x9 bZ (r4 m5)) (cY 2 (G3 3 (G3 4 cZ))) jZ) (Y8 2)))
def rz:DV:=n9 (m4 (f9 oP (r4 (j8 dR (j6 m5 o3) (j6 m5 v9)))) o3)
def ly:DV:=n9 (m4 (j6 m5 o3) o3)
def jX:FV:=E1 1 3 (j9 (k9 1 (p9 (M7 (j6 m5 v9)) p6 q5 rz)) (j9 (k9 2 (j8 dX (E2 (r4 (n9 (m4 (j6 (j6 m5 o3) o3) o3)))) (f9 A9 (r4 (j6 m5 v9))))) (A1 (j8 p8 (j8 p8 o2 B7) (p9 (M7 (j6 m5 M5)) p6 q5 ly)))))
def jn:DV:=S5 (m4 (hZ (o8 (j8 Z7 (f9 dN (r4 o2)) (n9 (m4 o3 o3)))) (fC (.str "lacked")) (fC (.str "spilt"))) m5)
def oG:DV:=S5 (m4 (fC (.str "level")) m5)
def jm:DV:=S5 (m4 (fC (.str "undone")) m5)
def dO:FV:=E1 1 3 (j9 (k9 1 (p9 (x9 bZ (r4 (j6 m5 v9))) (N5 2) q5 jn)) (j9 (k9 2 (p9 (x9 C9 (r4 (f9 A9 (r4 (j6 m5 v9))))) p6 q5 oG)) (A1 (j8 p8 (j8 p8 o2 B7) (p9 (x9 C9 (r4 (f9 A9 (r4 (j6 m5 M5))))) p6 q5 jm)))))
def qW:FV:=E1 3 4 (j9 (k9 3 (f9 aE (m4 (f9 U3 (m4 (j6 m5 kx) o2)) B7))) (j9 (M0 (o8 (f9 ig (m4 D3 (fC D5)))) (A1 (n9 (m4 (fC D5) (f9 aE (m4 (fC D5) D3))))) E4) (A1 (n9 (m4 (f9 tV (m4 D3 (j6 m5 kx))) (fC D5))))))
def vm:DV:=jI B7 (S5 (M9 (fC (.str "worked")) K0 m5)) (fC D5)
def ke:DO:=j9 (k9 4 (n9 (m4 (jI o2 (S5 (m4 (fC (.str "bought")) D3)) (fC D5)) (jI o2 (S5 (m4 (fC (.str "given")) D3)) (fC D5))))) (j9 (k9 5 (f9 qW (M9 (j6 m5 o3) (kB o2 (S5 (m4 (fC (.str "filled")) D3))) (kB o2 (S5 (m4 (fC (.str "taken")) D3)))))) (j9 (k9 6 (p9 (x9 C9 (r4 (f9 A9 (r4 (j6 m5 M5))))) p6 q5 vm)) (cy 2 (j8 p8 (j8 p8 K0 U4) (n9 (m4 (kB o2 (S5 (m4 (fC (.str "lacked")) D3))) (f9 cW (r4 cv))))))))
def oE:FV:=E1 2 7 (j9 (O8 2 (E2 l7)) (j9 (D4 (x9 C9 (r4 (f9 A9 (r4 (j6 m5 v9))))) (C1 3) ke) (A1 (oK (f9 cW (r4 B7))))))
def gN:DV:=f9 cD (m4 o2 (f9 dN (r4 m5)))
def dP:DO:=j9 (k9 5 (f9 ql (m4 U4 (f9 cD (m4 cv (n9 (m4 (gg bP o3) o3))))))) (cy 4 U4)
def jY:FV:=E1 2 7 (j9 (k9 2 (f9 A9 (r4 (j6 m5 v9)))) (j9 (k9 3 (p9 (x9 cq (m4 (j6 m5 v9) o2)) (N5 2) q5 gN)) (j9 (O8 4 (E2 l7)) (j9 (k9 5 (fC mP)) (j9 (D4 (x9 vy (r4 (mN rN o2 (Y5 B7) (Y5 (u6 M5 B7))))) (C1 6) dP) (j9 (uA 4 DZ) (A1 (oK (n9 (M9 (f9 cW (r4 D3)) (f9 cW (r4 K0)) (f9 cW (r4 (mN rN o2 (Y5 (u6 M5 B7)) uh)))))))))))))
def rD:DV:=j6 m5 v9
def rC:DV:=j6 m5 o3
def rB:DV:=j6 m5 M5
def rA:DV:=uF ma D3 (r4 m5)
def gD:FV:=E1 1 8 (j9 (k9 1 (f9 jl (r4 m5))) (j9 (k9 2 (p9 (M7 o2) p6 q5 rD)) (j9 (k9 3 (p9 (M7 o2) p6 q5 rC)) (j9 (k9 4 (p9 (M7 o2) p6 q5 rB)) (j9 (k9 5 (f9 jX (r4 m5))) (j9 (k9 6 (p9 (M7 (f9 dO (r4 m5))) p6 q5 rA)) (j9 (k9 7 (f9 nN (xK D3 (f9 oD (m4 o2 (f9 A9 (r4 U4)))) U4 K0 cv))) (A1 (n9 (m4 (f9 oE (m4 m5 (Dh (m4 B7 (j6 aY o3))))) (f9 jY (m4 m5 (j6 aY M5)))))))))))))
def D2:FV:=E1 3 5 (j9 (k9 3 v9) (j9 (M0 (o8 (j8 uY (f9 A9 (r4 m5)) v9)) (j9 (k9 3 (j6 m5 (j8 df o2 (f9 A9 (r4 m5))))) (M0 (o8 (j8 Z7 (j8 df (j6 m5 v9) M5) o3)) (A1 (j8 df (j8 df (j8 Ib (j8 T7 D3 M5) (u6 (fC (.int 32)) (j8 T7 o2 (f9 A9 (r4 m5))))) (j8 qA M5 (fC (.int 32)))) B7)) E4)) E4) (j9 (k9 4 (j8 df (u6 (j8 p8 (j8 df D3 (fC (.int 1000003))) o3) (j8 p8 (j8 p8 (u6 o2 o2) o2) (fC (.int 41)))) (fC (.int 999983)))) (A1 (j8 df (j8 T7 (j8 df (u6 (j8 df (u6 K0 (j8 p8 K0 (fC (.int 7919)))) (fC (.int 2147483647))) (fC (.int 69621))) (fC (.int 2147483629))) (fC (.int 11))) B7)))))
def lN:DB:=o8 (j8 uY D3 v9)
def lR:DO:=j9 (k9 4 (j8 df B7 D3)) (j9 (k9 2 D3) (k9 3 K0))
def gX:FV:=E1 2 5 (j9 (k9 2 (f9 oP (r4 m5))) (j9 (k9 3 o2) (j9 (kA (wZ 3) lN lR) (A1 (n9 (m4 (j8 T7 m5 B7) (j8 T7 o2 B7)))))))
def D6:FV:=E1 2 2 (A1 (f9 gX (m4 (j8 p8 (u6 (j6 m5 v9) (j6 o2 o3)) (u6 (j6 o2 v9) (j6 m5 o3))) (u6 (j6 m5 o3) (j6 o2 o3)))))
def D9:FV:=E1 2 2 (A1 (f9 gX (m4 (u6 (j6 m5 v9) (j6 o2 v9)) (u6 (j6 m5 o3) (j6 o2 o3)))))
def ip:FV:=E1 2 2 (A1 (j8 ri (u6 (j6 m5 v9) (j6 o2 o3)) (u6 (j6 o2 v9) (j6 m5 o3))))
def bq:DO:=M0 (o8 (j8 lj (j6 m5 B7) (j6 o2 B7))) (A1 (f9 ip (m4 (j6 m5 B7) (j6 o2 B7)))) E4
def bR:FV:=E1 2 3 (j9 (D4 (x9 C9 (r4 iE)) (C1 2) bq) (A1 (fC (.bool U'))))
def F6:FV:=E1 1 1 (A1 (n9 (m4 (j8 dR v9 (j6 m5 v9)) (j6 m5 o3))))
noncomputable def I0:FV:=E1 3 4 (j9 (k9 3 (j6 (E2 (MR o3 o3 o3 o3 o3 (fC (.int 1000)))) (f9 D2 (M9 m5 o3 uT)))) (j9 (M0 (o8 (j8 Z7 (f9 D2 (M9 m5 (j8 p8 o2 (fC (.int 2900))) Cp)) v9)) (k9 3 (fC (.int 83333))) E4) (A1 (u6 D3 (f9 D2 (M9 m5 o2 (j8 p8 B7 o3)))))))
noncomputable def ik:FV:=E1 2 4 (j9 (O8 2 (E2 (mS (n9 (m4 o3 o3)) (n9 (m4 o3 M5)) (n9 (m4 (fC (.int 9)) za)) (n9 (m4 M5 iE))))) (j9 (k9 3 (j8 p8 o3 (f9 D2 (M9 m5 (j8 p8 o2 o3) vI)))) (j9 (cy 2 (f9 gX (m4 (j8 p8 o3 (f9 D2 (M9 m5 (j8 p8 o2 M5) D3))) D3))) (A1 (zR 2 (f9 D2 (M9 m5 o2 Cq)))))))
noncomputable def gE:DO:=j9 (k9 4 (j8 p8 (fC (.int 100)) (u6 (fC (.int 20)) D3))) (j9 (k9 5 dV) (j9 (M0 (o8 (j8 uY (f9 D2 (M9 m5 K0 kx)) v9)) (j9 (k9 6 (j8 dR (f9 D2 (M9 m5 (j8 p8 K0 o3) (fC (.int 27)))) uT)) (j9 (k9 7 (j8 dR (f9 D2 (M9 m5 (j8 p8 K0 iE) (fC (.int 27)))) uT)) (j9 (M0 (o8 (j8 Z7 (f9 D2 (M9 m5 (j8 p8 K0 (fC (.int 7))) Cp)) v9)) (k9 6 (j8 dR (f9 D2 (M9 m5 (j8 p8 K0 Cp) (j8 p8 (u6 M5 (j8 qA za uT)) o3))) (j8 qA za uT))) E4) (k9 5 (n9 (mS cv (f9 I0 (M9 m5 (j8 p8 K0 M5) vI)) aY (f9 I0 (M9 m5 (j8 p8 K0 kx) vI)))))))) E4) (cy 2 (n9 (M9 (f9 I0 (M9 m5 (j8 p8 K0 Cq) vI)) (f9 I0 (M9 m5 (j8 p8 K0 uT) vI)) U4)))))
def ki:DO:=j9 (k9 4 (j8 p8 (fC (.int 200)) (u6 za qy))) (j9 (k9 12 (f9 D2 (M9 m5 K0 o2))) (j9 (k9 13 (j8 p8 vx (f9 D2 (M9 m5 (j8 p8 K0 o3) (j8 dR o2 vx))))) (cy 10 (n9 (xK (j8 p8 (fC (.str "work")) (j6 (fC (.str "ab")) qy)) (f9 I0 (M9 m5 (j8 p8 K0 M5) vI)) vx (j4 13) (f9 I0 (M9 m5 (j8 p8 K0 iE) Cp)))))))
def oF:FV:=E1 1 14 (j9 (k9 1 (j6 (E2 (f6 o3 (f6 M5 (MR M5 iE iE M5 iE kx)))) (f9 D2 (M9 m5 za Cp)))) (j9 (O8 2 (E2 l7)) (j9 (D4 (x9 C9 (r4 o2)) (C1 3) gE) (j9 (k9 8 (f9 I0 (M9 m5 (fC (.int 20)) vI))) (j9 (k9 9 (n9 (mS hH (f9 D2 (M9 m5 (fC (.int 21)) (j8 p8 hH o3))) (f9 I0 (M9 m5 (fC (.int 22)) Cp)) (f9 I0 (M9 m5 (fC (.int 23)) Cp))))) (j9 (k9 9 (j8 p8 nW (n9 (M9 (f9 ik (m4 m5 (fC (.int 30)))) (f9 ik (m4 m5 (fC (.int 40)))) (f9 D2 (M9 m5 (fC (.int 24)) (fC (.int 13)))))))) (j9 (O8 10 (E2 l7)) (j9 (D4 (x9 C9 (r4 (j6 (E2 (MR v9 v9 o3 o3 M5 M5)) (f9 D2 (M9 m5 (fC (.int 11)) uT))))) (C1 11) ki) (A1 (oK (n9 (M9 (f9 cW (r4 B7)) nW (f9 cW (r4 yO))))))))))))))
def gY:FV:=E1 1 1 (j9 (M0 (o8 (j8 mI (j6 m5 M5) dV)) (A1 (n9 (mS v9 v9 v9 v9))) E4) (A1 (j6 m5 M5)))
def W5:FV:=E1 2 2 (A1 (j6 (E2 (MR (n9 (m4 v9 o3)) (n9 (m4 o3 o3)) (n9 (m4 o3 M5)) (n9 (m4 o3 iE)) (n9 (m4 M5 Cq)) (n9 (m4 o3 o3)))) (f9 D2 (M9 m5 o2 uT))))
def kh:DO:=M0 (o8 (f9 ip (m4 B7 o2))) (k9 1 B7) E4
def R9:FV:=E1 1 3 (j9 (k9 1 (j6 m5 v9)) (j9 (D4 (M7 m5) (C1 2) kh) (Y8 1)))
def cL:DO:=j9 (k9 8 (j6 (j6 o2 M5) aY)) (j9 (k9 9 (n9 (m4 v9 o3))) (j9 (M0 (mQ (o8 (j8 AE (j6 hH M5) K0)) (o8 (j8 AE K0 (j6 hH iE)))) (k9 9 (f9 D9 (m4 (f9 R9 (r4 (E2 (M9 (n9 (m4 (j6 hH kx) o3)) (sy 2 aY) D3)))) (f9 W5 (m4 m5 (j8 p8 U4 aY)))))) E4) (j9 (uB 2 aY (f9 D6 (m4 (sy 2 aY) (f9 F6 (r4 nW))))) (j9 (k9 3 (f9 D6 (m4 D3 (f9 F6 (r4 nW))))) (cy 6 nW)))))
def jk:List PV->Option (PV×Ds):=mM 6 10 (j9 (O8 6 (E2 l7)) (j9 (D4 (x9 C9 (r4 (f9 A9 (r4 (j6 o2 M5))))) (C1 7) cL) (uC 6 (Bv (n9 (m4 (f9 cW (r4 cv)) D3))))))
def bp:List PV->Option (PV×Ds):=mM 6 18 (j9 (k9 6 (j6 (j6 o2 v9) B7)) (j9 (k9 7 (j6 o2 o3)) (j9 (k9 8 (f9 gY (r4 cv))) (j9 (k9 9 (f9 D9 (m4 (n9 (m4 (j6 hH o3) o3)) (f9 W5 (m4 m5 U4))))) (j9 (k9 10 (f9 D9 (m4 (f9 R9 (r4 (E2 (m4 (n9 (m4 (j6 aY iE) o3)) D3)))) (f9 W5 (m4 m5 (j8 p8 U4 o3)))))) (j9 (k9 11 (f9 D6 (m4 (n9 (m4 (j8 dR (j6 cv v9) (j6 cv o3)) o3)) (f9 D6 (m4 nW (f9 D9 (m4 (j6 aY Cq) yO))))))) (j9 (k9 12 (n9 (m4 v9 o3))) (j9 (M0 (o8 (j8 ri (j6 qy v9) v9)) (k9 12 (f9 F6 (r4 qy))) E4) (j9 (k9 13 (f9 D6 (m4 (n9 (m4 (j6 cv o3) o3)) (f9 F6 (r4 vx))))) (j9 (M0 (o8 (j8 Z7 (f9 D2 (M9 m5 (j8 p8 U4 M5) kx)) v9)) (k9 12 (f9 D6 (m4 vx (f9 D9 (m4 (j4 13) (f9 W5 (m4 m5 (j8 p8 U4 iE)))))))) E4) (j9 (k9 11 (f9 D6 (m4 qy vx))) (j9 (pH 14 (bz jk (B8 m5 (B8 o2 (bW 4 (B8 qy (B8 B7 (B8 (j8 p8 U4 za) aL)))))))) (j9 (k9 11 (j6 (j4 14) o3)) (j9 (k9 15 (f9 D6 (m4 (n9 (m4 (j6 aY v9) o3)) (f9 D6 (m4 yO (f9 F6 (r4 D3))))))) (j9 (k9 15 (f9 D9 (m4 (j4 15) (n9 (m4 (j6 (j6 aY kx) o3) (j6 (j6 aY kx) v9)))))) (j9 (k9 16 (f9 D9 (m4 (f9 R9 (r4 (E2 (M9 (n9 (m4 (j6 aY M5) o3)) (j4 15) qy)))) (f9 W5 (m4 m5 (j8 p8 U4 kx)))))) (j9 (k9 11 (f9 D6 (m4 qy (f9 F6 (r4 (j4 16)))))) (j9 (k9 17 (f9 D9 (m4 (f9 R9 (r4 (E2 (m4 (n9 (m4 (j6 hH iE) o3)) qy)))) (f9 W5 (m4 m5 (j8 p8 U4 Cq)))))) (j9 (k9 3 (f9 D6 (m4 (f9 D6 (m4 D3 (f9 F6 (r4 yO)))) (f9 D9 (m4 (j6 aY kx) (j4 16)))))) (Bv (n9 (m4 (n9 (MR nW (j4 17) (j4 16) yO vx (j6 (j4 14) v9))) D3))))))))))))))))))))))
def fH:DV:=n9 (m4 (j6 m5 o3) o3)
def rd:DO:=j9 (pH 7 (bz bp (B8 m5 (B8 o2 (B8 cv (B8 D3 (bW 4 (B8 (j8 p8 B7 (u6 (fC (.int 30)) cv)) aL)))))))) (j9 (cy 5 (j6 aY v9)) (k9 3 (j6 aY o3)))
def gW:FV:=E1 3 8 (j9 (k9 3 (n9 (m4 (j6 (j6 o2 o3) o3) o3))) (j9 (O8 4 (iM (M7 (j6 o2 M5)) p6 fH)) (j9 (O8 5 (E2 l7)) (j9 (D4 (x9 C9 (r4 (f9 A9 (r4 (j6 o2 v9))))) (C1 6) rd) (A1 (oK (f9 cW (r4 U4))))))))
def oS:DO:=k9 3 (f9 D6 (m4 D3 (n9 (m4 (j6 cv o3) o3))))
def kj:DO:=k9 3 (f9 D6 (m4 D3 (f9 F6 (r4 yO))))
def oR:DO:=j9 (k9 8 (j6 o2 aY)) (j9 (k9 9 (f9 gY (r4 (j6 (j6 m5 v9) aY)))) (j9 (k9 2 (f9 D6 (m4 B7 (j6 hH kx)))) (j9 (k9 4 (f9 D6 (m4 K0 (f9 D9 (m4 (n9 (m4 (j6 nW v9) o3)) (j6 hH v9)))))) (j9 (k9 4 (f9 D6 (m4 K0 (f9 D9 (m4 (n9 (m4 (j8 dR v9 (j6 nW M5)) o3)) (j6 hH o3)))))) (j9 (k9 5 (f9 D6 (m4 U4 (f9 D6 (m4 (f9 D9 (m4 (j6 (j6 m5 o3) kx) (j6 hH M5))) (f9 F6 (r4 (j6 hH iE)))))))) (D4 (M7 (j6 hH Cq)) (C1 10) kj))))))
def bI:FV:=E1 2 11 (j9 (k9 2 (n9 (m4 v9 o3))) (j9 (k9 3 (n9 (m4 v9 o3))) (j9 (k9 4 (n9 (m4 v9 o3))) (j9 (k9 5 (n9 (m4 (j6 (j6 m5 o3) o3) o3))) (j9 (D4 (M7 (j6 m5 M5)) (C1 6) oS) (j9 (D4 (x9 C9 (r4 (f9 A9 (r4 o2)))) (C1 7) oR) (A1 (n9 (M9 B7 D3 (f9 D6 (m4 K0 (f9 D9 (m4 (n9 (m4 (j8 dR v9 (j6 (j6 m5 o3) uT)) o3)) U4)))))))))))))
def Ad:DO:=M0 (o8 (f9 bR (m4 (f9 bI (m4 o2 (f9 gW (M9 m5 o2 (j8 p8 (fC (.int 1000)) (u6 (fC (.int 150)) D3)))))) B7))) (A1 (fC (.bool U'))) E4
def qX:FV:=E1 1 4 (j9 (k9 1 (f9 oF (f6 m5 l7))) (j9 (k9 2 (f9 bI (f6 o2 (f6 (j8 u9 (f9 gD (f6 o2 l7)) v9) l7)))) (j9 (D4 (x9 C9 (f6 kx l7)) (C1 3) Ad) (A1 (fC (.bool Uf))))))
end
end Law
set_option hygiene false
local macro_rules | `(tactic| walk_at "r") => `(tactic| simp only[E1,q9,o5,Pn,uw,LY,dg,so,M0,A1,Y8,E4,jF,D4,kA,uC,zP,j4,fC,j8,gg,f9,n9,E2,mN,hZ,Js,TL,Dg,oK,dG,p9,uh,Y5,Ss,f6,l7,o8,mQ,AQ,q5,x9,M7,Ie,Kv,QN,Lk,qM,oq,C1,cY,G3,cZ,p6,N5,L2.PV.uK,L2.PV.Jv,wZ,
 Sw,Pe,Wi,Wv,Ww,vQ,Rg,pz,qH,Sy,Rc,LZ,qG,Ke,OU,Jf,LW,UN,Rv,Ga,Sk,Kl,My,zR,uA,lZ,a1w,a1v,a1u,a1t,a1s,a1r,String.reduceBEq,
 n8,Option.bind_none,pZ,Option.map_none,v5,pX,ao,jb,w5,ak,aW,aX,iS,EK,Og,qT,Nat.reduceAdd,Nat.reduceSub,Nat.reduceEqDiff,Nat.reduceLeDiff,Nat.reduceLT,Int.reduceToNat,Int.cast_ofNat_Int,eq_self,
 Q6,if_false,reduceIte,decide_eq_true_eq,decide_true,decide_false,kT,Nw,decide_eq_false_iff_not,Bool.not_true,Bool.not_false,not_true_eq_false,not_false_eq_true,Bool.true_or,Bool.false_or,Bool.or_true,Bool.or_false,Bool.and_true,Bool.true_and,Bool.and_false,Ek,reduceCtorEq,and_self])
set_option hygiene true
namespace Law
open PySem L2
variable{b t y x:Int}{m n:Nat}{f:Nat->f7}{g:Nat->Int}{Z:Int×Int}{Y:List Int}{d:f7}
abbrev gc(a b:Int):Int:=(u4 a b:Nat)
theorem CP(x y:Int):u4 y (x.fmod y)=u4 x y:=by
 rw[Int.fmod_def];apply Nat.dvd_antisymm
 . apply Int.dvd_gcd
   . have d:((u4 y (x-y*x.fdiv y)):Int)∣y:=jc ..;have a:((u4 y (x-y*x.fdiv y)):Int)∣x-y*x.fdiv y:=lK ..;have b:=Int.dvd_add a (Of (c:=x.fdiv y) d)
     rwa [Int.sub_add_cancel]at b
   exact jc ..
 apply Int.dvd_gcd;exact lK ..;exact Int.dvd_sub (jc ..) (Of (lK ..))
theorem pe(x:Int)(h:y≠0):(x.fmod y).natAbs<y.natAbs:=by
 rcases Int.lt_or_gt_of_ne h with a|a
 . have e:Int.fmod x y=x % y+if 0<=y\/y∣x then 0 else y:=Int.fmod_eq_emod
   have:=Int.emod_lt x h;split at e<;>omega
 have:=qi x a;have:=yr x a;omega
def w9(t b:Int):Int×Int:=(t.fdiv (if b<0 then -gc t b else gc t b),b.fdiv (if b<0 then -gc t b else gc t b))
structure t2(m:Nat)(q:Int×Int):Prop where
 pos:0<q.2
 low:u4 q.1 q.2=1
 bt:Bt m q.1
 bb:Bt m q.2
theorem t2.mono(h:t2 m Z)(a:m<=n):t2 n Z:=⟨h.pos,h.low,h.bt.mono a,h.bb.mono a⟩
theorem eN(d:0<b)(f:Bt m t)(a:Bt m b):t2 m (w9 t b):=by
 have g:0<u4 t b:=qU t E6;have e:w9 t b=(t/gc t b,b/gc t b):=by delta w9;rw[j1 (Int.not_lt.2 bx),aq _ o9,aq _ o9]
 have c:gc t b∣b:=lK ..;rw[e];refine⟨Fs d o9 c,tR g,?_,?_⟩
 . have:=f.fdiv (j:=gc t b)
   rwa [aq _ o9]at this
 . have:=a.fdiv (j:=gc t b)
   rwa [aq _ o9]at this
theorem RD{q:Int×Int}(j:t2 m Z)(hq:t2 n q)(h:Z.1*q.2-q.1*Z.2=0):Z=q:=by
 obtain⟨a,b⟩:=Z;obtain⟨c,d⟩:=q;have pb:=j.pos;have e:a*d=c*b:=by have:=h;exact Int.sub_eq_zero.1 k8
 have k:b∣d:=by
  have z:b∣a*d:=⟨c,by rw[e,F1]⟩
  have i:b.natAbs∣a.natAbs*d.natAbs:=by rw[<-cj];exact Int.natAbs_dvd_natAbs.mpr z
  have g:xV b.natAbs a.natAbs:=by rw[yi];exact j.low
  exact Int.natAbs_dvd_natAbs.mp (g.dvd_of_dvd_mul_left i)
 have k2:d∣b:=by
  have z:d∣c*b:=⟨a,by rw[<-e,F1]⟩
  have i:d.natAbs∣c.natAbs*b.natAbs:=by rw[<-cj];simp_all
  have g:xV d.natAbs c.natAbs:=by rw[yi];exact hq.low
  exact Int.natAbs_dvd_natAbs.mp (g.dvd_of_dvd_mul_left i)
 have f:b=d:=by have:=fz hq.pos k;have:=fz pb k2;exact Int.le_antisymm k8 k8
 subst f;have:=tT E6 e;rw[this]
theorem xo(a:b≠0)(h:Bt m b):Bt m (gc t b):=h.of_le (by have:=Int.gcd_le_natAbs_right t a;simp[*])
theorem TJ(a:b≠0):gc t b≠0:=by have:=qU t a;simp[*]
theorem ZN(t b:Int):gc (if t<0 then -t else t) (if b<0 then -b else b)=gc t b:=by
 show((u4 _ _):Int)=(u4 t b)
 have a:∀x y:Int,u4 (if x<0 then -x else x) y=u4 x y:=λx y=>by split<;>simp
 have c:∀x y:Int,u4 x (if y<0 then -y else y)=u4 x y:=λx y=>by split<;>simp
 rw[a,c]
abbrev fr(q:Int×Int):f7:=.tuple [.int q.1,.int q.2]
def bu(p q:Int×Int):Int×Int:=w9 (p.1*q.2+q.1*p.2) (p.2*q.2)
def eJ(p q:Int×Int):Int×Int:=w9 (p.1*q.2-q.1*p.2) (p.2*q.2)
def J9(p q:Int×Int):Int×Int:=w9 (p.1*q.1) (p.2*q.2)
def mj(p q:Int×Int):Bool:=decide (p.1*q.2<q.1*p.2)
abbrev Q2:=Int×Int
variable{q p:Q2}
def val(q:Q2):Rat:=(q.1:Rat)/(q.2:Rat)
theorem fq(h:b≠0):(b:Rat)≠0:=by exact_mod_cast h
theorem ff(d:0<b):val (w9 t b)=(t:Rat)/(b:Rat):=by
 have e:w9 t b=(t/gc t b,b/gc t b):=by delta w9;rw[j1 (Int.not_lt.2 bx),aq _ o9,aq _ o9]
 have c:t/gc t b*gc t b=t:=yu (jc ..);have a:b/gc t b*gc t b=b:=yu (lK ..);rw[e];show((t/gc t b:Int):Rat)/((b/gc t b:Int))=_;have:=fq (show gc t b≠0 by lia)
 generalize gc t b=g at *;have:((t/g:Int):Rat)*g=t:=by exact_mod_cast c
 have:((b/g:Int):Rat)*g=b:=by exact_mod_cast a
 grind
theorem ON(a:0<p.2)(hq:0<q.2):val (bu p q)=val p+val q:=by
 delta bu;rw[ff (F0 a hq)];have:=fq (show p.2≠0 by exact E6);have:=fq (show q.2≠0 by exact E6);delta val
 push_cast
 grind
theorem Ah(a:0<p.2)(hq:0<q.2):val (eJ p q)=val p-val q:=by
 delta eJ;rw[ff (F0 a hq)];have:=fq (show p.2≠0 by exact E6);have:=fq (show q.2≠0 by exact E6);delta val
 push_cast
 grind
theorem rH(a:0<p.2)(hq:0<q.2):val (J9 p q)=val p*val q:=by
 delta J9;rw[ff (F0 a hq)];delta val
 push_cast
 grind
theorem val_inj(a:t2 m p)(hq:t2 n q)(h:val p=val q):p=q:=by
 refine RD a hq ?_;have:=fq (show p.2≠0 by have:=a.pos;exact E6);have:=fq (show q.2≠0 by have:=hq.pos;exact E6)
 have:(p.1:Rat)/p.2=q.1/q.2:=h;have e:(p.1:Rat)*q.2-q.1*p.2=0:=by grind
 exact_mod_cast e
theorem val_one(n:Int):val (n,1)=(n:Rat):=by
 show(n:Rat)/1=n;grind
theorem rR(a:t2 m p)(hq:t2 n q):t2 (m+n+1) (bu p q) :=
 eN (F0 a.pos hq.pos) ((a.bt.mul hq.bb).add ((hq.bt.mul a.bb).mono (nk (pV _ _)))) ((a.bb.mul hq.bb).mono o9)
theorem iu(a:t2 m p)(hq:t2 n q):t2 (m+n) (J9 p q) :=
 eN (F0 a.pos hq.pos) (a.bt.mul hq.bt) (a.bb.mul hq.bb)
theorem qB(h:Bt m b)(a:1<=m):t2 m (b,1):=⟨by simp,by simp,h,Bt.mono ⟨by simp⟩ a⟩
theorem FA(x y:Int)(z:Option PV):bK [iD x,iD y,z]=U (!decide (y=0)):=by rfl
theorem SG(x:Int)(z:Option PV)(h:y≠0):bL [iD x,iD y,z]=U (.next [iD y,iD (x.fmod y),iD (x.fmod y)]):=by delta bL;walk_at "r";rw[aM h];walk_at "r"
theorem kD(l:0<=x)(k:0<=y):L3 [.int x,.int y]=sd (.int (gc x y)):=by
 delta L3;walk_at "r";obtain⟨m,n,⟨a,b,f,rfl,i,g,c⟩,j⟩:=Af (Fc:=bK) (λd=>∃a b f,d=[iD a,iD b,f]/\gc a b=gc x y/\0<=a/\0<=b) (λd=>wZ 1 d-1) (by
  rintro d ⟨a,b,f,rfl,i,g,c⟩;rw[FA];by_cases h:b=0;left;simp[h]
  . right;refine⟨by simp[h],_,SG a f h,⟨b,a.fmod b,_,rfl,?_,c,qi a j7⟩,?_⟩;rw[<-i];show((u4 b (a.fmod b)):Int)=(u4 a b);rw[CP]
    . have:=pe a h;assumption) (y.natAbs+1) [iD x,iD y,J] ⟨x,y,J,rfl,rfl,l,k⟩ (by walk_at "r";simp[*])
 rw[FA]at j;have o:b=0:=by simpa using j
 subst o;have e:gc a 0=a:=by show((u4 a 0))=a;rw[Ny];exact nJ k8
 rw[n,<-i,e];walk_at "r"
theorem gd(d:b≠0)(c:Bt 8000 b):R4 [.int t,.int b]=sd (fr (w9 t b)):=by
 delta R4;walk_at "r";rw[j1 d];walk_at "r";rw[kD (by split<;>lia) (by split<;>lia),ZN];walk_at "r";have f:=TJ (t:=t) d;have a:=xo (t:=t) d c;delta w9;by_cases e:b<0;simp only[j2 e];walk_at "r";rw[J5 o9 a.neg,J5 o9 a.neg];rfl;simp only[j1 e];walk_at "r";rw[J5 f a,J5 f a];rfl
theorem Cw(m:0<b)(g:0<y)(c:u4 x y=1)(a:t*y=x*b):w9 t b=(x,y):=by
 have d:y∣b:=by
  have z:y∣x*b:=⟨t,by rw[<-a,F1]⟩
  have l:y.natAbs∣x.natAbs*b.natAbs:=by rw[<-cj];simp_all
  have i:xV y.natAbs x.natAbs:=by rw[yi];exact c
  exact Int.natAbs_dvd_natAbs.mp (i.dvd_of_dvd_mul_left l)
 obtain⟨k,rfl⟩:=d;have:0<k:=by
  rcases dJ 0 k with h|h
  exact h;have:=qV (O3 g) h;lia
 have j:t=x*k:=by
  have:t*y=(x*k)*y:=by rw[a,L9,F1 y k]
  exact tT E6 this
 subst j;have e:u4 (x*k) (y*k)=k.natAbs:=by rw[Int.gcd_mul_right,c,Nat.one_mul]
 have f:gc (x*k) (y*k)=k:=by show((u4 _ _))=k;rw[e];exact nJ bx
 delta w9;rw[j1 (Int.not_lt.2 bx),f,aq _ bx,aq _ bx,NF _ E6,NF _ E6]
theorem jK(z:u4 x y=1)(a:u4 x b=1):u4 x (y*b)=1:=by
 show Nat.gcd x.natAbs (y*b).natAbs=1;rw[cj];exact Nat.Coprime.mul_right z a
theorem bA(z:u4 x y=1)(a:b∣y):u4 x b=1 :=
 Nat.Coprime.coprime_dvd_right (Int.natAbs_dvd_natAbs.mpr a) z
theorem P1(h:u4 x y=1):u4 y x=1:=by rw[xW];exact h
theorem HH(h:u4 x y=1):u4 (x+b*y) y=1:=by simp_all
theorem Qv(I:0<b)(hd:0<x)(G:u4 t b=1)(H:u4 y x=1):
  let s:=gc b x
  let a:=t*x.fdiv s+y*b.fdiv s
  let e:=gc a s
  0<s/\0<e/\w9 (t*x+y*b) (b*x)=(a.fdiv e,b.fdiv s*x.fdiv e):=by
 have F:0<u4 b x:=qU b E6;have L:0<gc b x:=by lia
 obtain⟨b',g⟩:gc b x∣b:=jc ..;obtain⟨d',f⟩:gc b x∣x:=lK ..;have c:u4 b' d'=1:=by
  have:=tR F;have v:b/((u4 b x))=b':=by
   conv=>lhs;lhs;rw[g]
   rw[iT _ E6]
  have q2:x/((u4 b x))=d':=by
   conv=>lhs;lhs;rw[f]
   rw[iT _ E6]
  rwa [v,q2]at this
 intro s a e;have q:gc b x=s:=rfl;have z:b.fdiv s=b':=by rw[aq _ bx];rw[q]at g;rw[g,iT _ E6]
 have C:x.fdiv s=d':=by rw[aq _ bx];rw[q]at f;rw[f,iT _ E6]
 have r:a=t*d'+y*b':=by show t*x.fdiv s+y*b.fdiv s=_;rw[z,C]
 have w:0<u4 a s:=qU a E6;have A:0<e:=by show(0:Int)<((u4 a s));exact Int.natCast_pos.2 k8
 refine⟨L,A,?_⟩;rw[q]at g f
 clear_value s
 obtain⟨n,i⟩:e∣a:=jc ..;obtain⟨m,k⟩:e∣s:=lK ..;have o:u4 n m=1:=by
  have:=tR w;have v:a/((u4 a s))=n:=by
   show a/e=n;rw[i,iT _ E6]
  have q2:s/((u4 a s))=m:=by
   show s/e=m;rw[k,iT _ E6]
  rwa [v,q2]at this
 clear_value e
 have p:0<b':=by
  rcases dJ 0 b' with h|h
  exact h;have:=qV (O3 (show(0:Int)<s by lia)) h;lia
 have d:0<d':=by
  rcases dJ 0 d' with h|h
  exact h;have:=qV (O3 (show(0:Int)<s by lia)) h;lia
 have u:0<m:=by
  rcases dJ 0 m with h|h
  exact h;have:=qV (O3 A) h;lia
 have D:u4 a b'=1:=by
  rw[r];have:=P1 (jK (P1 (bA G ⟨s,by rw[g,F1]⟩)) c);exact HH this
 have E:u4 a d'=1:=by
  rw[r,Int.add_comm];have:=P1 (jK (P1 (bA H ⟨s,by rw[f,F1]⟩)) (P1 c));exact HH this
 have dt:n∣a:=⟨e,by rw[i,F1]⟩
 have K:x.fdiv e=m*d':=by rw[aq _ bx,f,k,L9,iT _ E6]
 have B:a.fdiv e=n:=by rw[aq _ bx,i,iT _ E6]
 rw[z,K,B];apply Cw (F0 I hd) (F0 p (F0 u d));exact jK (P1 (bA (P1 D) dt)) (jK o (P1 (bA (P1 E) dt)))
 . have e1 : t * x + y * b = s * a := by rw [r, cC]; conv => lhs; rw [g, f]
                                         simp only[ny]
   rw[e1,i]
   conv=>rhs;rw[g,f]
   rw[k];simp only[ny,F1]
theorem Kf(a:0<b)(hd:0<x)(G:u4 t b=1)(H:u4 y x=1):
  let e:=gc t x
  let f:=gc y b
  0<e/\0<f/\w9 (t*y) (b*x)=(t.fdiv e*y.fdiv f,b.fdiv f*x.fdiv e):=by
 have l:∀{d c:Int},0<c->∃x' y',0<gc d c/\d=gc d c*x'/\c=gc d c*y'/\0<y'/\u4 x' y'=1/\d.fdiv (gc d c)=x'/\c.fdiv (gc d c)=y':=by
  intro d c O;have E:0<u4 d c:=qU d E6;have w:0<gc d c:=by lia
  obtain⟨x',k⟩:gc d c∣d:=jc ..;obtain⟨y',j⟩:gc d c∣c:=lK ..
  have q1 : d / gc d c = x' := by conv => lhs; lhs; rw [k]
                                  rw[iT _ E6]
  have q2 : c / gc d c = y' := by conv => lhs; lhs; rw [j]
                                  rw[iT _ E6]
  refine⟨x',y',w,k,j,?_,?_,?_,?_⟩
  . rcases dJ 0 y' with h|h
    exact h;have:=qV (O3 w) h;lia
  . have:=tR E
    rwa [q1,q2]at this
  rw[aq _ bx,q1];rw[aq _ bx,q2]
 obtain⟨N,L,z,m,n,I,D,A,r⟩:=l hd;obtain⟨M,P,q,p,o,pb,K,v,u⟩:=l a;intro e f;have B:gc t x=e:=rfl;have F:gc y b=f:=rfl;rw[B]at z m n A r;rw[F]at q p o v u;refine⟨z,q,?_⟩
 clear_value e f
 rw[A,r,v,u];apply Cw (F0 a hd) (F0 pb I);have C:=P1 (bA (P1 (bA G ⟨f,by rw[o,F1]⟩)) ⟨e,by rw[m,F1]⟩);exact P1 (jK (P1 (jK C D)) (P1 (jK K (P1 (bA (P1 (bA H ⟨e,by rw[n,F1]⟩)) ⟨f,by rw[p,F1]⟩)))))
 . conv=>lhs;rw[m,p]
   conv=>rhs;rw[o,n]
   simp only[ny,F1]
theorem zO(t b:Int):gc (if t<0 then -t else t) b=gc t b:=by
 show((u4 _ _):Int)=(u4 t b)
 split<;>simp
theorem ZM(c:0<b)(h:Bt m b):Bt m (gc b t):=h.of_le (by have:=Int.gcd_le_natAbs_left (a:=b) t E6;simp[*])
theorem mr(a:t2 m p)(hq:t2 n q)(h:m+n<=7998):U3 [fr p,fr q]=sd (fr (J9 p q)):=by
 have g:Bt 60000 p.1:=a.bt.mono (p5 ph f5);have i:Bt 60000 p.2:=a.bb.mono (p5 ph f5);have d:Bt 60000 q.1:=hq.bt.mono (p5 rZ f5);have e:Bt 60000 q.2:=hq.bb.mono (p5 rZ f5);obtain⟨k,j,f⟩:=Kf a.pos hq.pos a.low hq.low;have b:Bt 8000 (gc p.1 q.2):=(xo (by have:=hq.pos;exact E6) hq.bb).mono (p5 rZ f5);have c:Bt 8000 (gc q.1 p.2):=(xo (by have:=a.pos;exact E6) a.bb).mono (p5 ph f5);have:=a.pos;have:=hq.pos;delta U3;walk_at "r";rw[kD (by split<;>lia) bx,zO];walk_at "r";rw[kD (by split<;>lia) bx,zO];walk_at "r";simp only[J5 (show gc p.1 q.2≠0 by exact E6) b,J5 (show gc q.1 p.2≠0 by exact E6) c];walk_at "r";rw[t6 g.fdiv d.fdiv];walk_at "r";simp only[J5 (show gc p.1 q.2≠0 by exact E6) b,J5 (show gc q.1 p.2≠0 by exact E6) c];walk_at "r";rw[t6 i.fdiv e.fdiv];delta J9;rw[f];rfl
abbrev F9(ns:List Int):f7:=.list (ns.map .int)
theorem Gv(ns:List Int):(ns.map V0).length=ns.length:=(A6 ..)
theorem Kx(a:0<=b)(h:b<Y.length):V4 (Y.map V0) b=U (.int (Y.getD b.toNat 0)):=by
 rw[dQ (n:=b.toNat) ((Int.toNat_of_nonneg k8).symm) (by simp;simp[*]),L1,F2 o9];simp[F2 (show b.toNat<Y.length by simp[*])]
def vU:DO:=(j9 (k9 4 (j8 df (j8 F7 (j8 p8 (j8 df (j4 3) (fC (.int 1000003))) (fC (.int 1))) (j8 p8 (j8 p8 (j8 F7 (j4 1) (j4 1)) (j4 1)) (fC (.int 41)))) (fC (.int 999983)))) (A1 (j8 df (j8 T7 (j8 df (j8 F7 (j8 df (j8 F7 (j4 4) (j8 p8 (j4 4) (fC (.int 7919)))) (fC (.int 2147483647))) (fC (.int 69621))) (fC (.int 2147483629))) (fC (.int 11))) (j4 2))))
theorem Mz(g:0<=b)(f:b<=1000000)(e:0<t):∃r:Int,vU [sd d,iD b,iD t,iD y,J]=U (.ret (.dat (.int r)))/\0<=r/\r<t:=by
 have k:∀z:Int,0<=z.fmod t/\z.fmod t<t:=λz=>⟨qi z e,yr z e⟩;have a:Bt 62 b:=Bt.small j7 (yq k8 f5);have bk:Bt 200 (b*b+b+41):=((((a.mul a).add (a.mono f5)).add (Bt.mono (Bt.small f5 f5) f5))).mono f5;delta vU;walk_at "r";rw[aM f5];walk_at "r";rw[t6 (a.mono f5) (a.mono f5)];walk_at "r";rw[t6 (Bt.nX j7 j7) (bk.mono f5)];walk_at "r";rw[aM f5];walk_at "r";rw[t6 (Bt.nX j7 j7) (Bt.nX j7 j7)];walk_at "r";rw[aM f5];walk_at "r";rw[t6 (Bt.nX j7 j7) Bt.lit];walk_at "r";rw[aM f5];walk_at "r";rw[J5 f5 Bt.lit];walk_at "r";rw[aM E6];exact⟨_,rfl,k _⟩
theorem U2{k m:Int}(l:Y.length<=63)(d:0<=k)(e:k<=1000000)(f:0<m):∃r:Int,D2 [F9 Y,.int k,.int m]=sd (.int r)/\0<=r/\r<m:=by
 have g:∀z:Int,0<=z.fmod m/\z.fmod m<m:=λz=>⟨qi z f,yr z f⟩
 have a:∀c,∃r:Int,(vU [sd (F9 Y),iD k,iD m,iD c,J]).bind Iz=sd (.int r)/\0<=r/\r<m:=λc=>by obtain⟨r,h,j⟩:=Mz d e f;rw[h];exact⟨r,rfl,j⟩
 delta D2;walk_at "r";rw[Gv];by_cases b:(0:Int)<Y.length
 . rw[j2 b,aM E6];walk_at "r";rw[Kx (qi k b) (yr k b)];walk_at "r";rw[Kx (pR 0) b];walk_at "r";rw[aM f5];walk_at "r";by_cases i:Int.fmod (Y.getD 0 0) 2=1
   . rw[j2 i,Gv];have:0<=k.fdiv Y.length:=Int.fdiv_nonneg d o9;have:k.fdiv Y.length<=k:=by
      have:=NP k Y.length;lia
     rw[J5 f5 Bt.lit,J5 E6 (Bt.nX (qg _) j7)];walk_at "r";rw[t6 Bt.lit (Bt.nX jM jM)];walk_at "r";rw[Pj jM,Cd ⟨by decide,by decide,by decide⟩];walk_at "r";rw[aM f5];walk_at "r";rw[aM E6];walk_at "r";exact⟨_,rfl,g _⟩
   rw[j1 i];simp only[o5];exact a _
 rw[j1 b];simp only[o5];exact a 0
theorem HP(x y:Int)(a b z:Option PV):lN [a,b,iD x,iD y,z]=U (decide (0<y)):=by rfl
theorem WM(x:Int)(a b z:Option PV)(h:y≠0):lR [a,b,iD x,iD y,z]=U (.next [a,b,iD y,iD (x.fmod y),iD (x.fmod y)]):=by delta lR;walk_at "r";rw[aM h];walk_at "r"
theorem norm_eq(r:0<b)(l:Bt 8000 b):gX [.int t,.int b]=sd (fr (w9 t b)):=by
 delta gX;walk_at "r";obtain⟨n,p,⟨a,c,j,rfl,k,m,g⟩,o⟩:=Af (Fc:=lN) (λi=>∃a c j,i=[iD t,iD b,iD a,iD c,j]/\gc a c=gc t b/\0<=a/\0<=c) (λi=>wZ 3 i-1) (by
  rintro i ⟨a,c,j,rfl,k,m,g⟩;rw[HP];by_cases h:c=0;left;simp[h]
  . right;refine⟨by simp;lia,_,WM a _ _ j h,⟨c,a.fmod c,_,rfl,?_,g,qi a j7⟩,?_⟩;rw[<-k];show((u4 c (a.fmod c)):Int)=(u4 a c);rw[CP]
    . have:=pe a h;assumption) (b.natAbs+1) [iD t,iD b,iD (if t<0 then -t else t),iD b,J] ⟨_,b,J,rfl,by
       show((u4 (if t<0 then -t else t) b):Int)=(u4 t b)
       split<;>simp,by split<;>lia,bx⟩ (by walk_at "r";simp[*])
 rw[HP]at o;have q:c=0:=by lia
 subst q;have e:gc a 0=a:=by show((u4 a 0))=a;rw[Ny];exact nJ k8
 rw[e]at k;subst k;rw[p];walk_at "r";have d:=TJ (t:=t) (show b≠0 by exact E6);have f:=xo (t:=t) (show b≠0 by exact E6) l;rw[J5 d f,J5 d f];delta w9;rw[j1 (Int.not_lt.2 bx)];rfl
theorem a2m(a:t2 m p)(hq:t2 n q)(h:m+n<=7998):D6 [fr p,fr q]=sd (fr (bu p q)):=by have d:Bt 60000 p.1:=a.bt.mono (p5 ph f5);have e:Bt 60000 p.2:=a.bb.mono (p5 ph f5);have b:Bt 60000 q.1:=hq.bt.mono (p5 rZ f5);have c:Bt 60000 q.2:=hq.bb.mono (p5 rZ f5);delta D6;walk_at "r";simp only[t6,d,e,b,c];walk_at "r";rw[norm_eq (F0 a.pos hq.pos) ((a.bb.mul hq.bb).mono ju)];rfl
theorem Wh(a:t2 m p)(hq:t2 n q)(h:m+n<=7998):D9 [fr p,fr q]=sd (fr (J9 p q)):=by have d:Bt 60000 p.1:=a.bt.mono (p5 ph f5);have e:Bt 60000 p.2:=a.bb.mono (p5 ph f5);have b:Bt 60000 q.1:=hq.bt.mono (p5 rZ f5);have c:Bt 60000 q.2:=hq.bb.mono (p5 rZ f5);delta D9;walk_at "r";simp only[t6,d,e,b,c];walk_at "r";rw[norm_eq (F0 a.pos hq.pos) ((a.bb.mul hq.bb).mono ju)];rfl
structure Tr where
 a:Q2
 b:Q2
 c:Q2
noncomputable def F5(x:Tr):f7:=.tuple [fr x.a,fr x.b,fr x.c]
structure gS(m:Nat)(x:Tr):Prop where
 a:t2 m x.a
 b:t2 m x.b
 c:t2 m x.c
theorem CL(x:Tr):u9 (F5 x) (.int 0)=sd (fr x.a):=rfl
theorem CK(x:Tr):u9 (F5 x) (.int 1)=sd (fr x.b):=rfl
theorem CJ(x:Tr):u9 (F5 x) (.int 2)=sd (fr x.c):=rfl
noncomputable def Bp(x y:Tr)(q:Q2):Tr:=⟨bu x.a (J9 y.a q),bu x.b (J9 y.b q),bu x.c (J9 y.c q)⟩
def a2q(q:Q2):Q2:=(0-q.1,q.2)
theorem An(q:Q2):ah (fr q)=Uf:=by rfl
theorem zd(p q:Q2):lj (fr p) (fr q)=sd (.bool (decide (p≠q))):=by
 show(if ah (fr p)=Uf/\ah (fr q)=Uf then U (PV.dat (.bool (!PyData.eqv (fr p) (fr q))))else J)=_
 rw[j2 ⟨An p,An q⟩];have e:U0 (fr p) (fr q)=decide (p=q):=by rw[qa];simp[U0,tc,Prod.ext_iff]
 rw[e];simp
noncomputable def a0a(x y:Tr):Bool:=if x.a≠y.a then mj x.a y.a else if x.b≠y.b then mj x.b y.b else if x.c≠y.c then mj x.c y.c else U'
structure Sh(k:Nat)(d:f7):Prop where
 c:d.canLay0=Uf
 d:d.depth<=k
mutual
theorem RL:∀d:f7,d.canLay0=Uf->U0 d d=Uf
 | .none,_=>rfl
 | .bool b,_=>by simp[U0]
 | .int i,_=>by simp[U0]
 | .str x,_=>by simp[U0]
 | .list a,h=>by rw[U0];exact sA a (by assumption)
 | .tuple a,h=>by rw[U0];exact sA a (by assumption)
 | .dict _,h=>by assumption
theorem sA:∀l:List f7,fE l=Uf->tc l l=Uf
 | [],_=>rfl
 |x::r,h=>by
  have a:x.canLay0=Uf/\fE r=Uf:=by simpa [fE]using h
  rw[tc,RL x a.1,sA r a.2];rfl
end
structure FD(D M:Int)(q:Q2):Prop where
 pos:0<q.2
 low:u4 q.1 q.2=1
 dvd:q.2∣D
 se:(q.1.natAbs:Int)<=M*q.2
theorem FD.mono(h:FD t y q)(hd:t∣b)(c:y<=x):FD b x q :=
 ⟨h.pos,h.low,iZ h.dvd hd,Q8 h.se (lM c (O3 h.pos))⟩
theorem FD.a2w(h:FD b t q)(hD:0<b)(D:Bt m b)(a:Bt m (t*b)):t2 m q:=by
 have l:=fz hD h.dvd;have p:=h.pos;have:=h.se;have hM:0<=t:=by
  rcases dJ t 0 with c|c
  have:=yC c p;lia;exact c
 have:=fF l hM;exact⟨p,h.low,a.of_le j7,D.of_le j7⟩
theorem W0(d:0<b):0<(w9 t b).2/\u4 (w9 t b).1 (w9 t b).2=1/\(w9 t b).1*b=t*(w9 t b).2/\(w9 t b).2∣b:=by
 have f:0<u4 t b:=qU t E6;have e:w9 t b=(t/gc t b,b/gc t b):=by delta w9;rw[j1 (Int.not_lt.2 bx),aq _ o9,aq _ o9]
 have h:gc t b∣t:=jc ..;have a:gc t b∣b:=lK ..;have c:=yu a;rw[e];refine⟨Fs d o9 a,tR f,?_,⟨gc t b,c.symm⟩⟩;generalize gc t b=g at *;have:t/g*b=t/g*(b/g*g):=by rw[c]
 rw[this,F1 (b/g) g,<-L9,(yu h)]
theorem Wl{c:Int}(a:0<b)(h:t*y=c*b):(w9 t b).2∣y:=by
 obtain⟨p,l,e,_⟩:=W0 a;generalize (w9 t b).1=x at *;generalize (w9 t b).2=D at *;have k:x*y=c*D:=by
  apply tT (show b≠0 by exact E6);grind
 have z:D∣x*y:=⟨c,by rw[k,F1]⟩
 have f:D.natAbs∣x.natAbs*y.natAbs:=by rw[<-cj];exact Int.natAbs_dvd_natAbs.mpr z
 have d:xV D.natAbs x.natAbs:=by rw[yi];exact l
 exact Int.natAbs_dvd_natAbs.mp (d.dvd_of_dvd_mul_left f)
theorem GZ(d:0<b)(h:(t.natAbs:Int)<=y*b):(((w9 t b).1).natAbs:Int)<=y*(w9 t b).2:=by
 obtain⟨p,l,e,_⟩:=W0 d;generalize (w9 t b).1=x at *;generalize (w9 t b).2=M at *;have f:x.natAbs*b=t.natAbs*M:=by
  have:=r9 Int.natAbs e;rw[cj,cj]at this;have a:b.natAbs=b:=by lia
  have c:M.natAbs=M:=by lia
  rw[<-a,<-c]
  exact_mod_cast this
 apply Int.le_of_mul_le_mul_right _ d;rw[f];have:=lM h (O3 p)
 calc t.natAbs*M<=y*b*M:=this
  _=y*M*b:=by simp only[ny,F1]
theorem FD.plus(D:FD b t p)(hq:FD b y q):FD b (t+y) (bu p q):=by
 have d:=F0 D.pos hq.pos;obtain⟨a,l,_,_⟩:=W0 d;obtain⟨u,f⟩:=D.dvd;obtain⟨v,e⟩:=hq.dvd;refine⟨a,l,Wl (c:=p.1*u+q.1*v) d ?_,GZ d ?_⟩
 . have h:p.1*q.2*b=p.1*u*(p.2*q.2):=by rw[f];simp only[ny,F1]
   have g:q.1*p.2*b=q.1*v*(p.2*q.2):=by rw[e];simp only[ny,F1]
   rw[DR,DR,h,g]
 . have:=lM D.se (O3 hq.pos);have:=lM hq.se (O3 D.pos);have:((p.1*q.2).natAbs)=p.1.natAbs*q.2:=by
    rw[cj];have:q.2.natAbs=q.2:=by have:=hq.pos;exact nJ bx
    push_cast;rw[this]
   have:((q.1*p.2).natAbs)=q.1.natAbs*p.2:=by
    rw[cj];have:p.2.natAbs=p.2:=by have:=D.pos;exact nJ bx
    push_cast;rw[this]
   lia
theorem FD.times(D:FD b y p)(hq:FD t x q):FD (b*t) (y*x) (J9 p q):=by
 have c:=F0 D.pos hq.pos;obtain⟨a,l,_,d⟩:=W0 c;refine⟨a,l,iZ d (Int.mul_dvd_mul D.dvd hq.dvd),GZ c ?_⟩;have:((p.1*q.1).natAbs:Int)=p.1.natAbs*q.1.natAbs:=by rw[cj];rfl
 rw[this];have e:0<=y*p.2:=by have:=D.se;lia
 calc p.1.natAbs*q.1.natAbs<=(y*p.2)*(x*q.2):=tw D.se hq.se o9 e
  _=y*x*(p.2*q.2):=by simp only[ny,F1]
structure TD(D M:Int)(x:Tr):Prop where
 a:FD D M x.a
 b:FD D M x.b
 c:FD D M x.c
theorem oX(lo:Int)(n:Nat):(Q1 lo n).length=n:=by simp[Q1]
def HQ(l m:List f7):List f7:=pW (λx y=>.tuple [x,y]) l m
theorem OE(l m:List f7):cq [.list l,.list m]=U (HQ l m):=rfl
abbrev q0:Q2:=(0,1)
theorem pI(a:1<=m):t2 m q0:=qB (Bt.mono ⟨by decide⟩ a) a
abbrev oo(l:List Q2):f7:=.list (l.map fr)
noncomputable def T1:Option Q2->f7
 |none=>.none
 |some q=>fr q
abbrev a3b(l:List (Option Q2)):f7:=.list (l.map T1)
abbrev W7(l:List (List Q2)):f7:=.list (l.map oo)
def a0q(k:Nat)(l:List Q2):Prop:=∀q∈l,t2 k q
noncomputable abbrev rl(n:Nat)(f:Nat->f7):List f7:=(A3 n).map f
abbrev il(n:Nat)(f:Nat->Int):f7:=.list (rl n λi=>.int (f i))
theorem A7(n:Nat)(f:Nat->f7):(rl n f).length=n:=by simp[rl]
theorem G7(f:Nat->f7)(h:m<n):V4 (rl n f) (m:Int)=U (f m):=by
 rw[dQ rfl (by rw[A7];exact h),L1,nI h];rfl
theorem Ky(f:Nat->f7)(h:m<n):V4 (rl n f) (0+(m:Int))=U (f m):=by rw[O1];exact G7 f h
theorem aK{g:Nat->f7}(h:∀i,i<n->f i=g i):rl n f=rl n g:=tP λi a=>h i (mem_range.mp a)
theorem fW(f:Nat->f7)(x:f7):(rl n f).set m x=rl n λk=>if k=m then x else f k:=by
 apply qc t7;intro k b a;simp only[Ez,qb,EJ];by_cases c:m=k;rw[j2 c,j2 c.symm];rw[j1 c,j1 λz=>c z.symm]
theorem wH(h:(rl n f)[m]? = U d):m<n/\d=f m:=by
 have a:m<n:=by
  by_cases c:m<n;exact c;rw[yy (by rw[A7];exact nu k8)]at h;exact nE h
 rw[L1,nI a]at h;cases h;exact⟨a,rfl⟩
theorem UY(n:Nat)(f:Nat->f7):rl n f++[f n]=rl (n+1) f:=by simp[rl,fA]
theorem XJ(n:Nat)(x:f7):(w5 n [x]).flatten=rl n λ_=>x:=by
 induction n with
 |zero=>rfl
 |succ n a=>rw[List.replicate_succ',List.flatten_append,a,<-UY];simp
theorem WQ(f g:Nat->f7):HQ (rl n f) (rl n g)=rl n λi=>.tuple [f i,g i]:=by
 apply qc (by simp[HQ]);intro k b a;simp[HQ]
theorem km(f g:Nat->f7)(n:Nat):cq [.list (rl n f),.list (rl n g)]=U (rl n λi=>.tuple [f i,g i]):=by rw[OE,WQ]
theorem uH:∀(n:Nat) (f:Nat->f7) (o:Int),T8 o (rl n f)=rl n λi=>.tuple [.int (o+(i:Int)),f i]:=by
 intro l_;induction l_ with
 |zero =>
  intro f o;exact rfl
 |succ n ih_ =>
  intro f o;have e:∀g:Nat->f7,rl (n+1) g=g 0::rl n λi=>g (i+1):=λg=>by rw[rl,List.range_succ_eq_map,v5,ei];rfl
  rw[e,e,T8,ih_]
  congr 1
  simp
  . exact aK λi _=>by rw[show o+1+i=o+((i+1:Nat))from by lia]
theorem wG(n:Nat):Q1 0 n=rl n λi=>.int (i:Int):=by exact tP λi _=>by rw[O1]
theorem K3{Fe:DV}{ds:Ds}{g:Nat->f7}{gt:f7->Option (List f7)}(h:∀i,i<n->∃bs pv,gt (f i)=U bs/\Fe (N8 bs++ds)=U pv/\pv.d=g i):L8 gt q5 Fe ds (rl n f)=U (rl n g):=by
 have a:∀k,k<=n->L8 gt q5 Fe ds ((rl n f).drop (n-k))=U ((rl n g).drop (n-k)):=by
  intro k;induction k with
  |zero=>intro _;rw[Nat.sub_zero,EY (by simp[rl]),EY (by simp[rl])];rfl
  |succ k m =>
   intro o;have b:n-(k+1)<n:=by lia
   have c:∀f:Nat->f7,(rl n f).drop (n-(k+1))=f (n-(k+1))::(rl n f).drop (n-k):=λf=>by
    rw[qk (by simpa [rl]using b),show n-(k+1)+1=n-k from by lia];simp[rl]
   rw[c,c];obtain⟨bs,pv,j,e,l⟩:=h _ b;unfold L8;simp only[j,n8,q5,Q6];rw[e];rw[m cw];simp only[n8,l]
 have:=a n y4;rw[Nat.sub_self]at this;exact this
theorem Wq(n:Nat)(f:Nat->Int):intsOf (rl n λi=>.int (f i))=U ((A3 n).map f):=ints_map f _
theorem Kk(n:Nat)(f:Nat->Int):((A3 n).map f).sum=Sx.sm n f:=by
 induction n with
 |zero=>rfl
 |succ n a=>rw[fA,aj,List.sum_append,a,Sx.sm];simp
noncomputable abbrev fT(c:List (Nat×Int)):f7:=.list (c.map λe=>.tuple [.int (e.1:Int),.int e.2])
def K4:List (Nat×Int)->Nat->Int
 | [],_=>0
 |e::c,r=>(if e.1=r then e.2 else 0)+K4 c r
theorem Sa(f:Nat->Int):∀c:List (Nat×Int),(∀e∈c,e.1<m)->(c.map λe=>f e.1*e.2).sum=Sx.dot m f (K4 c):=by
 intro l_;induction l_ with
 |nil =>
  intro _;delta Sx.dot;rw[Sx.hF λi _=>by rw[K4,Q9]];rfl
 |cons e c ih_ =>
  intro h;rw[v5,List.sum_cons,(ih_ λx g=>h x (u7 _ g))]
  delta Sx.dot;have d:(Sx.sm m λr=>f r*K4 (e::c) r)=Sx.sm m λr=>(if r=e.1 then f e.1*e.2 else 0)+f r*K4 c r:=Sx.o7 λr _=>by
   rw[K4];by_cases z:e.1=r;rw[j2 z,j2 z.symm,z,cC];rw[j1 z,j1 λy=>z y.symm,O1,O1]
  have a:(Sx.sm m λr=>if r=e.1 then f e.1*e.2 else 0)=f e.1*e.2:=by rw[Sx.R6 (h e v8) λi _ b=>by rw[j1 b],j2 rfl]
  rw[d,Sx.iz,a]
theorem aO(h:n<=1000):(rl n f).length<=1000000:=by rw[A7];exact ju
theorem Iq{f:Nat->Int}(c:m<=1000)(b:∀i,i<m->Bt 60000 (f i))(d:∀i,i<m->Bt 60000 (g i)):kU [il m f,il m g]=sd (.int (Sx.dot m f g)):=by
 delta kU;walk_at "r";rw[km];walk_at "r";rw[j2 (aO c),K3 λi a=>⟨_,_,rfl,by delta oQ;walk_at "r";rw[t6 (b i a) (d i a)],rfl⟩];walk_at "r";rw[Wq];walk_at "r";rw[Kk];rfl
theorem xD{c:List (Nat×Int)}(p:c.length<=1000)(a:∀e∈c,e.1<m/\Bt 60000 e.2)(k:∀i,i<m->Bt 60000 (g i)):W6 [il m g,fT c]=sd (.int (Sx.dot m g (K4 c))):=by
 delta W6;walk_at "r";have e:L8 (N5 2) q5 S0 [sd (il m g),sd (fT c)] (c.map λe=>.tuple [.int e.1,.int e.2])=U (c.map λe=>.int (g e.1*e.2)):=by
  have:∀l:List (Nat×Int),(∀e∈l,e.1<m/\Bt 60000 e.2)->L8 (N5 2) q5 S0 [sd (il m g),sd (fT c)] (l.map λe=>.tuple [.int e.1,.int e.2])=U (l.map λe=>.int (g e.1*e.2)):=by
   intro l;induction l with
   |nil=>intro _;rfl
   |cons x l o =>
    intro h;obtain⟨b,f⟩:=h x v8;rw[v5,L8];simp only[N5,ao,jb,Q6,n8,oq,qM,ak,aW];have d:S0 [sd (.int x.1),sd (.int x.2),sd (il m g),sd (fT c)]=sd (.int (g x.1*x.2)):=by delta S0;walk_at "r";rw[G7 _ b];walk_at "r";rw[t6 (k _ b) f]
    rw[d];rw[o λy n=>h y (u7 _ n)];rfl
  exact this c a
 rw[j2 (by rw[A6];exact ju),e];walk_at "r";rw[ints_map,n8,Sa g c λe j=>(a e j).1];rfl
theorem Ai{f:Nat->Int}(j:m<=1000)(o:∀i,i<m->Bt 20000 (f i))(n:∀i,i<m->Bt 20000 (g i))(l:Bt 20000 b)(q:Bt 20000 t)(p:Bt 8000 y)(s:0<y):
  ∃r,gT [il m f,il m g,.int b,.int t,.int y]=U r/\r.d=il m λi=>(f i*t-b*g i).fdiv y:=by
 have k:(b=0/\t=y)\/¬(b=0/\t=y):=Classical.em _;rcases k with ⟨a,h⟩|c
 subst a h;refine⟨.dat (il m f),?_,?_⟩;delta gT;walk_at "r";show nc (rl m λi=>.int (f i))=.list (rl m λi=>.int ((f i*t-0*g i).fdiv t));rw[aK λi _=>?_];rw[bE,sV,Int.mul_fdiv_cancel _ E6]
 . refine⟨.own (rl m λi=>.int ((f i*t-b*g i).fdiv y)),?_,rfl⟩
   delta gT;walk_at "r";have e:(if b=0 then(U (decide (t=y)))else U U')=U U':=by
    by_cases a:b=0;rw[j2 a,S6 λz=>c ⟨a,z⟩];rw[j1 a]
   rw[e];walk_at "r";rw[km];walk_at "r";rw[j2 (aO j),K3 λi d=>⟨_,_,rfl,by delta qY;walk_at "r";rw[t6 ((o i d).mono f5) (q.mono f5),t6 (l.mono f5) ((n i d).mono f5)];walk_at "r";rw[J5 E6 p],rfl⟩];rfl
end Law
set_option hygiene false
local macro_rules | `(tactic| walk_at "f") => `(tactic| repeat (first|rw[j2 trivial]|rw[j1 t4]))
set_option hygiene true
namespace Law
open PySem L2
structure P7 where
 m:Nat
 n:Nat
 sc:Nat->Int
 col:Nat->List (Nat×Int)
 mu:Nat->Int
 wt:Nat->Nat->Int
 un:Int
 lim:Nat->Option Int
def fS:Option Int->f7
 |none=>.none
 |some v=>.int v
def P7.pb(Q:P7)(b:Nat->Int):Sx.Pb:=⟨Q.m,Q.n,λj=>K4 (Q.col j),b,Q.lim,Q.wt⟩
noncomputable def D8(Q:P7)(T:Sx.Tb):List (Str×PF):=[("scales",.dat (il Q.n Q.sc)),("columns",.dat (.list (rl Q.n λj=>fT (Q.col j)))),("multiples",.own (rl 3 λt=>.int (Q.mu t))),("weights",.own (rl 3 λt=>il Q.n (Q.wt t))),("unit",.dat (.int Q.un)),("rights",.own (rl Q.m λp=>.int (T.rt p))),("limits",.dat (.list (rl Q.n λj=>fS (Q.lim j)))),("chosen",.own (rl Q.m λk=>.int (T.B k:Int))),("full",.own (rl Q.n λj=>.bool (T.full j))),("size",.dat (.int T.size)),("inverse",.dat (.list (rl Q.m λk=>il Q.m (T.inv k)))),("prices",.own (rl 3 λt=>il Q.m (T.pr t)))]
abbrev t8(Q:P7)(T:Sx.Tb):OD:=.ins "Table" (D8 Q T)
def A2(Q:P7)(T:Sx.Tb):f7:=(t8 Q T).d
abbrev LH:List Str:=["scales","columns","multiples","weights","unit","rights","limits","chosen","full","size","inverse","prices"]
noncomputable abbrev lT(Q:P7)(T:Sx.Tb):List f7:=[(il Q.n Q.sc),(.list (rl Q.n λj=>fT (Q.col j))),.list (rl 3 λt=>.int (Q.mu t)),.list (rl 3 λt=>il Q.n (Q.wt t)),(.int Q.un),.list (rl Q.m λp=>.int (T.rt p)),(.list (rl Q.n λj=>fS (Q.lim j))),.list (rl Q.m λk=>.int (T.B k:Int)),.list (rl Q.n λj=>.bool (T.full j)),(.int T.size),(.list (rl Q.m λk=>il Q.m (T.inv k))),.list (rl 3 λt=>il Q.m (T.pr t))]
theorem Xq(Q:P7)(T:Sx.Tb):A2 Q T=zG "Table" LH (lT Q T):=rfl
theorem aD(Q:P7)(T:Sx.Tb):uq "Table" (A2 Q T)=U (LH.map .str,lT Q T):=by rw[Xq];exact Ml _ _ _
theorem MV(w:Option Addr)(Q:P7)(T:Sx.Tb):PV.d (.ob w (.ins "Table" (D8 Q T)))=A2 Q T:=rfl
theorem AR(b:Bool):Ua (PV.d (.dat (.bool b)))=U b:=rfl
section
variable(Q:P7)(T:Sx.Tb)
theorem xr:T6 "Table" "scales" (A2 Q T)=U ((il Q.n Q.sc)):=by delta T6;rw[aD,n8];simp only[v5,P5];walk_at "f"
theorem Az:w4 "scales" (D8 Q T)=U (.dat (il Q.n Q.sc)):=by simp only[D8,w4];walk_at "f"
theorem vd:T6 "Table" "columns" (A2 Q T)=U ((.list (rl Q.n λj=>fT (Q.col j)))):=by delta T6;rw[aD,n8];simp only[v5,P5];walk_at "f"
theorem xg:w4 "columns" (D8 Q T)=U (.dat (.list (rl Q.n λj=>fT (Q.col j)))):=by simp only[D8,w4];walk_at "f"
theorem rn:T6 "Table" "multiples" (A2 Q T)=U (.list (rl 3 λt=>.int (Q.mu t))):=by delta T6;rw[aD,n8];simp only[v5,P5];walk_at "f"
theorem sj:w4 "multiples" (D8 Q T)=U (.own (rl 3 λt=>.int (Q.mu t))):=by simp only[D8,w4];walk_at "f"
theorem uZ:T6 "Table" "weights" (A2 Q T)=U (.list (rl 3 λt=>il Q.n (Q.wt t))):=by delta T6;rw[aD,n8];simp only[v5,P5];walk_at "f"
theorem xc:w4 "weights" (D8 Q T)=U (.own (rl 3 λt=>il Q.n (Q.wt t))):=by simp only[D8,w4];walk_at "f"
theorem CY:T6 "Table" "unit" (A2 Q T)=U ((.int Q.un)):=by delta T6;rw[aD,n8];simp only[v5,P5];walk_at "f"
theorem Ha:w4 "unit" (D8 Q T)=U (.dat (.int Q.un)):=by simp only[D8,w4];walk_at "f"
theorem xt:T6 "Table" "rights" (A2 Q T)=U (.list (rl Q.m λp=>.int (T.rt p))):=by delta T6;rw[aD,n8];simp only[v5,P5];walk_at "f"
theorem sf:w4 "rights" (D8 Q T)=U (.own (rl Q.m λp=>.int (T.rt p))):=by simp only[D8,w4];walk_at "f"
theorem xv:T6 "Table" "limits" (A2 Q T)=U ((.list (rl Q.n λj=>fS (Q.lim j)))):=by delta T6;rw[aD,n8];simp only[v5,P5];walk_at "f"
theorem AA:w4 "limits" (D8 Q T)=U (.dat (.list (rl Q.n λj=>fS (Q.lim j)))):=by simp only[D8,w4];walk_at "f"
theorem xw:T6 "Table" "chosen" (A2 Q T)=U (.list (rl Q.m λk=>.int (T.B k:Int))):=by delta T6;rw[aD,n8];simp only[v5,P5];walk_at "f"
theorem sk:w4 "chosen" (D8 Q T)=U (.own (rl Q.m λk=>.int (T.B k:Int))):=by simp only[D8,w4];walk_at "f"
theorem Dc:T6 "Table" "full" (A2 Q T)=U (.list (rl Q.n λj=>.bool (T.full j))):=by delta T6;rw[aD,n8];simp only[v5,P5];walk_at "f"
theorem zw:w4 "full" (D8 Q T)=U (.own (rl Q.n λj=>.bool (T.full j))):=by simp only[D8,w4];walk_at "f"
theorem CZ:T6 "Table" "size" (A2 Q T)=U ((.int T.size)):=by delta T6;rw[aD,n8];simp only[v5,P5];walk_at "f"
theorem Hd:w4 "size" (D8 Q T)=U (.dat (.int T.size)):=by simp only[D8,w4];walk_at "f"
theorem vc:T6 "Table" "inverse" (A2 Q T)=U ((.list (rl Q.m λk=>il Q.m (T.inv k)))):=by delta T6;rw[aD,n8];simp only[v5,P5];walk_at "f"
theorem xf:w4 "inverse" (D8 Q T)=U (.dat (.list (rl Q.m λk=>il Q.m (T.inv k)))):=by simp only[D8,w4];walk_at "f"
theorem xu:T6 "Table" "prices" (A2 Q T)=U (.list (rl 3 λt=>il Q.m (T.pr t))):=by delta T6;rw[aD,n8];simp only[v5,P5];walk_at "f"
theorem sh:w4 "prices" (D8 Q T)=U (.own (rl 3 λt=>il Q.m (T.pr t))):=by simp only[D8,w4];walk_at "f"
theorem GV:P5 "rest" (LH.map .str) (lT Q T)=J:=by simp only[v5,pX,P5];walk_at "f"
theorem wW:P5 "amounts" (LH.map .str) (lT Q T)=J:=by simp only[v5,pX,P5];walk_at "f"
theorem vJ:w4 "flip" (D8 Q T)=J:=by simp only[D8,w4];walk_at "f"
theorem QY:w4 "turn" (D8 Q T)=J:=by simp only[D8,w4];walk_at "f"
theorem KJ(r:Nat->Int):L5 "rights" (.own (rl Q.m λp=>.int (r p))) (D8 Q T)=D8 Q {T with rt:=r}:=by simp only[D8,L5];walk_at "f"
theorem KN(r:Nat->Nat):L5 "chosen" (.own (rl Q.m λk=>.int (r k:Int))) (D8 Q T)=D8 Q {T with B:=r}:=by simp only[D8,L5];walk_at "f"
theorem Vn(r:Nat->Bool):L5 "full" (.own (rl Q.n λj=>.bool (r j))) (D8 Q T)=D8 Q {T with full:=r}:=by simp only[D8,L5];walk_at "f"
theorem Vm(r:Int):L5 "size" (.dat (.int r)) (D8 Q T)=D8 Q {T with size:=r}:=by simp only[D8,L5];walk_at "f"
theorem Il(r:Nat->Nat->Int):L5 "inverse" (.dat (.list (rl Q.m λk=>il Q.m (r k)))) (D8 Q T)=D8 Q {T with inv:=r}:=by simp only[D8,L5];walk_at "f"
theorem KL(r:Nat->Nat->Int):L5 "prices" (.own (rl 3 λt=>il Q.m (r t))) (D8 Q T)=D8 Q {T with pr:=r}:=by simp only[D8,L5];walk_at "f"
end
theorem qK{Q:P7}{T:Sx.Tb}{m:Str}{f:FV}{b:DV}{a:DL}{ds:Ds}{pv:PV}{l:List f7}(h:b ds=U pv)(hd:pv.d=A2 Q T)(e:P5 m (LH.map .str) (lT Q T)=J)(c:a ds=U l):O6 "Table" m f b a ds=f (A2 Q T::l):=by delta O6;rw[h,n8,hd,aD,n8];simp only[e,c,n8]
structure af(Q:P7)(T:Sx.Tb):Prop where
 m1:Q.m<=1000
 n1:Q.n<=1000
 cl:∀j,j<Q.n->(Q.col j).length<=1000
 cb:∀j,j<Q.n->∀e∈Q.col j,e.1<Q.m/\Bt 7000 e.2
 wb:∀t j,t<3->j<Q.n->Bt 7000 (Q.wt t j)
 lb:∀j v,j<Q.n->Q.lim j=U v->Bt 7000 v
 bn:∀k,k<Q.m->T.B k<Q.n
 rb:∀p,p<Q.m->Bt 7000 (T.rt p)
 ib:∀k q,k<Q.m->q<Q.m->Bt 7000 (T.inv k q)
 pb:∀t q,t<3->q<Q.m->Bt 7000 (T.pr t q)
 sb:Bt 7000 T.size
 sp:0<T.size
 ab:∀k,k<Q.m->Bt 7000 (T.am (Q.pb λ_=>0) k)
 xE:∀a k,a<Q.n->k<Q.m->Bt 7000 (T.m6 (Q.pb λ_=>0) a k)
 rsb:∀t a,t<3->a<Q.n->Bt 7000 (T.rest (Q.pb λ_=>0) t a)
end Law
set_option hygiene false
local macro_rules | `(tactic| walk_at "v") => `(tactic| ((first|simp only[B9,K8,iL,fR,bY,U9,oi,W4,P6,gJ,iN,Dn,rW,M8,mK,L6,bW,B8,aL,Law.xr,Law.vd,Law.rn,Law.uZ,Law.CY,Law.xt,Law.xv,Law.xw,Law.Dc,Law.CZ,Law.vc,Law.xu,Law.Az,Law.xg,Law.sj,Law.xc,Law.Ha,Law.sf,Law.AA,Law.sk,Law.zw,Law.Hd,Law.xf,Law.sh,Law.MV,Law.AR]|walk_at "r"); repeat (first|simp only[B9,K8,iL,fR,bY,U9,oi,W4,P6,gJ,iN,Dn,rW,M8,mK,L6,bW,B8,aL,Law.xr,Law.vd,Law.rn,Law.uZ,Law.CY,Law.xt,Law.xv,Law.xw,Law.Dc,Law.CZ,Law.vc,Law.xu,Law.Az,Law.xg,Law.sj,Law.xc,Law.Ha,Law.sf,Law.AA,Law.sk,Law.zw,Law.Hd,Law.xf,Law.sh,Law.MV,Law.AR]|walk_at "r")))
set_option hygiene true
namespace Law
open PySem L2
variable{m e N:Nat}{D E M:Int}{r:Ds}{z v:Rat}{G o:DV}{g:P7}{l P:PV}{u:Q2}{A:List f7}{B:Str}{C:Nat->Rat}{H:Option Addr}{K:List Int}{S:Nat->Int}{X:List Key->Rat}{a6:f7}{a7:Sx.Pb}{a8:List (Str×PF)}{a9:List Key}{b3:Ds->Option (List AV)}{b4:Option PV}{b6:List PV->Option (PV×Ds)}{b7:f7->Option (List f7)}
section
variable{T:Sx.Tb}
theorem lt3(h:m<3):m=0\/m=1\/m=2:=by lia
theorem Gz(b:m<3)(f:e<g.n)(cl:(g.col e).length<=1000)(c:∀t∈g.col e,t.1<g.m/\Bt 7000 t.2)(Q:Bt 7000 (g.wt m e))(h:Bt 7000 T.size)(pb:∀q,q<g.m->Bt 7000 (T.pr m q)):Q7 [A2 g T,.int (m:Int),.int (e:Int)]=sd (.int (T.rest (g.pb λ_=>0) m e)):=by
 delta Q7;walk_at "v";rw[G7 _ b];walk_at "v";rw[G7 _ f,G7 _ b];walk_at "v";rw[G7 _ f];walk_at "v";rw[t6 (Q.mono f5) (h.mono f5),xD cl (λt d=>⟨(c t d).1,((c t d).2).mono f5⟩) λi j=>(pb i j).mono f5];rfl
theorem rest_eq(K:af g T)(c:m<3)(b:e<g.n):Q7 [A2 g T,.int (m:Int),.int (e:Int)]=sd (.int (T.rest (g.pb λ_=>0) m e)) :=
 Gz c b (K.cl e b) (K.cb e b) (K.wb m e c b) K.sb λq hq=>K.pb m q c hq
theorem xM(K:af g T):Q0 [A2 g T]=U (.own (rl g.m λk=>.int (T.am (g.pb λ_=>0) k))):=by
 delta Q0;walk_at "v";rw[j2 (aO K.m1),K3 λk b=>⟨_,_,rfl,by delta fV;walk_at "v";rw[Iq K.m1 (λi a=>(K.ib k i b a).mono f5) λi a=>(K.rb i a).mono f5],rfl⟩];rfl
theorem QK(K:af g T)(b:m<g.n):U7 [A2 g T,.int (m:Int)]=U (.own (rl g.m λk=>.int (T.m6 (g.pb λ_=>0) m k))):=by
 delta U7;walk_at "v";rw[j2 (aO K.m1),K3 λk d=>⟨_,_,rfl,by delta jo;walk_at "v";rw[G7 _ b];walk_at "v";rw[xD (K.cl m b) (λe c=>⟨(K.cb m b e c).1,((K.cb m b e c).2).mono f5⟩) λi f=>(K.ib k i d f).mono f5],rfl⟩];rfl
end
section
variable{T:Sx.Tb}
abbrev s9(Q:P7):Sx.Pb:=Q.pb λ_=>0
theorem RN(o:Option Int):Z7 (fS o) (.int 0)=sd (.bool (decide (o=U 0))):=by
 cases o with
 |none =>
  rfl
 |some v =>
  rw[show fS (U v)=.int v from rfl,vQ];simp
noncomputable def Bu(r:Nat->Int):Option (Nat×Int) :=
 if r 0≠0 then(if r 0<0 then U (0,r 0)else J)else if r 1≠0 then(if r 1<0 then U (1,r 1)else J)else if r 2≠0 then(if r 2<0 then U (2,r 2)else J)else J
theorem AI(r:Nat->Int):(Bu r).isSome=Uf↔Sx.Neg r:=by
 delta Bu Sx.Neg;by_cases a:r 0=0
 . rw[j1 (λz=>z a)];by_cases b:r 1=0
   . rw[j1 (λz=>z b)];by_cases c:r 2=0;rw[j1 (λz=>z c)];simp;simp[*]
     . rw[j2 c];split<;>simp<;>simp_all
   . rw[j2 b];split<;>simp<;>simp_all
 simp_all
noncomputable def gn(Q:P7)(T:Sx.Tb)(j:Nat):Option (Nat×Int):=if Q.lim j=U 0 then J else Bu λt=>T.sg j*T.rest (s9 Q) t j
noncomputable def iH:Option (Nat×Int)->f7
 |none=>.none
 |some (t,r)=>.tuple [.int (t:Int),.int r]
theorem gn_enter(a:m<g.n)(b:Nat->Int):(gn g T m).isSome=Uf↔Sx.N0 (g.pb b) T m:=by
 delta gn;constructor
 . intro h;by_cases c:g.lim m=U 0
   . simp_all
   rw[j1 c]at h;exact⟨a,c,(AI _).mp h⟩
 intro h;rw[j1 (show g.lim m≠U 0 from h.u0)];exact(AI _).mpr h.neg
theorem sgD(T:Sx.Tb)(j:Nat):(if T.full j=Uf then U (PV.dat (.int (-1)))else U (PV.dat (.int 1)))=U (PV.dat (.int (T.sg j))):=by delta Sx.Tb.sg;split<;>rfl
theorem Ti(T:Sx.Tb)(j:Nat):Bt 60000 (T.sg j):=by
 delta Sx.Tb.sg;split;exact Bt.lit;exact Bt.lit
theorem vM(K:af g T){t:Nat}(b:t<3)(a:m<g.n)(e:Option PV):
  kl [sd (A2 g T),iD (m:Int),iD (T.sg m),iD (t:Int),e]=U (if T.sg m*T.rest (s9 g) t m≠0 then .ret (.dat (if T.sg m*T.rest (s9 g) t m<0 then .tuple [.int (t:Int),.int (T.sg m*T.rest (s9 g) t m)]else .none))
   else .next [sd (A2 g T),iD (m:Int),iD (T.sg m),iD (t:Int),iD (T.sg m*T.rest (s9 g) t m)]):=by
 delta kl;walk_at "v";rw[qK (l:=[.int t,.int m]) rfl rfl (GV g T) rfl,rest_eq K b a];walk_at "v";rw[t6 (Ti T m) ((K.rsb t m b a).mono f5)];walk_at "v";by_cases c:T.sg m*T.rest (s9 g) t m=0;rw[j1 (λz=>z c),j1 (λz=>z c)]
 . rw[j2 c,j2 c];by_cases d:T.sg m*T.rest (s9 g) t m<0
   . simp_all
   simp only[j1 d];walk_at "v"
theorem gQ{gt:f7->DD}{G:DO}{ds ds1:Ds}(a:gt a6 ds=U ds1)(b:G ds1=U (.ret l)):X7 gt G (a6::A) ds=U (.ret l):=by
 unfold X7
 simp_all
theorem uu(K:af g T)(a:m<g.n):kY [A2 g T,.int (m:Int)]=sd (iH (gn g T m)):=by
 delta kY gn;walk_at "v";rw[G7 _ a];walk_at "v";rw[RN];walk_at "v";by_cases c:g.lim m=U 0;simp only[j2 c];rfl
 . simp only[j1 c];walk_at "v";rw[G7 _ a];walk_at "v";rw[sgD];walk_at "v";have b:=vM K (t:=0) f5 a;have d:=vM K (t:=1) f5 a;have e:=vM K (t:=2) f5 a;delta Bu;by_cases f:T.sg m*T.rest (s9 g) 0 m=0
   . simp only[f]at b ⊢;rw[C8 rfl (b J)];by_cases Q:T.sg m*T.rest (s9 g) 1 m=0
     . simp only[Q]at d ⊢;rw[C8 rfl (d _)];by_cases h:T.sg m*T.rest (s9 g) 2 m=0;simp only[h]at e ⊢;rw[C8 rfl (e _)];rfl
       . simp only[j2 (show T.sg m*T.rest (s9 g) 2 m≠0 from h)]at e ⊢
         rw[gQ rfl (e _)];split<;>rfl
     . simp only[j2 (show T.sg m*T.rest (s9 g) 1 m≠0 from Q)]at d ⊢
       rw[gQ rfl (d _)];split<;>rfl
   . simp only[j2 (show T.sg m*T.rest (s9 g) 0 m≠0 from f)]at b ⊢
     rw[gQ rfl (b _)];split<;>rfl
theorem RE{gt:f7->DD}{G:DO}(I:Nat->Ds->Prop)(R:PV->Prop)(hs:∀i d ds,A[i]? = U d->I i ds->∃ds1,gt d ds=U ds1/\((∃ds2,G ds1=U (.next ds2)/\I (i+1) ds2)\/∃pv,G ds1=U (.ret pv)/\R pv)):
  ∀(k i:Nat) (ds:Ds),i+k=A.length->I i ds->(∃ds',X7 gt G (A.drop i) ds=U (.next ds')/\I A.length ds')\/∃pv,X7 gt G (A.drop i) ds=U (.ret pv)/\R pv:=by
 intro l_;induction l_ with
 |zero =>
  intro i ds e h;rw[EY (by simp_all)]
  have:i=A.length:=by lia
  rw[<-this];exact .inl ⟨ds,rfl,h⟩
 |succ k ih_ =>
  intro i ds e h;have c:i<A.length:=by lia
  rw[qk c];obtain⟨ds1,f,⟨ds2,b,a⟩|⟨pv,b,a⟩⟩:=hs i _ ds (F2 c) h;rw[C8 f b];exact ih_ (i+1) ds2 j7 a;exact .inr ⟨pv,gQ f b,a⟩
def optN:Option Nat->f7
 |none=>.none
 |some a=>.int (a:Int)
theorem Zh(x y:Nat×Int):∃b,zu (iH (U x)) (iH (U y))=sd (.bool b):=⟨_,rfl⟩
theorem Aw(K:af g T)(e:Bool):∃r:Option Nat,gU [A2 g T,.bool e]=sd (optN r)/\(r=J->∀j,j<g.n->gn g T j=J)/\∀a,r=U a->a<g.n/\(gn g T a).isSome=Uf/\(e=Uf->∀j,j<a->gn g T j=J):=by
 delta gU;walk_at "v";rw[A7,O7 (by have:=K.n1;lia)]
 walk_at "v";rw[ck,wG];have u:=RE (gt:=C1 4) (G:=az)
  (λi H=>∃(r:Option Nat) (best:Option (Nat×Int)) (x o:Option PV),H=[sd (A2 g T),sd (.bool e),sd (optN r),sd (iH best),x,o]/\(r.isSome=best.isSome)/\(r=J->∀j,j<i->gn g T j=J)/\(∀a,r=U a->a<g.n/\(gn g T a).isSome=Uf/\e=U'))
  (λpv=>∃a,pv=.dat (optN (U a))/\a<g.n/\(gn g T a).isSome=Uf/\∀j,j<a->gn g T j=J)
  (by
   rintro i d H P ⟨r,best,x,o,rfl,q,t,m⟩;obtain⟨p,rfl⟩:=wH P;refine⟨_,rfl,?_⟩;cases hg:gn g T i with
   |none =>
    refine .inl ⟨[sd (A2 g T),sd (.bool e),sd (optN r),sd (iH best),iD i,sd .none],?_,r,best,_,_,rfl,q,λk j E=>?_,m⟩;delta az;walk_at "v";rw[uu K p,hg];rfl;by_cases c:j=i;rw[c];exact hg;exact t k j (nG (qe k8) k8)
   |some Q =>
    have L:(r=J\/∃l f,r=U l/\best=U f/\(∃w,zu (iH (U Q)) (iH (U f))=sd (.bool w)/\w=Uf))->az [sd (A2 g T),sd (.bool e),sd (optN r),sd (iH best),iD i,o]=if e=Uf then U (.ret (.dat (.int i)))else U (.next [sd (A2 g T),sd (.bool e),iD i,sd (iH (U Q)),iD i,sd (iH (U Q))]):=by
     obtain⟨A,B⟩:=Q;rintro(rfl|⟨l,⟨O,N⟩,rfl,rfl,w,s,rfl⟩);delta az;walk_at "v";rw[uu K p,hg];simp only[iH,optN];walk_at "v";delta az;walk_at "v";rw[uu K p,hg];simp only[iH,optN]at s ⊢;walk_at "v";rw[s];walk_at "v"
    have I:e=U'->(r=J\/∃l f,r=U l/\best=U f/\(∃w,zu (iH (U Q)) (iH (U f))=sd (.bool w)/\w=Uf))->(∃v,az [sd (A2 g T),sd (.bool e),sd (optN r),sd (iH best),iD i,o]=U (.next v)/\∃(r:Option Nat) (best:Option (Nat×Int)) (x o:Option PV),v=[sd (A2 g T),sd (.bool e),sd (optN r),sd (iH best),x,o]/\(r.isSome=best.isSome)/\(r=J->∀j,j<i+1->gn g T j=J)/\(∀a,r=U a->a<g.n/\(gn g T a).isSome=Uf/\e=U')):=λy h=>by rw[L h,y];exact⟨_,rfl,U i,U Q,_,_,rfl,rfl,(λz=>by exact nS z),λa D=>by cases D;exact⟨p,by rw[hg];rfl,rfl⟩⟩
    cases k:r with
    |none =>
     cases y:e with
     |false =>
      subst y k;exact .inl (I rfl (.inl rfl))
     |true =>
      subst y k;exact .inr ⟨.dat (.int i),L (.inl rfl),i,rfl,p,by rw[hg];rfl,t rfl⟩
    |some l =>
     obtain⟨A,B,C⟩:=m l k;subst C;cases hbb:best with
     |none=>simp_all
     |some f =>
      subst k hbb;obtain⟨w,s⟩:=Zh Q f;cases w with
      |true=>exact .inl (I rfl (.inr ⟨l,f,rfl,rfl,Uf,s,rfl⟩))
      |false =>
       refine .inl ⟨[sd (A2 g T),sd (.bool U'),sd (optN (U l)),sd (iH (U f)),iD i,sd (iH (U Q))],?_,U l,U f,_,_,rfl,rfl,(λz=>by exact nS z),m⟩
       obtain⟨A,B⟩:=Q;obtain⟨O,N⟩:=f;delta az;walk_at "v";rw[uu K p,hg];simp only[iH,optN]at s ⊢;walk_at "v";rw[s];walk_at "v")
  g.n 0 [sd (A2 g T),sd (.bool e),sd .none,sd .none,J,J] (by rw[A7];exact pV _ _) ⟨J,J,J,J,rfl,rfl,λ_ j E=>by exact lI,λa h=>by exact nE h⟩
 rw[List.drop_zero]at u;rcases u with ⟨R,t,r,best,x,o,rfl,q,m,F⟩|⟨pv,t,a,rfl,m,F,M⟩
 rw[t];refine⟨r,rfl,λk j E=>m k j (by rw[A7];exact E),λa D=>?_⟩;obtain⟨A,B,C⟩:=F a D;exact⟨A,B,λz=>by rw[C]at z;exact nT z⟩;rw[t];exact⟨U a,rfl,(λz=>by exact nS z),λb q=>by cases q;exact⟨m,F,λ_=>M⟩⟩
end
abbrev aA(Q:P7)(T:Sx.Tb)(a:Nat):List f7:=rl Q.m λk=>.int (T.m6 (s9 Q) a k)
structure eh where
 top:Int
 bot:Int
 ch:Nat
 pl:Option Nat
 tp:Bool
variable{O:eh}
noncomputable def P4(s:eh):f7:=.tuple [.int s.top,.int s.bot,.int (s.ch:Int),optN s.pl,.bool s.tp]
section
variable{T:Sx.Tb}
def ud(Q:P7)(a:Nat):List eh:=match Q.lim a with
 |some v=>[⟨v,1,a,J,U'⟩]
 |none=>[]
noncomputable def stK(Q:P7)(T:Sx.Tb)(a k:Nat):List eh :=
 if 0<T.sg a*T.m6 (s9 Q) a k then[⟨T.am (s9 Q) k,T.sg a*T.m6 (s9 Q) a k,T.B k,U k,U'⟩]
 else if T.sg a*T.m6 (s9 Q) a k<0 then(match Q.lim (T.B k)with
  |some v=>[⟨v*T.size-T.am (s9 Q) k,-(T.sg a*T.m6 (s9 Q) a k),T.B k,U k,Uf⟩]
  |none=>[])
 else[]
def stI(Q:P7)(T:Sx.Tb)(a:Nat):Nat->List eh
 | 0=>ud Q a
 |k+1=>stI Q T a k++stK Q T a k
theorem UI(Q:P7)(T:Sx.Tb)(a:Nat):∀k,(stI Q T a k).length<=k+1:=by
 intro l_;induction l_ with
 |zero =>
  unfold stI ud;split<;>simp
 |succ k ih_ =>
  have:=ih_;rw[stI,Z4];have:(stK Q T a k).length<=1:=by
   unfold stK;split;simp
   . split
     . split<;>simp
     simp
  exact yc k8 k8
theorem Kn(K:af g T)(f:m<g.n)(b:e<g.m)(x7 x8 h:Option PV){l:List eh}(o:l.length<=10000):∃i j Q,
  kZ [sd (A2 g T),iD (m:Int),sd (.list (aA g T m)),U (.own (l.map P4)),iD (T.sg m),iD (0+(e:Int)),iD (T.am (s9 g) e),x7,x8,h]=U (.next [sd (A2 g T),iD (m:Int),sd (.list (aA g T m)),U (.own ((l++stK g T m e).map P4)),iD (T.sg m),iD (0+(e:Int)),iD (T.am (s9 g) e),i,j,Q]):=by
 have d:=K.bn e b;refine⟨iD (T.B e),sd (fS (g.lim (T.B e))),iD (T.sg m*T.m6 (s9 g) m e),?_⟩;delta kZ;walk_at "v";rw[Ky _ b];walk_at "v";rw[G7 _ d];walk_at "v";rw[Ky _ b];walk_at "v";rw[t6 (Ti T m) ((K.xE m e f b).mono (n:=60000) f5)];walk_at "v";delta stK;by_cases c:0<T.sg m*T.m6 (s9 g) m e;simp only[j2 c];rw[cQ _ rfl (by rw[A6];exact kS k8 f5),aj];simp only[O1];rfl
 . simp only[j1 c];by_cases a:T.sg m*T.m6 (s9 g) m e<0
   . simp only[j2 a];cases hlim:g.lim (T.B e)with
     |none =>
      simp only[fS];walk_at "v"
     |some v =>
      simp only[fS];walk_at "v";rw[t6 ((K.lb _ v d hlim).mono f5) (K.sb.mono f5)];walk_at "v";rw[cQ _ rfl (by rw[A6];exact kS k8 f5),aj];simp only[O1];rfl
   simp only[j1 a];walk_at "v"
theorem Pg(K:af g T)(Q:m<g.n):ij [A2 g T,.int (m:Int),.list (aA g T m)]=U (.own ((stI g T m g.m).map P4)):=by
 have:=K.m1;obtain⟨s,r,j,o,c,b,f,rfl⟩:=eT (gt:=cY 2 (G3 5 (G3 6 cZ))) (items:=rl g.m λi=>.tuple [.int (0+i),.int (T.am (s9 g) i)])
  (λi q=>∃j o c b f,q=[sd (A2 g T),iD m,sd (.list (aA g T m)),U (.own ((stI g T m i).map P4)),iD (T.sg m),j,o,c,b,f])
  ⟨J,J,J,J,J,rfl⟩ (by
   rintro i d q u ⟨j,o,c,b,f,rfl⟩;obtain⟨t,rfl⟩:=wH u;obtain⟨y,z,x,e⟩:=Kn K Q t c b f (l:=stI g T m i) (by have:=UI g T m i;omega)
   exact⟨_,_,rfl,.inl e,_,_,_,_,_,rfl⟩)
 rw[A7]at r;have w:∀p,p=(stI g T m 0).map P4->(j9 (k9 4 (hZ (o8 (j8 u9 (B9 "Table" "full" (j4 0)) (j4 1))) (gg bP (fC (.int 1))) (fC (.int 1)))) (j9 (D4 (x9 bZ (f6 (O6 "Table" "amounts" Q0 (j4 0) l7) l7)) (cY 2 (G3 5 (G3 6 cZ))) kZ) (Y8 3))) [sd (A2 g T),iD m,sd (.list (aA g T m)),U (.own p),J,J,J,J,J,J]=U (.ret (.own ((stI g T m g.m).map P4))):=by rintro p rfl;walk_at "v";rw[G7 _ Q];walk_at "v";rw[sgD];walk_at "v";rw[qK rfl rfl (wW g T) rfl,xM K];walk_at "v";rw[uH,r];walk_at "v"
 have h:(M0 (o8 (j8 gb (j8 u9 (B9 "Table" "limits" (j4 0)) (j4 1)) (fC .none))) (cy 3 (n9 (f6 (j8 u9 (B9 "Table" "limits" (j4 0)) (j4 1)) (f6 (fC (.int 1)) (f6 (j4 1) (f6 (fC .none) (f6 (fC (.bool U')) l7))))))) E4) [sd (A2 g T),iD m,sd (.list (aA g T m)),U (.own []),J,J,J,J,J,J]=U (.next [sd (A2 g T),iD m,sd (.list (aA g T m)),U (.own ((stI g T m 0).map P4)),J,J,J,J,J,J]):=by
  walk_at "v";rw[G7 _ Q];unfold stI ud;cases g.lim m with
  |none=>rfl
  |some v =>
   rfl
 unfold ij E1;rw[j2 (by rfl),q9,show O8 3 (E2 l7) (N8 [A2 g T,.int m,.list (aA g T m)]++w5 (10-3) J)=U (.next [sd (A2 g T),iD m,sd (.list (aA g T m)),U (.own []),J,J,J,J,J,J])from rfl,o5,q9,h,o5,w _ rfl];rfl
def qx(s r:eh):Bool:=decide (s.top*r.bot<r.top*s.bot)||(decide (s.top*r.bot=r.top*s.bot)&&decide (s.ch<r.ch))
structure HK(s:eh):Prop where
 t:Bt 20000 s.top
 b:Bt 20000 s.bot
 p:0<s.bot
theorem Kq{r:eh}(hs:HK O)(a:HK r):nM [P4 O,P4 r]=sd (.bool (qx O r)):=by
 delta nM P4;walk_at "v";rw[t6 (hs.t.mono f5) (a.b.mono f5)];walk_at "v";rw[t6 (a.t.mono f5) (hs.b.mono f5)];walk_at "v";delta qx;by_cases c:O.top*r.bot<r.top*O.bot;simp[c];rfl;by_cases d:O.top*r.bot=r.top*O.bot;simp[c];rfl;simp[c];rfl
def fQ:Option eh->f7
 |none=>.none
 |some s=>P4 s
def fy(o:Option eh)(s:eh):Option eh:=match o with
 |none=>U s
 |some r=>if qx s r=Uf then U s else U r
theorem RJ{l:List eh}(h:∀s∈l,HK s):aS [.list (l.map P4)]=sd (fQ (l.foldl fy J)):=by
 have f:∀(l:List eh) o L x,(∀s∈l,HK s)->(∀r,o=U r->HK r)->∃b,X7 (C1 2) aG (l.map P4) [sd L,sd (fQ o),x]=U (.next [sd L,sd (fQ (l.foldl fy o)),b]):=by
  intro l;induction l with
  |nil=>exact λo L x _ _=>⟨x,rfl⟩
  |cons s l j =>
   intro o L x i g;have d:=i s v8;have e:aG [sd L,sd (fQ o),sd (P4 s)]=U (.next [sd L,sd (fQ (fy o s)),sd (P4 s)]):=by
    delta aG;cases o with
    |none =>
     rfl
    |some r =>
     simp only[fQ];simp only[M0,AQ,o8,j4,Og,qT,n8,PV.uK,f9,f6,l7,Kq d (g r rfl)];delta fy;cases c:qx s r;simp only[c];rfl;simp only[c];rfl
   rw[v5,C8 rfl e,En];refine j _ L _ (λy m=>i y (u7 _ m)) λr a=>?_;unfold fy at a;split at a;cases a;exact d;split at a;cases a;exact d;cases a;exact g _ rfl
 obtain⟨b,e⟩:=f l J (.list (l.map P4)) J h (λr z=>by exact nE z);delta aS;walk_at "v";have k:X7 (C1 2) aG (l.map P4) [sd (.list (l.map P4)),sd .none,J]=U (.next [sd (.list (l.map P4)),sd (fQ (l.foldl fy J)),b]):=e;rw[k];walk_at "v"
def le(r s:eh):Prop:=r.top*s.bot<s.top*r.bot\/(r.top*s.bot=s.top*r.bot/\r.ch<=s.ch)
theorem Mc{r:eh}(h:qx O r=U'):le r O:=by
 unfold qx at h;rw[NJ,Bool.and_eq_false_iff]at h;obtain⟨b,a⟩:=h;by_cases c:O.top*r.bot=r.top*O.bot
 . rcases a with a|a
   exact absurd c (of_decide_eq_false a);have:=of_decide_eq_false a;exact .inr ⟨c.symm,nu k8⟩
 left;lia
theorem Ji{r:eh}(h:qx O r=Uf):le O r:=by
 unfold qx at h;rw[Nc,tG]at h;rcases h with h|⟨a,b⟩
 exact .inl (nA h);have:=nA a;exact .inr ⟨by assumption,by lia⟩
theorem le_trans{s t:eh}(i:0<O.bot)(hs:0<s.bot)(g:0<t.bot)(d:le O s)(b:le s t):le O t:=by
 have k:O.top*s.bot<=s.top*O.bot:=by unfold le at d;omega
 have j:s.top*t.bot<=t.top*s.bot:=by unfold le at b;omega
 have:=lM k (O3 g);have:=lM j (O3 i);have:s.top*O.bot*t.bot=s.top*t.bot*O.bot:=by grind
 have a:s.bot*(O.top*t.bot)=O.top*s.bot*t.bot:=by grind
 have:s.bot*(t.top*O.bot)=t.top*s.bot*O.bot:=by grind
 have f:s.bot*(O.top*t.bot)<=s.bot*(t.top*O.bot):=by omega
 have:=yD f hs;by_cases c:O.top*t.bot=t.top*O.bot
 . right;refine⟨c,?_⟩;have e:O.top*s.bot*t.bot=s.top*O.bot*t.bot:=by rw[c]at a;omega
   have h:s.top*t.bot*O.bot=t.top*s.bot*O.bot:=by rw[c]at a;simp_all
   have:=tT E6 e;have:=tT E6 h;unfold le at d b;omega
 left;omega
theorem Mv:∀(l:List eh) (o:Option eh),(∀s∈l,0<s.bot)->(∀r,o=U r->0<r.bot)->(l.foldl fy o=J->o=J/\l=[])/\∀r,l.foldl fy o=U r->(o=U r\/r∈l)/\(∀s,o=U s->le r s)/\∀s∈l,le r s:=by
 intro l_;induction l_ with
 |nil =>
  intro o _ _;exact⟨λh=>⟨h,rfl⟩,λr h=>⟨.inl h,λs a=>by have n:o=U r:=h;rw[n]at a;cases a;exact .inr ⟨rfl,X1 _⟩,λs a=>absurd a t7⟩⟩
 |cons x l ih_ =>
  intro o h1 h2;have i:=h1 x v8;have q:∃y,fy o x=U y/\0<y.bot/\(o=U y\/y=x)/\le y x/\∀s,o=U s->le y s:=by
   delta fy;cases o with
   |none=>exact⟨x,rfl,i,.inr rfl,.inr ⟨rfl,X1 _⟩,λs z=>by exact nE z⟩
   |some r =>
    cases c:qx x r with
    |true=>exact⟨x,by simp[c],i,.inr rfl,.inr ⟨rfl,X1 _⟩,λs z=>by cases z;exact Ji c⟩
    |false=>exact⟨r,by simp[c],h2 r rfl,.inl rfl,Mc c,λs z=>by cases z;exact .inr ⟨rfl,X1 _⟩⟩
  obtain⟨y,e,g,d,m,t⟩:=q;rw[En,e];obtain⟨w,k⟩:=ih_ (U y) (λs a=>h1 s (u7 _ a)) λr z=>by cases z;exact g
  refine⟨λh=>(by have:=(w h).1;exact nS this),λr v=>?_⟩
  obtain⟨b,p,u⟩:=k r v;have f:0<r.bot:=by
   rcases b with b|b
   cases b;exact g;exact h1 r (u7 _ b)
  have j:=p y rfl;refine⟨?_,λs a=>le_trans f g (h2 s a) j (t s a),λs a=>?_⟩
  . rcases b with b|b
    . cases b;rcases d with d|d
      exact .inl d;rw[d];exact .inr v8
    exact .inr (u7 _ b)
  . rcases List.mem_cons.mp a with rfl|a
    exact le_trans f g i j m;exact u s a
end
section
variable{T:Sx.Tb}
theorem hV(h:e<m):eQ m (e:Int)=U e:=by
 delta eQ
 simp_all
theorem ug(h:r[m]? = U (U (.ob H (t8 g T))))(f:w4 B (D8 g T)=U (.own A))(b:o r=U l)(c:G r=sd (.int (e:Int)))(Q:e<A.length):
  bY "Table" m B G o r=U (.next (r.set m (U (.ob H (.ins "Table" (L5 B (.own (A.set e l.d)) (D8 g T))))))):=by delta bY fR;rw[b,n8,c,n8,h];simp only[Q6,n8,f,rW,PV.uK,hV Q]
theorem Ll{pv:PV}{b:Bool}(h:r[m]? = U (U (.ob H (t8 g T))))(c:o r=U pv)(hd:pv.d=.bool b)(f:G r=sd (.int (e:Int)))(Q:e<g.n):
  bY "Table" m "full" G o r=U (.next (r.set m (U (.ob H (t8 g {T with full:=λj=>if j=e then b else T.full j}))))):=by
 rw[ug h (zw g T) c f (by rw[A7];exact Q),fW,hd]
 have i:(rl g.n λk=>if k=e then PyData.bool b else .bool (T.full k))=rl g.n λj=>.bool (if j=e then b else T.full j):=aK λk _=>by split<;>rfl
 rw[i,Vn]
theorem FK{pv:PV}(h:r[m]? = U (U (.ob H (t8 g T))))(b:o r=U pv)(hd:pv.d=.int D)(c:G r=sd (.int (e:Int)))(a:e<g.m):
  bY "Table" m "rights" G o r=U (.next (r.set m (U (.ob H (t8 g {T with rt:=λj=>if j=e then D else T.rt j}))))):=by
 rw[ug h (sf g T) b c (by rw[A7];exact a),fW,hd]
 have Q:(rl g.m λk=>if k=e then V0 D else .int (T.rt k))=rl g.m λj=>.int (if j=e then D else T.rt j):=aK λk _=>by split<;>rfl
 rw[Q,KJ]
theorem FN{Q:P7}{i:Nat}{w:Option Addr}{ds:Ds}{Fk Fv:DV}{pv:PV}{x:Nat}{p:Nat}(h:ds[i]? = U (U (.ob w (t8 Q T))))(b:Fv ds=U pv)(hd:pv.d=.int (x:Int))(c:Fk ds=sd (.int (p:Int)))(a:p<Q.m):
  bY "Table" i "chosen" Fk Fv ds=U (.next (ds.set i (U (.ob w (t8 Q {T with B:=λj=>if j=p then x else T.B j}))))):=by
 rw[ug h (sk Q T) b c (by rw[A7];exact a),fW,hd]
 have e:(rl Q.m λk=>if k=p then V0 x else .int (T.B k))=rl Q.m λj=>.int ((if j=p then x else T.B j:Nat)):=aK λk _=>by split<;>rfl
 rw[e,KN]
theorem FL{x:Nat->Int}(h:r[m]? = U (U (.ob H (t8 g T))))(b:o r=U l)(hd:l.d=il g.m x)(c:G r=sd (.int (e:Int)))(a:e<3):
  bY "Table" m "prices" G o r=U (.next (r.set m (U (.ob H (t8 g {T with pr:=λj=>if j=e then x else T.pr j}))))):=by
 rw[ug h (sh g T) b c (by assumption),fW,hd]
 have Q:(rl 3 λk=>if k=e then il g.m x else il g.m (T.pr k))=rl 3 λj=>il g.m (if j=e then x else T.pr j):=aK λk _=>by split<;>rfl
 rw[Q,KL]
noncomputable def jU(Q:P7)(T:Sx.Tb)(a:Nat)(by':Int):Sx.Tb:={T with full:=λj=>if j=a then !T.full a else T.full j,rt:=λp=>T.rt p+by'*K4 (Q.col a) p}
theorem Mu(i:Bt 60000 E):∀(c:List (Nat×Int)) (T:Sx.Tb) (x3 d:Option PV),(∀e∈c,e.1<g.m/\Bt 60000 e.2) ->
  ∃Q f,X7 (cY 2 (G3 3 (G3 4 cZ))) cN (c.map λe=>.tuple [.int (e.1:Int),.int e.2]) [U (.ob H (t8 g T)),iD D,iD E,x3,d]=U (.next [U (.ob H (t8 g {T with rt:=λp=>T.rt p+E*K4 c p})),iD D,iD E,Q,f]):=by
 intro l_;induction l_ with
 |nil =>
  intro T x3 d _;exact⟨x3,d,by
   have:({T with rt:=λp=>T.rt p+E*K4 [] p}:Sx.Tb)=T:=by
    have:(λp=>T.rt p+E*K4 [] p)=T.rt:=by funext p;rw[K4,Q9,sW]
    rw[this]
   rw[this];rfl⟩
 |cons e c ih_ =>
  intro T x3 d h;obtain⟨k,n⟩:=h e v8;have l:cN [U (.ob H (t8 g T)),iD D,iD E,iD e.1,iD e.2]=U (.next [U (.ob H (t8 g {T with rt:=λj=>if j=e.1 then T.rt e.1+E*e.2 else T.rt j})),iD D,iD E,iD e.1,iD e.2]):=by
   delta cN;rw[FK (pv:=.dat (.int (T.rt e.1+E*e.2))) rfl ?_ rfl rfl k];rfl;walk_at "v";rw[G7 _ k];walk_at "v";rw[t6 i n];walk_at "v"
  obtain⟨Q,f,q⟩:=ih_ {T with rt:=λj=>if j=e.1 then T.rt e.1+E*e.2 else T.rt j} (iD e.1) (iD e.2) λx o=>h x (u7 _ o)
  refine⟨Q,f,?_⟩;rw[v5,C8 rfl l,q];have:(λp=>(if p=e.1 then T.rt e.1+E*e.2 else T.rt p)+E*K4 c p)=λp=>T.rt p+E*K4 (e::c) p:=by
   funext p
   rw[K4];by_cases z:e.1=p;rw[j2 z.symm,j2 z,z,cC,Int.add_assoc];rw[j1 λy=>z y.symm,j1 z,O1]
  simp only[this]
theorem Ht(b:m<g.n)(i:g.lim m=U D)(f:Bt 60000 D)(d:∀e∈g.col m,e.1<g.m/\Bt 7000 e.2):L7 [.ob J (t8 g T),.dat (.int (m:Int))]=U (.dat .none,[U (.ob J (t8 g (jU g T m (-(T.sg m*D))))),J]):=by
 refine iK rfl λt=>?_
 have c:Bt 60000 (-(T.sg m*D)):=by
  delta Sx.Tb.sg;split;exact f.of_le o9;exact f.of_le o9
 rw[show((cu t 0 [PV.ob J (t8 g T),.dat (.int m)]).map U++w5 (5-2) J)=[U (.ob (U (t 0)) (t8 g T)),iD m,J,J,J]from rfl]
 have h:k9 2 (hZ (o8 (iL "Table" 0 "full" (j4 1))) (j8 u9 (K8 "Table" 0 "limits") (j4 1)) (gg bP (j8 u9 (K8 "Table" 0 "limits") (j4 1)))) [U (.ob (U (t 0)) (t8 g T)),iD m,J,J,J]=U (.next [U (.ob (U (t 0)) (t8 g T)),iD m,iD (-(T.sg m*D)),J,J]):=by
  walk_at "v";rw[G7 _ b];walk_at "v";rw[G7 _ b,i];walk_at "v";delta Sx.Tb.sg;cases T.full m;simp only[kT,if_false,Z1];rfl;simp only[Q6,xU,Z1,Int.neg_neg];rfl
 have k:bY "Table" 0 "full" (j4 1) (Dg (iL "Table" 0 "full" (j4 1))) [U (.ob (U (t 0)) (t8 g T)),iD m,iD (-(T.sg m*D)),J,J]=U (.next [U (.ob (U (t 0)) (t8 g {T with full:=λj=>if j=m then !T.full m else T.full j})),iD m,iD (-(T.sg m*D)),J,J]):=by
  rw[Ll (pv:=.dat (.bool (!T.full m))) rfl ?_ rfl rfl b];rfl;walk_at "v";rw[G7 _ b];walk_at "v"
 obtain⟨p,o,l⟩:=Mu c (g.col m) {T with full:=λj=>if j=m then !T.full m else T.full j} J J λe Q=>⟨(d e Q).1,((d e Q).2).mono f5⟩;rw[q9,h,o5,q9,k,o5];walk_at "v";rw[G7 _ b];walk_at "v";rw[l];simp only[n8,lh,O9];rfl
theorem Hu(K:af g T)(b:m<g.n)(c:g.lim m=U D):L7 [.ob J (t8 g T),.dat (.int (m:Int))]=U (.dat .none,[U (.ob J (t8 g (jU g T m (-(T.sg m*D))))),J]) :=
 Ht b c ((K.lb m D b c).mono f5) (K.cb m b)
end
section
variable{T:Sx.Tb}
theorem a0g(ds:Ds):∀xs:List f7,oO ds (xs.map AV.d)=U (xs.map .dat):=by
 intro l_;induction l_ with
 |nil =>
  exact rfl
 |cons x xs ih_ =>
  rw[v5,oO,ih_];rfl
theorem GD:∀(xs:List f7) (r ds:Ds),eG (xs.map AV.d) r ds=ds
 | [],r,ds=>by simp[eG]
 |x::xs,[],ds=>by simp[eG]
 |x::xs,y::r,ds=>by rw[v5,eG,GD xs]
theorem Ku:∀xs:List f7,M4 (xs.map AV.d)=[]:=by
 intro l_;induction l_ with
 |nil =>
  exact rfl
 |cons x xs ih_ =>
  rw[v5,M4,ih_]
theorem vY{c c':OD}{ds:Ds}{xs:List f7}(h:ds[m]? = U (U (.ob H c)))(e:b3 ds=U (.s m::xs.map AV.d))(b:b6 (.ob J c::xs.map .dat)=U (l,U (.ob J c')::r)):
  bz b6 b3 ds=U (l,ds.set m (U (.ob H c'))):=by
 delta bz;rw[e,n8];rw[j2 (by rw[M4,Ku];simp),oO];simp only[h,a0g,n8,b];rw[eG,h,GD];rfl
theorem qD{c':OD}{ds:Ds}{xs:List f7}(h:ds[e]? = U (U (.ob H (t8 g T))))(Q:w4 B (D8 g T)=J)(c:b3 ds=U (xs.map AV.d))(b:b6 (.ob J (t8 g T)::xs.map .dat)=U (l,U (.ob J c')::r)):
  L6 "Table" B e b6 b3 ds=U (l,ds.set e (U (.ob H c'))):=by
 delta L6 fR;rw[h];simp only[Q6,n8,Q];refine vY h ?_ b;delta bW
 simp_all
noncomputable def uU(Q:P7)(T:Sx.Tb)(a l:Nat)(g:Int)(t q:Nat):Int:=(T.pr t q*(g*T.m6 (s9 Q) a l)-(-g*T.rest (s9 Q) t a)*T.inv l q).fdiv T.size
noncomputable def de(Q:P7)(T:Sx.Tb)(a l:Nat)(g:Int)(k q:Nat):Int:=if k=l then g*T.inv l q else(T.inv k q*(g*T.m6 (s9 Q) a l)-(g*T.m6 (s9 Q) a k)*T.inv l q).fdiv T.size
def O5(Q:P7)(T:Sx.Tb)(a:Nat):Sx.Tb:=if T.full a=Uf then jU Q T a (-(T.sg a*(Q.lim a).getD 0))else T
noncomputable def S9(Q:P7)(T:Sx.Tb)(a l:Nat)(g:Int):Sx.Tb:=⟨λk=>if k=l then a else T.B k,(O5 Q T a).full,g*T.m6 (s9 Q) a l,de Q T a l g,λt=>if t<3 then uU Q T a l g t else T.pr t,(O5 Q T a).rt⟩
theorem uP:(O5 g T a).B=T.B/\(O5 g T a).size=T.size/\(O5 g T a).inv=T.inv/\(O5 g T a).pr=T.pr:=by delta O5;split<;>exact⟨rfl,rfl,rfl,rfl⟩
noncomputable def V9(Q:P7)(T:Sx.Tb)(a l:Nat)(g:Int)(i:Nat):Sx.Tb:=⟨T.B,(O5 Q T a).full,T.size,T.inv,λt=>if t<i then uU Q T a l g t else T.pr t,(O5 Q T a).rt⟩
theorem a2r(a l:Nat)(Q:Int):V9 g T a l Q 0=O5 g T a:=by
 delta V9;have:(λt=>if t<0 then uU g T a l Q t else T.pr t)=T.pr:=by funext t;simp
 rw[this];obtain⟨b,c,d,e⟩:=uP;cases hu:O5 g T a;rw[hu]at b c d e
 simp_all
theorem vt(K:af g T){l t:Nat}(e:m<g.n)(s:l<g.m)(b:t<3)(B:D=1\/D = -1)(w:Option Addr)(x8:Option PV):
  ∃C,cM [U (.ob w (t8 g (V9 g T m l D t))),iD (m:Int),iD (l:Int),sd (.list (aA g T m)),iD D,iD (D*T.m6 (s9 g) m l),sd (il g.m (T.inv l)),iD (t:Int),x8,J]=U (.next [U (.ob w (t8 g (V9 g T m l D (t+1)))),iD (m:Int),iD (l:Int),sd (.list (aA g T m)),iD D,iD (D*T.m6 (s9 g) m l),sd (il g.m (T.inv l)),iD (t:Int),C,J]):=by
 have o:Bt 10 D:=by rcases B with h|h<;>rw[h]<;>exact⟨by decide⟩
 have d:(V9 g T m l D t).pr t=T.pr t:=by show(if t<t then _ else T.pr t)=T.pr t;simp
 have Q:(V9 g T m l D t).rest (s9 g) t m=T.rest (s9 g) t m:=by delta Sx.Tb.rest;rw[d];rfl
 have p:=K.rsb t m b e;have u:=Gz (T:=V9 g T m l D t) b e (K.cl m e) (K.cb m e) (K.wb t m b e) K.sb (λq hq=>by rw[d];exact K.pb t q b hq);rw[Q]at u;obtain⟨r,A,z⟩:=Ai K.m1 (λi f=>(K.pb t i b f).mono f5) (λi f=>(K.ib l i s f).mono f5) ((o.neg.mul p).mono f5) ((o.mul (K.xE m l e s)).mono f5) (K.sb.mono f5) K.sp
 refine⟨iD (-D*T.rest (s9 g) t m),?_⟩;delta cM;have y:k9 8 (j8 F7 (gg bP (j4 4)) (W4 (O6 "Table" "rest" Q7 (P6 0) (f6 (j4 7) (f6 (j4 1) l7))))) [U (.ob w (t8 g (V9 g T m l D t))),iD m,iD l,sd (.list (aA g T m)),iD D,iD (D*T.m6 (s9 g) m l),sd (il g.m (T.inv l)),iD t,x8,J]=U (.next [U (.ob w (t8 g (V9 g T m l D t))),iD m,iD l,sd (.list (aA g T m)),iD D,iD (D*T.m6 (s9 g) m l),sd (il g.m (T.inv l)),iD t,iD (-D*T.rest (s9 g) t m),J]):=by
  walk_at "v";rw[qK (l:=[.int t,.int m]) rfl rfl (GV g _) rfl,u];walk_at "v";simp only[LF,Q6,n8,PV.uK];rw[t6 (o.neg.mono f5) (show Bt 60000 (T.rest (s9 g) t m)from p.mono f5)];rfl
 rw[q9,y,o5];rw[FL (x:=uU g T m l D t) rfl ?_ z rfl b]
 . have:({V9 g T m l D t with pr:=λj=>if j=t then uU g T m l D t else(V9 g T m l D t).pr j}:Sx.Tb)=V9 g T m l D (t+1):=by
     delta V9;have:(λj=>if j=t then uU g T m l D t else if j<t then uU g T m l D j else T.pr j)=λj=>if j<t+1 then uU g T m l D j else T.pr j:=by
      funext j
      by_cases c:j=t;rw[j2 c,j2 o9,c];rw[j1 c];by_cases v:j<t;rw[j2 v,j2 cO];rw[j1 v,j1 j7]
     simp only[this]
   rw[this];rfl
 walk_at "v";rw[G7 _ b];walk_at "v";rw[d];exact A
theorem Uz(K:af g T)(j:m<g.n)(f:e<g.m)(P:T.full m=Uf->g.lim m≠J)(C:D=if 0<T.m6 (s9 g) m e then 1 else -1):
  cF [.ob J (t8 g T),.dat (.int (m:Int)),.dat (.int (e:Int)),.dat (.list (aA g T m))]=U (.dat .none,[U (.ob J (t8 g (S9 g T m e D))),J,J,J]):=by
 refine iK rfl λt=>?_
 have o:D=1\/D = -1:=by rw[C];split<;>simp
 have p:Bt 10 D:=by rcases o with h|h<;>rw[h]<;>exact⟨by decide⟩
 generalize a:(U (t 0):Option Addr)=w;generalize s:(nc (aA g T m))=PC;rw[show((cu t 0 [PV.ob J (t8 g T),.dat (.int (m:Int)),.dat (.int (e:Int)),.dat PC]).map U++w5 (10-4) J:Ds)=[U (.ob (U (t 0)) (t8 g T)),iD (m:Int),iD (e:Int),sd PC,J,J,J,J,J,J]from rfl,a]
 have G:M0 (o8 (iL "Table" 0 "full" (j4 1))) (M8 (L6 "Table" "flip" 0 L7 (B8 (j4 1) aL))) E4 [U (.ob w (t8 g T)),iD (m:Int),iD (e:Int),sd PC,J,J,J,J,J,J]=U (.next [U (.ob w (t8 g (O5 g T m))),iD (m:Int),iD (e:Int),sd PC,J,J,J,J,J,J]):=by
  have R:o8 (iL "Table" 0 "full" (j4 1)) [U (.ob w (t8 g T)),iD (m:Int),iD (e:Int),sd PC,J,J,J,J,J,J]=U (T.full m):=by walk_at "v";rw[G7 _ j];walk_at "v"
  delta M0 O5;rw[R,n8];by_cases c:T.full m=Uf;rw[j2 c,j2 c];obtain⟨v,B⟩:=Option.ne_none_iff_exists'.mp (P c);rw[B];delta M8;rw[qD (xs:=[.int m]) rfl (vJ g T) rfl (Hu K j B)];rfl;rw[j1 c,j1 c];rfl
 have I:k9 4 (hZ (o8 (j8 uY (j8 u9 (j4 3) (j4 2)) (fC (.int 0)))) (fC (.int 1)) (gg bP (fC (.int 1)))) [U (.ob w (t8 g (O5 g T m))),iD m,iD e,sd PC,J,J,J,J,J,J]=U (.next [U (.ob w (t8 g (O5 g T m))),iD m,iD e,sd PC,iD D,J,J,J,J,J]):=by subst s;walk_at "v";rw[G7 _ f];walk_at "v";rw[C];split<;>rfl
 have E:k9 5 (j8 F7 (j4 4) (j8 u9 (j4 3) (j4 2))) [U (.ob w (t8 g (O5 g T m))),iD m,iD e,sd PC,iD D,J,J,J,J,J]=U (.next [U (.ob w (t8 g (O5 g T m))),iD m,iD e,sd PC,iD D,iD (D*T.m6 (s9 g) m e),J,J,J,J]):=by subst s;walk_at "v";rw[G7 _ f];walk_at "v";rw[t6 (p.mono f5) ((K.xE m e j f).mono f5)];rfl
 have S:k9 6 (j8 u9 (K8 "Table" 0 "inverse") (j4 2)) [U (.ob w (t8 g (O5 g T m))),iD m,iD e,sd PC,iD D,iD (D*T.m6 (s9 g) m e),J,J,J,J]=U (.next [U (.ob w (t8 g (V9 g T m e D 0))),iD m,iD e,sd PC,iD D,iD (D*T.m6 (s9 g) m e),sd (il g.m (T.inv e)),J,J,J]):=by rw[a2r];walk_at "v";rw[G7 _ f,(uP).2.2.1];rfl
 have A:∃b Q,D4 (M7 (fC fw)) (C1 7) cM [U (.ob w (t8 g (V9 g T m e D 0))),iD m,iD e,sd PC,iD D,iD (D*T.m6 (s9 g) m e),sd (il g.m (T.inv e)),J,J,J]=U (.next [U (.ob w (t8 g (V9 g T m e D 3))),iD m,iD e,sd PC,iD D,iD (D*T.m6 (s9 g) m e),sd (il g.m (T.inv e)),b,Q,J]):=by subst s;obtain⟨O,N⟩:=vt K j f (t:=0) f5 o w J;obtain⟨M,Y⟩:=vt K j f (t:=1) f5 o w O;obtain⟨W,x⟩:=vt K j f (t:=2) f5 o w M;refine⟨iD 2,W,?_⟩;walk_at "v";rw[C8 rfl N,C8 rfl Y,C8 rfl x];rfl
 obtain⟨b,Q,A⟩:=A;have F:O8 9 (p9 (x9 cq (f6 (K8 "Table" 0 "inverse") (f6 (j4 3) l7))) (N5 2) q5 fI) [U (.ob w (t8 g (V9 g T m e D 3))),iD m,iD e,sd PC,iD D,iD (D*T.m6 (s9 g) m e),sd (il g.m (T.inv e)),b,Q,J]=U (.next [U (.ob w (t8 g (V9 g T m e D 3))),iD m,iD e,sd PC,iD D,iD (D*T.m6 (s9 g) m e),sd (il g.m (T.inv e)),b,Q,U (.own (rl g.m λk=>il g.m λq=>(T.inv k q*(D*T.m6 (s9 g) m e)-(D*T.m6 (s9 g) m k)*T.inv e q).fdiv T.size))]):=by
  subst s;walk_at "v";rw[show(V9 g T m e D 3).inv=T.inv from rfl,km];walk_at "v";rw[j2 (aO K.m1),K3 λk u=>?_];rfl;obtain⟨r,x,H⟩:=Ai K.m1 (λi z=>(K.ib k i u z).mono f5) (λi z=>(K.ib e i f z).mono f5) ((p.mul (K.xE m k j u)).mono f5) ((p.mul (K.xE m e j f)).mono f5) (K.sb.mono f5) K.sp;refine⟨_,r,rfl,?_,H⟩;delta fI;walk_at "v";rw[t6 (p.mono f5) ((K.xE m k j u).mono f5)];walk_at "v";exact x
 have Z:bX 9 (j4 2) (p9 (M7 (j4 6)) p6 q5 cG) [U (.ob w (t8 g (V9 g T m e D 3))),iD m,iD e,sd PC,iD D,iD (D*T.m6 (s9 g) m e),sd (il g.m (T.inv e)),b,Q,U (.own (rl g.m λk=>il g.m λq=>(T.inv k q*(D*T.m6 (s9 g) m e)-(D*T.m6 (s9 g) m k)*T.inv e q).fdiv T.size))]=U (.next [U (.ob w (t8 g (V9 g T m e D 3))),iD m,iD e,sd PC,iD D,iD (D*T.m6 (s9 g) m e),sd (il g.m (T.inv e)),b,Q,U (.own (rl g.m λk=>il g.m (de g T m e D k)))]):=by
  have L:p9 (M7 (j4 6)) p6 q5 cG [U (.ob w (t8 g (V9 g T m e D 3))),iD m,iD e,sd PC,iD D,iD (D*T.m6 (s9 g) m e),sd (il g.m (T.inv e)),b,Q,U (.own (rl g.m λk=>il g.m λq=>(T.inv k q*(D*T.m6 (s9 g) m e)-(D*T.m6 (s9 g) m k)*T.inv e q).fdiv T.size))]=U (.own (rl g.m λq=>.int (D*T.inv e q))):=by
   walk_at "v";rw[j2 (aO K.m1),K3 λq hq=>⟨_,_,rfl,by delta cG;walk_at "v";rw[t6 (p.mono f5) ((K.ib e q f hq).mono f5)],rfl⟩];rfl
  delta bX;rw[L,n8];show(eQ (rl g.m _).length e).bind _=_
  rw[A7,hV f,n8,fW];have:(rl g.m λk=>if k=e then PV.d (.own (rl g.m λq=>.int (D*T.inv e q)))else il g.m λq=>(T.inv k q*(D*T.m6 (s9 g) m e)-(D*T.m6 (s9 g) m k)*T.inv e q).fdiv T.size)=rl g.m λk=>il g.m (de g T m e D k):=aK λk _=>by
   by_cases c:k=e
   . rw[j2 c];show il g.m _=_
     congr 2
     funext q
     delta de;rw[j2 c]
   . rw[j1 c]
     congr 2
     funext q
     delta de;rw[j1 c]
  rw[this];rfl
 have X:uC 9 (U9 "Table" 0 "inverse" iN (j4 9)) [U (.ob w (t8 g (V9 g T m e D 3))),iD m,iD e,sd PC,iD D,iD (D*T.m6 (s9 g) m e),sd (il g.m (T.inv e)),b,Q,U (.own (rl g.m λk=>il g.m (de g T m e D k)))]=U (.next [U (.ob w (t8 g {V9 g T m e D 3 with inv:=de g T m e D})),iD m,iD e,sd PC,iD D,iD (D*T.m6 (s9 g) m e),sd (il g.m (T.inv e)),b,Q,sd (.list (rl g.m λk=>il g.m (de g T m e D k)))]):=by walk_at "v";rw[j2 (by delta D8;simp),Il]
 have V:U9 "Table" 0 "size" iN (j4 5) [U (.ob w (t8 g {V9 g T m e D 3 with inv:=de g T m e D})),iD m,iD e,sd PC,iD D,iD (D*T.m6 (s9 g) m e),sd (il g.m (T.inv e)),b,Q,sd (.list (rl g.m λk=>il g.m (de g T m e D k)))]=U (.next [U (.ob w (t8 g {V9 g T m e D 3 with inv:=de g T m e D,size:=D*T.m6 (s9 g) m e})),iD m,iD e,sd PC,iD D,iD (D*T.m6 (s9 g) m e),sd (il g.m (T.inv e)),b,Q,sd (.list (rl g.m λk=>il g.m (de g T m e D k)))]):=by walk_at "v";rw[j2 (by delta D8;simp),Vm]
 have y:bY "Table" 0 "chosen" (j4 2) (j4 1) [U (.ob w (t8 g {V9 g T m e D 3 with inv:=de g T m e D,size:=D*T.m6 (s9 g) m e})),iD m,iD e,sd PC,iD D,iD (D*T.m6 (s9 g) m e),sd (il g.m (T.inv e)),b,Q,sd (.list (rl g.m λk=>il g.m (de g T m e D k)))]=U (.next [U (.ob w (t8 g (S9 g T m e D))),iD m,iD e,sd PC,iD D,iD (D*T.m6 (s9 g) m e),sd (il g.m (T.inv e)),b,Q,sd (.list (rl g.m λk=>il g.m (de g T m e D k)))]):=by rw[FN rfl rfl rfl rfl f];rfl
 rw[q9,G,o5,q9,I,o5,q9,E,o5,q9,S,o5,q9,A,o5,q9,F,o5,q9,Z,o5,q9,X,o5,q9,V,o5,y];subst a;simp only[n8,lh,O9,Q6]
end
section
variable{T:Sx.Tb}
theorem CM(s:eh):u9 (P4 s) (.int 3)=sd (optN s.pl):=rfl
theorem Rj(K:af g T)(d:m<g.n)(e:g.lim m=U D)(hs:O.pl=J):
  kX [.ob J (t8 g T),.dat (.int (m:Int)),.dat a6,.dat (P4 O)]=U (.dat .none,[U (.ob J (t8 g (jU g T m (-(T.sg m*D))))),J,J,J]):=by
 refine iK rfl λt=>?_;rw[show((cu t 0 [PV.ob J (t8 g T),.dat (.int m),.dat a6,.dat (P4 O)]).map U++w5 (4-4) J)=[U (.ob (U (t 0)) (t8 g T)),iD m,sd a6,sd (P4 O)]from rfl]
 generalize b:(U (t 0))=w;have c:M0 (o8 (j8 mI (j8 u9 (j4 3) (fC (.int 3))) (fC .none))) (j9 (M8 (L6 "Table" "flip" 0 L7 (B8 (j4 1) aL))) mK) E4 [U (.ob w (t8 g T)),iD m,sd a6,sd (P4 O)]=U (.retO (.dat .none) [U (.ob w (t8 g (jU g T m (-(T.sg m*D))))),iD m,sd a6,sd (P4 O)]):=by
  have f:o8 (j8 mI (j8 u9 (j4 3) (fC (.int 3))) (fC .none)) [U (.ob w (t8 g T)),iD m,sd a6,sd (P4 O)]=U Uf:=by walk_at "v";rw[CM,hs];rfl
  delta M0;rw[f,n8,j2 rfl,q9];delta M8;rw[qD (xs:=[.int m]) rfl (vJ g T) rfl (Hu K d e)];rfl
 rw[q9,c];subst b;show(U (Out.retO _ _)).bind _=_;simp only[n8,lh,O9,Q6]
theorem GY(K:af g T){v:Int}(p:m<g.n)(o:e<g.m)(hs:O.pl=U e)(x:T.full m=Uf->g.lim m≠J)(q:D=if 0<T.m6 (s9 g) m e then 1 else -1)(Q:O.ch<g.n)(h:O.tp=Uf->g.lim O.ch=U v):
  kX [.ob J (t8 g T),.dat (.int (m:Int)),.dat (.list (aA g T m)),.dat (P4 O)]=U (.dat .none,[U (.ob J (t8 g (if O.tp=Uf then jU g (S9 g T m e D) O.ch (-((S9 g T m e D).sg O.ch*v))else S9 g T m e D))),J,J,J]):=by
 refine iK rfl λt=>?_;generalize r:(nc (aA g T m))=PC;rw[show((cu t 0 [PV.ob J (t8 g T),.dat (.int m),.dat PC,.dat (P4 O)]).map U++w5 (4-4) J)=[U (.ob (U (t 0)) (t8 g T)),iD m,sd PC,sd (P4 O)]from rfl]
 generalize i:(U (t 0))=w;have j:M0 (o8 (j8 mI (j8 u9 (j4 3) (fC (.int 3))) (fC .none))) (j9 (M8 (L6 "Table" "flip" 0 L7 (B8 (j4 1) aL))) mK) E4 [U (.ob w (t8 g T)),iD m,sd PC,sd (P4 O)]=U (.next [U (.ob w (t8 g T)),iD m,sd PC,sd (P4 O)]):=by
  have f:o8 (j8 mI (j8 u9 (j4 3) (fC (.int 3))) (fC .none)) [U (.ob w (t8 g T)),iD m,sd PC,sd (P4 O)]=U U':=by walk_at "v";rw[CM,hs];rfl
  delta M0;rw[f];rfl
 have u:M8 (L6 "Table" "turn" 0 cF (B8 (j4 1) (B8 (j8 u9 (j4 3) (fC (.int 3))) (B8 (j4 2) aL)))) [U (.ob w (t8 g T)),iD m,sd PC,sd (P4 O)]=U (.next [U (.ob w (t8 g (S9 g T m e D))),iD m,sd PC,sd (P4 O)]):=by
  delta M8;have b:B8 (j4 1) (B8 (j8 u9 (j4 3) (fC (.int 3))) (B8 (j4 2) aL)) [U (.ob w (t8 g T)),iD m,sd PC,sd (P4 O)]=U (([.int m,.int e,PC]).map AV.d):=by walk_at "v";rw[CM,hs];rfl
  rw[qD rfl (QY g T) b (by subst r;exact Uz K p o x q)];rfl
 have y:M0 (o8 (j8 u9 (j4 3) (fC (.int 4)))) (M8 (L6 "Table" "flip" 0 L7 (B8 (j8 u9 (j4 3) (fC (.int 2))) aL))) E4 [U (.ob w (t8 g (S9 g T m e D))),iD m,sd PC,sd (P4 O)]=U (.next [U (.ob w (t8 g (if O.tp=Uf then jU g (S9 g T m e D) O.ch (-((S9 g T m e D).sg O.ch*v))else S9 g T m e D))),iD m,sd PC,sd (P4 O)]):=by
  have f:o8 (j8 u9 (j4 3) (fC (.int 4))) [U (.ob w (t8 g (S9 g T m e D))),iD m,sd PC,sd (P4 O)]=U O.tp:=by rfl
  delta M0;rw[f,n8];by_cases c:O.tp=Uf
  . rw[j2 c,j2 c];delta M8;have b:B8 (j8 u9 (j4 3) (fC (.int 2))) aL [U (.ob w (t8 g (S9 g T m e D))),iD m,sd PC,sd (P4 O)]=U (([.int O.ch]).map AV.d):=by rfl
    rw[qD rfl (vJ g _) b (Ht Q (h c) ((K.lb _ v Q (h c)).mono f5) (K.cb _ Q))];rfl
  rw[j1 c,j1 c];rfl
 rw[q9,j,o5,q9,u,o5,y];subst i;simp only[n8,lh,O9,Q6]
noncomputable def aN(Q:P7)(T:Sx.Tb)(tp:Nat->Option Q2):Nat->Nat->Q2
 | 0,j=>if T.full j=Uf then(tp j).getD q0 else q0
 |i+1,j=>if j=T.B i then w9 (T.am (s9 Q) i*Q.sc (T.B i)) (T.size*Q.un)else aN Q T tp i j
theorem Zg{Q:P7}(K:af Q T){tp:Nat->Option Q2}(hs:∀j,j<Q.n->Bt 7000 (Q.sc j))(o:Bt 900 Q.un)(hz:Bt 7000 T.size)(x:0<Q.un)(u:∀j,j<Q.n->T.full j=Uf->tp j≠J):
  bQ [A2 Q T,.list (rl Q.n λj=>T1 (tp j))]=U (.own (rl Q.n λj=>fr (aN Q T tp Q.m j))):=by
 have w:Bt 8000 (T.size*Q.un):=(hz.mul o).mono f5;have a:T.size*Q.un≠0:=by have:=F0 K.sp x;exact E6
 delta bQ;walk_at "v";rw[km];walk_at "v";rw[j2 (aO K.n1),K3 (g:=λj=>fr (aN Q T tp 0 j)) λj p=>⟨_,if T.full j=Uf then .dat (T1 (tp j))else .dat J3,rfl,by
  delta ra;walk_at "v";split<;>rfl,by
  show PV.d _=fr (if T.full j=Uf then(tp j).getD q0 else q0);by_cases c:T.full j=Uf;rw[j2 c,j2 c];obtain⟨v,s⟩:=Option.ne_none_iff_exists'.mp (u j p c);rw[s];rfl
  . rw[j1 c,j1 c];rfl⟩]
 walk_at "v";rw[qK rfl rfl (wW Q T) rfl,xM K];walk_at "v";rw[km];walk_at "v";obtain⟨q,h,x3,b,rfl⟩:=eT (gt:=cY 2 (G3 3 (G3 4 cZ))) (G:=lQ) (items:=rl Q.m λi=>.tuple [.int (T.B i),.int (T.am (s9 Q) i)])
  (λi l=>∃x3 b,l=[sd (A2 Q T),sd (.list (rl Q.n λj=>T1 (tp j))),U (.own (rl Q.n λj=>fr (aN Q T tp i j))),x3,b])
  ⟨J,J,rfl⟩ (by
   rintro i d l r ⟨x3,b,rfl⟩;obtain⟨f,rfl⟩:=wH r;have e:=K.bn i f;refine⟨[sd (A2 Q T),sd (.list (rl Q.n λj=>T1 (tp j))),U (.own (rl Q.n λj=>fr (aN Q T tp i j))),iD (T.B i),iD (T.am (s9 Q) i)],[sd (A2 Q T),sd (.list (rl Q.n λj=>T1 (tp j))),U (.own (rl Q.n λj=>fr (aN Q T tp (i+1) j))),iD (T.B i),iD (T.am (s9 Q) i)],rfl,.inl ?_,_,_,rfl⟩
   delta lQ;have t:f9 R4 (f6 (j8 F7 (j4 4) (j8 u9 (B9 "Table" "scales" (j4 0)) (j4 3))) (f6 (j8 F7 (B9 "Table" "size" (j4 0)) (B9 "Table" "unit" (j4 0))) l7)) [sd (A2 Q T),sd (.list (rl Q.n λj=>T1 (tp j))),U (.own (rl Q.n λj=>fr (aN Q T tp i j))),iD (T.B i),iD (T.am (s9 Q) i)]=sd (fr (w9 (T.am (s9 Q) i*Q.sc (T.B i)) (T.size*Q.un))):=by walk_at "v";rw[G7 _ e];walk_at "v";rw[t6 ((K.ab i f).mono f5) ((hs _ e).mono f5),t6 (hz.mono f5) (o.mono f5)];walk_at "v";rw[gd a w]
   delta bX;rw[t,n8];show(eQ (rl Q.n _).length (T.B i)).bind _=_
   rw[A7,hV e,n8,fW];have:(rl Q.n λk=>if k=T.B i then PV.d (.dat (fr (w9 (T.am (s9 Q) i*Q.sc (T.B i)) (T.size*Q.un))))else fr (aN Q T tp i k))=rl Q.n λj=>fr (aN Q T tp (i+1) j):=aK λk _=>by rw[aN];split<;>rfl
   rw[this];rfl)
 rw[A7]at h;rw[h];walk_at "v"
noncomputable def Z9(Q:P7)(T:Sx.Tb)(p:Nat):Tr:=⟨w9 (T.pr 0 p) (T.size*Q.mu 0),w9 (T.pr 1 p) (T.size*Q.mu 1),w9 (T.pr 2 p) (T.size*Q.mu 2)⟩
theorem Qr(K:af g T)(d:m<g.m)(f:∀t,t<3->0<g.mu t/\Bt 900 (g.mu t)):jj [A2 g T,.int (m:Int)]=sd (F5 (Z9 g T m)):=by
 have one:∀t:Nat,t<3->fe [iD t,sd (A2 g T),iD m,J]=sd (fr (w9 (T.pr t m) (T.size*g.mu t))):=λt b=>by
  obtain⟨m0,m1⟩:=f t b;have a:T.size*g.mu t≠0:=by have:=F0 K.sp m0;exact E6
  delta fe;walk_at "v";rw[G7 _ b];walk_at "v";rw[G7 _ d,G7 _ b];walk_at "v";rw[t6 (K.sb.mono f5) (m1.mono f5)];walk_at "v";rw[gd a ((K.sb.mul m1).mono f5)]
 delta jj;walk_at "v";have e:L8 p6 q5 fe [sd (A2 g T),iD m,J] [.int 0,.int 1,.int 2]=U [fr (w9 (T.pr 0 m) (T.size*g.mu 0)),fr (w9 (T.pr 1 m) (T.size*g.mu 1)),fr (w9 (T.pr 2 m) (T.size*g.mu 2))]:=by
  have:=K3 (gt:=p6) λi c=>⟨_,_,rfl,one i c,rfl⟩;exact this
 rw[e];rfl
theorem zh(x:f7)(h:m<=1000):dX (.list [x]) (.int (m:Int))=U (.own (rl m λ_=>x)):=by
 show(if (0<=(m:Int)/\(m:Int).toNat<=100000)/\[x].length*(m:Int).toNat<=100000 then U (PV.own (w5 (m:Int).toNat [x]).flatten)else J)=_;rw[j2 ⟨⟨by simp[*],ju⟩,by rw[ck,EX];lia⟩,ck,XJ]
noncomputable def cU(Q:P7)(T:Sx.Tb)(a:Nat):Nat->Nat->Q2
 | 0,j=>if j=a then(Q.sc a,1)else q0
 |i+1,j=>if j=T.B i then w9 (-T.m6 (s9 Q) a i*Q.sc (T.B i)) T.size else cU Q T a i j
theorem Xe(K:af g T)(b:m<g.n)(hs:∀j,j<g.n->Bt 7000 (g.sc j)):jR [A2 g T,.int (m:Int),.list (aA g T m)]=U (.own (rl g.n λj=>fr (cU g T m g.m j))):=by
 have s:O8 3 (j8 dX (E2 (f6 (fC J3) l7)) (f9 A9 (f6 (B9 "Table" "full" (j4 0)) l7))) [sd (A2 g T),iD m,sd (.list (aA g T m)),J,J,J]=U (.next [sd (A2 g T),iD m,sd (.list (aA g T m)),U (.own (rl g.n λ_=>J3)),J,J]):=by walk_at "v";rw[A7];rw[zh _ K.n1];rfl
 have r:bX 3 (j4 1) (n9 (f6 (j8 u9 (B9 "Table" "scales" (j4 0)) (j4 1)) (f6 (fC (.int 1)) l7))) [sd (A2 g T),iD m,sd (.list (aA g T m)),U (.own (rl g.n λ_=>J3)),J,J]=U (.next [sd (A2 g T),iD m,sd (.list (aA g T m)),U (.own (rl g.n λj=>fr (cU g T m 0 j))),J,J]):=by
  have c:n9 (f6 (j8 u9 (B9 "Table" "scales" (j4 0)) (j4 1)) (f6 (fC (.int 1)) l7)) [sd (A2 g T),iD m,sd (.list (aA g T m)),U (.own (rl g.n λ_=>J3)),J,J]=sd (fr (g.sc m,1)):=by walk_at "v";rw[G7 _ b];walk_at "v"
  delta bX;rw[c,n8];show(eQ (rl g.n _).length m).bind _=_
  rw[A7,hV b,n8,fW];have:(rl g.n λk=>if k=m then PV.d (.dat (fr (g.sc m,1)))else J3)=rl g.n λj=>fr (cU g T m 0 j):=aK λk _=>by rw[cU];split<;>rfl
  rw[this];rfl
 obtain⟨p,l,e,Q,rfl⟩:=eT (gt:=cY 2 (G3 4 (G3 5 cZ))) (G:=lO) (items:=rl g.m λi=>.tuple [.int (T.B i),.int (T.m6 (s9 g) m i)])
  (λi o=>∃e Q,o=[sd (A2 g T),iD m,sd (.list (aA g T m)),U (.own (rl g.n λj=>fr (cU g T m i j))),e,Q])
  ⟨J,J,rfl⟩ (by
   rintro i d o q ⟨e,Q,rfl⟩;obtain⟨h,rfl⟩:=wH q;have f:=K.bn i h;refine⟨[sd (A2 g T),iD m,sd (.list (aA g T m)),U (.own (rl g.n λj=>fr (cU g T m i j))),iD (T.B i),iD (T.m6 (s9 g) m i)],[sd (A2 g T),iD m,sd (.list (aA g T m)),U (.own (rl g.n λj=>fr (cU g T m (i+1) j))),iD (T.B i),iD (T.m6 (s9 g) m i)],rfl,.inl ?_,_,_,rfl⟩
   delta lO;have c:f9 R4 (f6 (j8 F7 (gg bP (j4 5)) (j8 u9 (B9 "Table" "scales" (j4 0)) (j4 4))) (f6 (B9 "Table" "size" (j4 0)) l7)) [sd (A2 g T),iD m,sd (.list (aA g T m)),U (.own (rl g.n λj=>fr (cU g T m i j))),iD (T.B i),iD (T.m6 (s9 g) m i)]=sd (fr (w9 (-T.m6 (s9 g) m i*g.sc (T.B i)) T.size)):=by walk_at "v";rw[G7 _ f];walk_at "v";rw[t6 (((K.xE m i b h).mono f5).neg) ((hs _ f).mono f5)];walk_at "v";rw[gd (by have:=K.sp;exact E6) (K.sb.mono f5)]
   delta bX;rw[c,n8];show(eQ (rl g.n _).length (T.B i)).bind _=_
   rw[A7,hV f,n8,fW];have:(rl g.n λk=>if k=T.B i then PV.d (.dat (fr (w9 (-T.m6 (s9 g) m i*g.sc (T.B i)) T.size)))else fr (cU g T m i k))=rl g.n λj=>fr (cU g T m (i+1) j):=aK λk _=>by rw[cU];split<;>rfl
   rw[this];rfl)
 rw[A7]at l;delta jR E1;rw[j2 (by rfl),show(N8 [A2 g T,.int m,.list (aA g T m)]++w5 (6-3) J:Ds)=[sd (A2 g T),iD m,sd (.list (aA g T m)),J,J,J]from rfl,q9,s,o5,q9,r,o5];walk_at "v";rw[km];walk_at "v";rw[l];walk_at "v"
end
def pJ(c x:Int):Int:=(w9 c x).1*x
def TY(l:List Int):Int:=l.foldl pJ 1
theorem ML(y:0<E)(f:0<M)(i:E∣D)(g:M∣D):0<pJ E M/\E∣pJ E M/\M∣pJ E M/\pJ E M∣D:=by
 obtain⟨j,l,s,o⟩:=W0 f;delta pJ;generalize (w9 E M).1=p at *;generalize (w9 E M).2=q at *;obtain⟨r,b⟩:=o;have hq:q≠0:=by lia
 have a:E=p*r:=by
  have:q*(p*r)=q*E:=by rw[b]at s;grind
  exact(yE hq this).symm
 have G9:0<r:=by
  rcases dJ 0 r with h|h
  exact h;have:=qV (O3 j) h;lia
 have d:0<p:=by
  rcases dJ 0 p with h|h
  exact h;have:=OA h (O3 G9);lia
 refine⟨F0 d f,⟨q,by omega⟩,⟨p,F1 _ _⟩,?_⟩
 obtain⟨u,e⟩:=i;obtain⟨v,t⟩:=g;have k:p*u=q*v:=by
  have:r*(p*u)=r*(q*v):=by rw[a]at e;rw[b]at t;grind
  exact yE E6 this
 have n:q∣u:=by
  have:q∣p*u:=⟨v,k⟩;have h:=Int.natAbs_dvd_natAbs.mpr this;rw[cj]at h;refine Int.natAbs_dvd_natAbs.mp (Nat.Coprime.dvd_of_dvd_mul_left ?_ h);show Nat.gcd q.natAbs p.natAbs=1;rw[Nat.gcd_comm];exact l
 obtain⟨w,m⟩:=n;exact⟨w,by rw[e,a,m,b];grind⟩
theorem By:∀(l:List Int) (c:Int),0<c->c∣D->(∀x∈l,0<x/\x∣D)->0<l.foldl pJ c/\c∣l.foldl pJ c/\(∀x∈l,x∣l.foldl pJ c)/\l.foldl pJ c∣D:=by
 intro l_;induction l_ with
 |nil =>
  intro c h1 h2 _;exact⟨h1,gu _,λx k=>absurd k t7,h2⟩
 |cons x l ih_ =>
  intro c h1 h2 h3;obtain⟨d,h⟩:=h3 x v8;obtain⟨i,j,n,m⟩:=ML h1 d h2 h;obtain⟨e,b,f,g⟩:=ih_ (pJ c x) i m λy a=>h3 y (u7 _ a);refine⟨e,iZ j b,λy a=>?_,g⟩
  rcases List.mem_cons.mp a with rfl|a
  exact iZ n b;exact f y a
theorem sC(hD:0<D)(a:0<E)(h:E∣D)(b:Bt m D):Bt m E:=b.of_le (by have:=fz hD h;omega)
theorem lr(hD:0<D)(i:Bt 7000 D)(h:∀x∈K,0<x/\x∣D):J6 [.list (K.map .int)]=sd (.int (TY K)):=by
 have d:∀(k:List Int) c L x,0<c->c∣D->(∀x∈k,0<x/\x∣D)->∃j,X7 (C1 2) V8 (k.map .int) [sd L,iD c,x]=U (.next [sd L,iD (k.foldl pJ c),j]):=by
  intro k;induction k with
  |nil=>exact λc L x _ _ _=>⟨x,rfl⟩
  |cons y k o =>
   intro c L x g f n;obtain⟨b,m⟩:=n y v8;obtain⟨p,s,t,q⟩:=ML g b f m;have a:=sC hD b m i;have e:V8 [sd L,iD c,iD y]=U (.next [sd L,iD (pJ c y),iD y]):=by delta V8;walk_at "r";rw[gd E6 (a.mono f5)];walk_at "r";rw[t6 ((eN b (sC hD g f i) a).bt.mono f5) (a.mono f5)];rfl
   rw[v5,C8 rfl e,En];exact o _ L _ p q λz r=>n z (u7 _ r)
 obtain⟨j,e⟩:=d K 1 (.list (K.map .int)) J f5 ⟨D,by simp[*]⟩ h;delta J6;walk_at "r";rw[e];rfl
def wh(q:Q2)(b:Int):Int:=q.1*b.fdiv q.2
theorem qp(e:Bt 7000 u.1)(c:Bt 7000 u.2)(a:u.2≠0)(d:Bt 7000 D):ie [fr u,.int D]=sd (.int (wh u D)):=by delta ie;walk_at "r";rw[J5 a (c.mono f5)];walk_at "r";rw[t6 (e.mono f5) (d.fdiv.mono f5)];rfl
theorem wj(h:0<u.2)(hd:u.2∣D):wh u D*u.2=u.1*D:=by obtain⟨c,a⟩:=hd;delta wh;rw[a,Oj _ E6];grind
structure B3 where
 m:Nat
 n:Nat
 cost:Nat->Tr
 row:Nat->Nat->Q2
 rg:Nat->Q2
 tp:Nat->Option Q2
 fs:Nat->Nat
variable{f:B3}
def N7(x:Tr):Nat->Q2
 | 0=>x.a
 | 1=>x.b
 | 2=>x.c
 |_=>q0
theorem ZC(x:Tr)(h:m<3):u9 (F5 x) (.int (m:Int))=sd (fr (N7 x m)):=by rcases(by lia:m=0\/m=1\/m=2)with rfl|rfl|rfl<;>rfl
def B3.sc(I:B3)(j:Nat):Int:=TY ((A3 I.m).map λp=>(I.row p j).2)
def B3.bc(I:B3)(j:Nat):Nat->List (Nat×Int)
 | 0=>[]
 |i+1=>I.bc j i++(if I.row i j≠q0 then[(i,wh (I.row i j) (I.sc j))]else[])
def B3.wq(I:B3)(t j:Nat):Q2:=J9 (N7 (I.cost j) t) (I.sc j,1)
def B3.mu(I:B3)(t:Nat):Int:=TY ((A3 I.n).map λj=>(I.wq t j).2)
def B3.wt(I:B3)(t j:Nat):Int:=wh (I.wq t j) (I.mu t)
def B3.hq(I:B3)(j:Nat):Option Q2:=(I.tp j).map λq=>J9 q (1,I.sc j)
def B3.oN(I:B3):List Int:=((A3 I.m).map λp=>(I.rg p).2)++(A3 I.n).filterMap λj=>(I.hq j).map (·.2)
def B3.un(I:B3):Int:=TY I.oN
def B3.lim(I:B3)(j:Nat):Option Int:=(I.hq j).map λq=>wh q I.un
def B3.b(I:B3)(p:Nat):Int:=wh (I.rg p) I.un
def B3.E9(I:B3):P7:=⟨I.m,I.n,I.sc,λj=>I.bc j I.m,I.mu,I.wt,I.un,I.lim⟩
def B3.tab(I:B3):Sx.Tb:=⟨I.fs,λ_=>U',1,λk q=>if k=q then 1 else 0,λt k=>I.wt t (I.fs k),I.b⟩
structure A4(I:B3)(D E F:Int):Prop where
 m1:I.m<=1000
 n1:I.n<=1000
 d0:0<D
 e0:0<E
 f0:0<F
 db:Bt 900 D
 eb:Bt 900 E
 fb:Bt 900 F
 row:∀p j,p<I.m->j<I.n->t2 800 (I.row p j)/\(I.row p j).2∣D
 cost:∀t j,t<3->j<I.n->t2 800 (N7 (I.cost j) t)/\(N7 (I.cost j) t).2∣E
 rg:∀p,p<I.m->t2 800 (I.rg p)/\(I.rg p).2∣F
 tp:∀j q,j<I.n->I.tp j=U q->t2 800 q/\∀s,s∣D->q.2*s∣F
 fs:∀k,k<I.m->I.fs k<I.n
theorem A4.sc(H:A4 f D E M)(I:m<f.n):0<f.sc m/\f.sc m∣D/\Bt 900 (f.sc m)/\∀p,p<f.m->(f.row p m).2∣f.sc m:=by
 have:=By (D:=D) ((A3 f.m).map λp=>(f.row p m).2) 1 f5 ⟨D,by simp[*]⟩ λx e=>by obtain⟨p,a,rfl⟩:=mem_map.mp e;have:=H.row p m (mem_range.mp a) I;exact⟨this.1.pos,this.2⟩
 obtain⟨b,g,d,c⟩:=this;exact⟨b,c,sC H.d0 b c H.db,λp a=>d _ (mem_map.mpr ⟨p,mem_range.mpr a,rfl⟩)⟩
theorem Po(H:A4 f D E M)(b:m<f.n):ji [.list (rl f.m λp=>.list (rl f.n λm=>fr (f.row p m))),.int (m:Int)]=sd (.int (f.sc m)):=by
 delta ji;walk_at "r";rw[j2 (aO H.m1),K3 λp a=>⟨_,.dat (.int (f.row p m).2),rfl,by delta nP;walk_at "r";rw[G7 _ b];walk_at "r",rfl⟩]
 walk_at "r";have e:(rl f.m λp=>V0 (f.row p m).2)=((A3 f.m).map λp=>(f.row p m).2).map V0:=by rw[ei];rfl
 rw[e,lr H.d0 (H.db.mono f5) λx c=>by obtain⟨p,a,rfl⟩:=mem_map.mp c;have:=H.row p m (mem_range.mp a) b;exact⟨this.1.pos,this.2⟩];rfl
theorem Ze(p q:Q2):lj (fr p) (fr q)=sd (.bool (decide (p≠q))):=zd p q
theorem MK(H:A4 f D E M)(s:m<f.n):gC [.list (rl f.m λp=>.list (rl f.n λm=>fr (f.row p m))),.int (m:Int),.int (f.sc m)]=U (.own ((f.bc m f.m).map λe=>.tuple [.int (e.1:Int),.int e.2])):=by
 obtain⟨_,_,G,_⟩:=H.sc s;have u:∀k,k<=f.m->L8 (N5 2) U6 U8 [sd (.list (rl f.m λp=>.list (rl f.n λm=>fr (f.row p m)))),iD m,iD (f.sc m)] ((rl f.m λi=>.tuple [.int (0+i),.list (rl f.n λm=>fr (f.row i m))]).take k)=U ((f.bc m k).map λe=>.tuple [.int e.1,.int e.2]):=by
  have w:∀(q g o I) d,L8 (N5 2) U6 U8 d q=U o->L8 (N5 2) U6 U8 d g=U I->L8 (N5 2) U6 U8 d (q++g)=U (o++I):=by
   intro q;induction q with
   |nil=>intro g o I d a r;cases a;exact r
   |cons x q t =>
    intro g o I d a r;rw[ak];unfold L8 at a ⊢;obtain⟨bs,K,a⟩:=j3 a;obtain⟨b,L,a⟩:=j3 a;rw[K,n8,L,n8];cases b with
    |false =>
     exact t g o I d a r
    |true =>
     obtain⟨y,C,a⟩:=j3 a;obtain⟨l,B,a⟩:=j3 a;cases a;rw[C,n8,t g l I d B r];rfl
  intro k;induction k with
  |zero=>intro _;rfl
  |succ k t =>
   intro O;have h:k<f.m:=by lia
   obtain⟨v,N⟩:=H.row k m h s;have A:(rl f.m λi=>nj [.int (0+i),.list (rl f.n λm=>fr (f.row i m))]).take (k+1)=(rl f.m λi=>nj [.int (0+i),.list (rl f.n λm=>fr (f.row i m))]).take k++[.tuple [.int (0+k),.list (rl f.n λm=>fr (f.row k m))]]:=by rw[List.take_succ,L1,nI h];rfl
   rw[A,B3.bc,aj];refine w _ _ _ _ _ (t cw) ?_;unfold L8;simp only[N5,ao,jb,Q6,n8];have eq:U6 (N8 [.int (0+k),.list (rl f.n λm=>fr (f.row k m))]++[sd (.list (rl f.m λp=>.list (rl f.n λm=>fr (f.row p m)))),iD m,iD (f.sc m)])=U (decide (f.row k m≠q0)):=by unfold U6;walk_at "r";rw[G7 _ s];walk_at "r";rw[Ze (f.row k m) q0];walk_at "r"
   rw[eq,n8];by_cases c:f.row k m=q0;rw[j1 (by simp[c]),j1 (λz=>z c)];rfl
   . rw[j2 (by simpa using c),j2 c]
     have F:U8 (N8 [.int (0+k),.list (rl f.n λm=>fr (f.row k m))]++[sd (.list (rl f.m λp=>.list (rl f.n λm=>fr (f.row p m)))),iD m,iD (f.sc m)])=sd (.tuple [.int (0+k),.int (wh (f.row k m) (f.sc m))]):=by
      unfold U8;walk_at "r";rw[G7 _ s];walk_at "r";rw[qp (v.bt.mono f5) (v.bb.mono f5) (by have:=v.pos;exact E6) (G.mono f5)];walk_at "r"
     rw[F,n8];simp only[L8,n8,v5,pX,O1,PV.uK]
 have:=u f.m y4;rw[NY (by rw[A7];simp[*])]at this;unfold gC;walk_at "r";rw[uH,j2 (aO H.m1),this];rfl
theorem Sg(I:B3)(j:Nat):∀k e,e∈I.bc j k->e.1<k/\e.2=wh (I.row e.1 j) (I.sc j):=by
 intro l_;induction l_ with
 |zero =>
  intro e h;exact absurd h (by simp[B3.bc])
 |succ k ih_ =>
  intro e h;rcases List.mem_append.mp h with h|h
  have:=ih_ e h;exact⟨by lia,this.2⟩
  simp_all
theorem Si(I:B3)(j:Nat):∀k,(I.bc j k).length<=k:=by
 intro l_;induction l_ with
 |zero =>
  simp[B3.bc]
 |succ k ih_ =>
  have:=ih_;rw[B3.bc,Z4];split<;>simp<;>omega
theorem Sf(c d:List (Nat×Int))(r:Nat):K4 (c++d) r=K4 c r+K4 d r:=by
 induction c with
 |nil=>simp[K4]
 |cons e c a=>rw[ak,K4,K4,a];lia
theorem MJ(I:B3)(j p:Nat):∀k,K4 (I.bc j k) p=if p<k then wh (I.row p j) (I.sc j)else 0:=by
 intro l_;induction l_ with
 |zero =>
  rfl
 |succ k ih_ =>
  rw[B3.bc,Sf,ih_];by_cases c:p=k;subst c;have g:(if p<p then wh (I.row p j) (I.sc j)else 0)=0:=j1 o9;have f:(if p<p+1 then wh (I.row p j) (I.sc j)else 0)=wh (I.row p j) (I.sc j):=j2 o9;rw[g,f];by_cases z:I.row p j=q0;have a:(if I.row p j≠q0 then[(p,wh (I.row p j) (I.sc j))]else[])=[]:=j1 (λy=>y z);rw[a,z];show 0+0=0*_;simp[*];have a:(if I.row p j≠q0 then[(p,wh (I.row p j) (I.sc j))]else[])=[(p,wh (I.row p j) (I.sc j))]:=j2 z;rw[a];simp[K4]
  . have e:K4 (if I.row k j≠q0 then[(k,wh (I.row k j) (I.sc j))]else[]) p=0:=by
      split;have d:¬k=p:=λz=>c z.symm;simp[K4,d];rfl
    rw[e];by_cases b:p<k;rw[j2 b,j2 cO];simp[*];rw[j1 b,j1 j7];rfl
theorem xb:∀fs:List (Str×PF),(fs.map (·.1)).contains B=U'->w4 B fs=J:=by
 intro l_;induction l_ with
 |nil =>
  intro _;exact rfl
 |cons a_ r ih_ =>
  obtain⟨g,x⟩:=a_;intro h;rw[v5,List.contains_cons,NJ]at h;rw[w4,j1 (λz=>by lia)];exact ih_ h.2
theorem PZ{p:PF}:∀fs:List (Str×PF),w4 B fs=J->L5 B p fs=fs++[(B,p)]:=by
 intro l_;induction l_ with
 |nil =>
  intro _;exact rfl
 |cons a_ r ih_ =>
  obtain⟨g,x⟩:=a_;intro h;rw[w4]at h;split at h;exact nS h;rename_i c;rw[L5,j1 c,ih_ h];rfl
theorem Z6{a:PV->Option PF}{pv:PV}{p:PF}(h:r[m]? = U (U (.ob H (.ins "Table" a8))))(b:a8.length<900)(c:(a8.map (·.1)).contains B=U')(d:G r=U pv)(e:a pv=U p):U9 "Table" m B a G r=U (.next (r.set m (U (.ob H (.ins "Table" (a8++[(B,p)])))))):=by delta U9 fR;rw[d,n8,e,n8,h];simp only[Q6,n8];rw[j2 b,PZ a8 (xb a8 c)]
theorem mF(h:r[m]? = U (U (.ob H (.ins "Table" a8))))(a:w4 B a8=U (.dat a6)):K8 "Table" m B r=U (.dat a6):=by delta K8 fR;rw[h];simp only[Q6,n8,a,Dn]
theorem GQ(h:r[m]? = U (U (.ob H (.ins "Table" a8))))(a:w4 B a8=U (.own A))(b:A.length<1000000)(c:G r=U l):oi "Table" m B G r=U (.next (r.set m (U (.ob H (.ins "Table" (L5 B (.own (A++[l.d])) a8)))))):=by delta oi fR;rw[c,n8,h];simp only[Q6,n8,a,rW];rw[j2 b]
theorem Ax{c':OD}{ds:Ds}{xs:List f7}(h:ds[e]? = U (U (.ob H (.ins "Table" a8))))(m:(a8.map (·.1)).contains B=U')(c:b3 ds=U (xs.map AV.d))(b:b6 (.ob J (.ins "Table" a8)::xs.map .dat)=U (l,U (.ob J c')::r)):
  L6 "Table" B e b6 b3 ds=U (l,ds.set e (U (.ob H c'))):=by delta L6 fR;rw[h];simp only[Q6,n8,xb a8 m];refine vY h ?_ b;delta bW;rw[h];simp only[c,n8]
theorem qF{p:PF}:w4 B ((B,p)::a8)=U p:=by rw[w4,j2 rfl]
theorem fk{g:Str}{p:PF}(h:(g==B)=U'):w4 B ((g,p)::a8)=w4 B a8:=by rw[w4,j1 (by simpa using h)]
theorem a2o{p q:PF}:L5 B q ((B,p)::a8)=(B,q)::a8:=by rw[L5,j2 rfl]
theorem put2{g:Str}{p q:PF}(h:(g==B)=U'):L5 B q ((g,p)::a8)=(g,p)::L5 B q a8:=by rw[L5,j1 (by simpa using h)]
abbrev B3.C2(I:B3):f7:=.list (rl I.n λj=>F5 (I.cost j))
abbrev B3.W7(I:B3):f7:=.list (rl I.m λp=>.list (rl I.n λj=>fr (I.row p j)))
abbrev B3.A8(I:B3):f7:=.list (rl I.m λp=>fr (I.rg p))
abbrev B3.G6(I:B3):f7:=.list (rl I.n λj=>T1 (I.tp j))
abbrev B3.Q3(I:B3):f7:=.list (rl I.m λk=>.int (I.fs k:Int))
theorem A4.wq(H:A4 f D E M){t:Nat}(I:t<3)(c:m<f.n):t2 1700 (f.wq t m)/\(f.wq t m).2∣E:=by
 obtain⟨i,h,d,g⟩:=H.sc c;obtain⟨a,e⟩:=H.cost t m I c;refine⟨iu a (qB d f5),?_⟩;have:=(W0 (t:=(N7 (f.cost m) t).1*f.sc m) (b:=(N7 (f.cost m) t).2*1) (by have:=a.pos;simp[*])).2.2.2;rw[ni]at this;delta B3.wq J9;rw[ni];exact iZ this e
theorem A4.mu(H:A4 f D E M)(e:m<3):0<f.mu m/\f.mu m∣E/\Bt 900 (f.mu m)/\∀j,j<f.n->(f.wq m j).2∣f.mu m:=by
 obtain⟨b,g,I,c⟩:=By (D:=E) ((A3 f.n).map λj=>(f.wq m j).2) 1 f5 ⟨E,by simp[*]⟩ λx d=>by obtain⟨p,a,rfl⟩:=mem_map.mp d;have:=H.wq e (mem_range.mp a);exact⟨this.1.pos,this.2⟩
 exact⟨b,c,sC H.e0 b c H.eb,λp a=>I _ (mem_map.mpr ⟨p,mem_range.mpr a,rfl⟩)⟩
theorem A4.wt(H:A4 f D E M)(a:m<3)(b:e<f.n):Bt 2600 (f.wt m e):=(H.wq a b).1.bt.mul (H.mu a).2.2.1.fdiv
theorem A4.hq(H:A4 f D E M)(c:m<f.n)(h:f.hq m=U u):t2 1700 u/\u.2∣M:=by
 obtain⟨b,g,d,i⟩:=H.sc c;obtain⟨r,I,rfl⟩:=Option.map_eq_some_iff.mp h;obtain⟨a,e⟩:=H.tp m r c I;have k:t2 900 (1,f.sc m):=⟨b,by simp,⟨by simp⟩,d⟩;refine⟨iu a k,?_⟩;have:=(W0 (t:=r.1*1) (F0 a.pos b)).2.2.2;exact iZ this (e _ g)
theorem A4.MQ(H:A4 f D E M):∀x∈f.oN,0<x/\x∣M:=by
 intro x a;rcases List.mem_append.mp a with a|a
 obtain⟨p,b,rfl⟩:=mem_map.mp a;have:=H.rg p (mem_range.mp b);exact⟨this.1.pos,this.2⟩;obtain⟨j,c,h⟩:=List.mem_filterMap.mp a;obtain⟨q,hq,rfl⟩:=Option.map_eq_some_iff.mp h;have:=H.hq (mem_range.mp c) hq;exact⟨this.1.pos,this.2⟩
theorem A4.un(H:A4 f D E M):0<f.un/\f.un∣M/\Bt 900 f.un/\(∀p,p<f.m->(f.rg p).2∣f.un)/\∀j q,j<f.n->f.hq j=U q->q.2∣f.un:=by
 obtain⟨a,I,c,b⟩:=By f.oN 1 f5 ⟨M,by simp[*]⟩ H.MQ;refine⟨a,b,sC H.f0 a b H.fb,λp d=>c _ (List.mem_append.mpr (.inl (mem_map.mpr ⟨p,mem_range.mpr d,rfl⟩))),λj q e hq=>c _ (List.mem_append.mpr (.inr (List.mem_filterMap.mpr ⟨j,mem_range.mpr e,by rw[hq];rfl⟩)))⟩
theorem A4.lim(H:A4 f D E M){v:Int}(a:m<f.n)(h:f.lim m=U v):Bt 2600 v:=by obtain⟨q,hq,rfl⟩:=Option.map_eq_some_iff.mp h;exact(H.hq a hq).1.bt.mul H.un.2.2.1.fdiv
theorem A4.b(H:A4 f D E M){p:Nat}(a:p<f.m):Bt 1700 (f.b p):=(H.rg p a).1.bt.mul H.un.2.2.1.fdiv
noncomputable abbrev TK(I:B3):List (Str×PF):=[("scales",.dat (il I.n I.sc)),("columns",.dat (.list (rl I.n λj=>fT (I.bc j I.m))))]
noncomputable abbrev mL(I:B3)(u v:List f7):List (Str×PF):=[("scales",.dat (il I.n I.sc)),("columns",.dat (.list (rl I.n λj=>fT (I.bc j I.m)))),("multiples",.own u),("weights",.own v)]
theorem oI(H:A4 f D E M){t:Nat}(a:t<3)(w:Option Addr)(u v:List f7)(s:u.length<1000)(r:v.length<1000)(x3 c:Option PV):∃q k,Z5 [U (.ob w (.ins "Table" (mL f u v))),sd f.C2,iD (t:Int),x3,c]=U (.next [U (.ob w (.ins "Table" (mL f (u++[.int (f.mu t)]) (v++[il f.n (f.wt t)])))),sd f.C2,iD (t:Int),q,k]):=by
 refine⟨sd (.list (rl f.n λj=>fr (f.wq t j))),iD (f.mu t),?_⟩
 delta Z5;have i:k9 3 (p9 (x9 cq (f6 (j4 1) (f6 (K8 "Table" 0 "scales") l7))) (N5 2) q5 S3) [U (.ob w (.ins "Table" (mL f u v))),sd f.C2,iD t,x3,c]=U (.next [U (.ob w (.ins "Table" (mL f u v))),sd f.C2,iD t,sd (.list (rl f.n λj=>fr (f.wq t j))),c]):=by
  have m:K8 "Table" 0 "scales" [U (.ob w (.ins "Table" (mL f u v))),sd f.C2,iD t,x3,c]=sd (il f.n f.sc):=mF rfl qF;have g:p9 (x9 cq (f6 (j4 1) (f6 (K8 "Table" 0 "scales") l7))) (N5 2) q5 S3 [U (.ob w (.ins "Table" (mL f u v))),sd f.C2,iD t,x3,c]=U (.own (rl f.n λj=>fr (f.wq t j))):=by
   walk_at "r";rw[m];walk_at "r";rw[km];walk_at "r";rw[j2 (aO H.n1),K3 λj b=>⟨_,.dat (fr (f.wq t j)),rfl,by delta S3;walk_at "r";rw[ZC _ a];walk_at "r";rw[mr (H.cost t j a b).1 (qB (H.sc b).2.2.1 f5) f5];rfl,rfl⟩];walk_at "r"
  rw[dg,g];rfl
 rw[q9,i,o5];have l:k9 4 (f9 J6 (f6 (p9 (M7 (j4 3)) p6 q5 cJ) l7)) [U (.ob w (.ins "Table" (mL f u v))),sd f.C2,iD t,sd (.list (rl f.n λj=>fr (f.wq t j))),c]=U (.next [U (.ob w (.ins "Table" (mL f u v))),sd f.C2,iD t,sd (.list (rl f.n λj=>fr (f.wq t j))),iD (f.mu t)]):=by
  walk_at "r";rw[j2 (aO H.n1),K3 λj b=>⟨_,.dat (.int (f.wq t j).2),rfl,by rfl,rfl⟩]
  walk_at "r";have e:(rl f.n λj=>V0 (f.wq t j).2)=((A3 f.n).map λj=>(f.wq t j).2).map V0:=by rw[ei];rfl
  rw[e,lr H.e0 (H.eb.mono f5) λx I=>by obtain⟨p,h,rfl⟩:=mem_map.mp I;have:=H.wq a (mem_range.mp h);exact⟨this.1.pos,this.2⟩];rfl
 rw[q9,l,o5];rw[q9,GQ rfl (by rw[fk t4,fk t4,qF]) (p5 k8 f5) rfl,o5];rw[show L5 "multiples" (.own (u++[(PV.dat (.int (f.mu t))).d])) (mL f u v)=mL f (u++[.int (f.mu t)]) v from by rw[put2 t4,put2 t4,a2o];rfl]
 have o:p9 (M7 (j4 3)) p6 q5 cH [U (.ob w (.ins "Table" (mL f (u++[.int (f.mu t)]) v))),sd f.C2,iD t,sd (.list (rl f.n λj=>fr (f.wq t j))),iD (f.mu t)]=U (.own (rl f.n λj=>.int (f.wt t j))):=by
  walk_at "r";rw[j2 (aO H.n1),K3 λj b=>⟨_,.dat (.int (f.wt t j)),rfl,by walk_at "r";exact qp ((H.wq a b).1.bt.mono f5) ((H.wq a b).1.bb.mono f5) (by have:=(H.wq a b).1.pos;exact E6) ((H.mu a).2.2.1.mono f5),rfl⟩];walk_at "r"
 simp only[iS];rw[GQ rfl (by rw[fk t4,fk t4,fk t4,qF]) ju o];rfl
theorem HS(H:A4 f D E M):V7 [.ob J (.ins "Table" (TK f)),.dat f.C2]=U (.dat .none,[U (.ob J (.ins "Table" (mL f (rl 3 λt=>.int (f.mu t)) (rl 3 λt=>il f.n (f.wt t))))),J]):=by
 refine iK rfl λt=>?_;generalize a:(U (t 0))=w;generalize h:f.C2=C;rw[show((cu t 0 [PV.ob J (.ins "Table" (TK f)),.dat C]).map U++w5 (5-2) J)=[U (.ob (U (t 0)) (.ins "Table" (TK f))),sd C,J,J,J]from rfl,a];rw[q9,Z6 rfl (by show 2<900;decide) (by show(["scales","columns"]:List Str).contains _=U';decide +kernel) rfl rfl,o5];rw[q9,Z6 rfl (by show 3<900;decide) (by show(["scales","columns","multiples"]:List Str).contains _=U';decide +kernel) rfl rfl,o5];simp only[iS,ak,aW];subst h;obtain⟨e,I,j⟩:=oI H (t:=0) f5 w [] [] f5 f5 J J;obtain⟨c,i,b⟩:=oI H (t:=1) f5 w [.int (f.mu 0)] [il f.n (f.wt 0)] (by show 1<1000;decide) (by show 1<1000;decide) e I;obtain⟨g,k,d⟩:=oI H (t:=2) f5 w [.int (f.mu 0),.int (f.mu 1)] [il f.n (f.wt 0),il f.n (f.wt 1)] (by show 2<1000;decide) (by show 2<1000;decide) c i;delta D4;rw[show M7 (fC fw) [U (.ob w (.ins "Table" (mL f [] []))),sd f.C2,J,J,J]=U [.int 0,.int 1,.int 2]from rfl];rw[n8];rw[C8 rfl j];rw[C8 rfl b];rw[C8 rfl d];show lh [PV.ob J (.ins "Table" (TK f)),.dat f.C2] t (.next [U (.ob w (.ins "Table" (mL f (rl 3 λt=>.int (f.mu t)) (rl 3 λt=>il f.n (f.wt t))))),sd f.C2,_,g,k])=_;rw[<-a];simp only[lh,O9,Q6]
noncomputable abbrev CT(I:B3):List (Str×PF):=mL I (rl 3 λt=>.int (I.mu t)) (rl 3 λt=>il I.n (I.wt t))
noncomputable abbrev fsU(I:B3):List (Str×PF):=[("scales",.dat (il I.n I.sc)),("columns",.dat (.list (rl I.n λj=>fT (I.bc j I.m)))),("multiples",.own (rl 3 λt=>.int (I.mu t))),("weights",.own (rl 3 λt=>il I.n (I.wt t))),("unit",.dat (.int I.un))]
noncomputable abbrev fsR(I:B3):List (Str×PF):=[("scales",.dat (il I.n I.sc)),("columns",.dat (.list (rl I.n λj=>fT (I.bc j I.m)))),("multiples",.own (rl 3 λt=>.int (I.mu t))),("weights",.own (rl 3 λt=>il I.n (I.wt t))),("unit",.dat (.int I.un)),("rights",.own (rl I.m λp=>.int (I.b p)))]
noncomputable abbrev fsM(I:B3):List (Str×PF):=[("scales",.dat (il I.n I.sc)),("columns",.dat (.list (rl I.n λj=>fT (I.bc j I.m)))),("multiples",.own (rl 3 λt=>.int (I.mu t))),("weights",.own (rl 3 λt=>il I.n (I.wt t))),("unit",.dat (.int I.un)),("rights",.own (rl I.m λp=>.int (I.b p))),("limits",.dat (.list (rl I.n λj=>fS (I.lim j))))]
theorem YW(H:A4 f D E M)(a:m<f.n):t2 900 (1,f.sc m):=by obtain⟨c,e,b,d⟩:=H.sc a;exact⟨c,by simp,⟨by simp⟩,b⟩
theorem MI(k:Nat)(h:Nat->Option Q2)(ds:Ds):L8 p6 O0 O4 ds (rl k λj=>T1 (h j))=U (((A3 k).filterMap λj=>(h j).map (·.2)).map .int):=by
 have a:∀l:List Nat,L8 p6 O0 O4 ds (l.map λj=>T1 (h j))=U ((l.filterMap λj=>(h j).map (·.2)).map .int):=by
  intro l;induction l with
  |nil=>rfl
  |cons j l b =>
   rw[v5];unfold L8;simp only[p6,n8];have c:O0 (N8 [T1 (h j)]++ds)=U (h j).isSome:=by walk_at "r";cases h j<;>rfl
   rw[c,n8,yw];cases hj:h j with
   |none =>
    exact b
   |some q =>
    have d:O4 (N8 [T1 (U q)]++ds)=sd (.int q.2):=by rfl
    rw[d,n8,b];rfl
 exact a _
theorem LX(H:A4 f D E M):Y0 [.ob J (.ins "Table" (CT f)),.dat f.A8,.dat f.G6]=U (.dat .none,[U (.ob J (.ins "Table" (fsM f))),J,J]):=by
 refine iK rfl λt=>?_;obtain⟨u1,u2,e,r,o⟩:=H.un;generalize I:(U (t 0))=w;rw[show((cu t 0 [PV.ob J (.ins "Table" (CT f)),.dat f.A8,.dat f.G6]).map U++w5 (5-3) J)=[U (.ob (U (t 0)) (.ins "Table" (CT f))),sd f.A8,sd f.G6,J,J]from rfl,I]
 have i:p9 (x9 cq (f6 (j4 2) (f6 (K8 "Table" 0 "scales") l7))) (N5 2) q5 ax [U (.ob w (.ins "Table" (CT f))),sd f.A8,sd f.G6,J,J]=U (.own (rl f.n λj=>T1 (f.hq j))):=by
  have c:K8 "Table" 0 "scales" [U (.ob w (.ins "Table" (CT f))),sd f.A8,sd f.G6,J,J]=sd (il f.n f.sc):=mF rfl qF;walk_at "r";rw[c];walk_at "r";rw[km];walk_at "r";rw[j2 (aO H.n1),K3 λj a=>⟨_,.dat (T1 (f.hq j)),rfl,by
   delta ax;walk_at "r";delta B3.hq;cases hq:f.tp j with
   |none=>rfl
   |some q =>
    simp only[kT,if_false,T1,pZ];rw[mr (H.tp j q a hq).1 (YW H a) f5],rfl⟩]
  walk_at "r"
 rw[q9,dg,i];simp only[so,o5,PV.Jv,EK,iS];have g:j8 p8 (p9 (M7 (j4 1)) p6 q5 aw) (p9 (M7 (j4 3)) p6 O0 O4) [U (.ob w (.ins "Table" (CT f))),sd f.A8,sd f.G6,sd (.list (rl f.n λj=>T1 (f.hq j))),J]=U (.own (f.oN.map .int)):=by
  walk_at "r";rw[j2 (aO H.m1),K3 λp d=>⟨_,.dat (.int (f.rg p).2),rfl,by delta aw;walk_at "r",rfl⟩]
  walk_at "r";rw[j2 (aO H.n1),MI];walk_at "r";rw[MS (by
   rw[A7,A6];have:=List.length_filterMap_le (λj=>(f.hq j).map (·.2)) (A3 f.n);rw[tK]at this;have:=H.m1;have:=H.n1
   lia)]
  delta B3.oN;rw[aj,ei];rfl
 rw[q9,dg,g];simp only[so,o5,PV.Jv,EK,iS];have k:f9 J6 (f6 (j4 4) l7) [U (.ob w (.ins "Table" (CT f))),sd f.A8,sd f.G6,sd (.list (rl f.n λj=>T1 (f.hq j))),sd (.list (f.oN.map .int))]=sd (.int f.un):=by walk_at "r";rw[lr H.f0 (H.fb.mono f5) H.MQ];rfl
 rw[q9,Z6 (p:=.dat (.int f.un)) rfl (by show 4<900;decide) (by show(["scales","columns","multiples","weights"]:List Str).contains _=U';decide +kernel) k rfl,o5]
 simp only[iS,ak,aW];have h:p9 (M7 (j4 1)) p6 q5 av [U (.ob w (.ins "Table" (fsU f))),sd f.A8,sd f.G6,sd (.list (rl f.n λj=>T1 (f.hq j))),sd (.list (f.oN.map .int))]=U (.own (rl f.m λp=>.int (f.b p))):=by
  walk_at "r";rw[j2 (aO H.m1),K3 λp d=>⟨_,.dat (.int (f.b p)),rfl,by
   delta av;have c:K8 "Table" 1 "unit" (N8 [fr (f.rg p)]++[U (.ob w (.ins "Table" (fsU f))),sd f.A8,sd f.G6,sd (.list (rl f.n λj=>T1 (f.hq j))),sd (.list (f.oN.map .int))])=sd (.int f.un):=mF rfl (by rw[fk t4,fk t4,fk t4,fk t4,qF]);simp only[f9,f6];rw[c];walk_at "r";rw[qp ((H.rg p d).1.bt.mono f5) ((H.rg p d).1.bb.mono f5) (by have:=(H.rg p d).1.pos;exact E6) (e.mono f5)]
   rfl,rfl⟩]
  walk_at "r"
 rw[q9,Z6 rfl (by show 5<900;decide) (by show(["scales","columns","multiples","weights","unit"]:List Str).contains _=U';decide +kernel) h rfl,o5]
 simp only[iS,ak,aW];have l:p9 (M7 (j4 3)) p6 q5 au [U (.ob w (.ins "Table" (fsR f))),sd f.A8,sd f.G6,sd (.list (rl f.n λj=>T1 (f.hq j))),sd (.list (f.oN.map .int))]=U (.own (rl f.n λj=>fS (f.lim j))):=by
  walk_at "r";rw[j2 (aO H.n1),K3 λj a=>⟨_,.dat (fS (f.lim j)),rfl,by
   delta au;have c:K8 "Table" 1 "unit" (N8 [T1 (f.hq j)]++[U (.ob w (.ins "Table" (fsR f))),sd f.A8,sd f.G6,sd (.list (rl f.n λj=>T1 (f.hq j))),sd (.list (f.oN.map .int))])=sd (.int f.un):=mF rfl (by rw[fk t4,fk t4,fk t4,fk t4,qF])
   simp only[f9,f6,hZ];rw[c];walk_at "r";delta B3.lim;cases hq:f.hq j with
   |none=>rfl
   |some q =>
    simp only[kT,if_false,T1,pZ,fS];rw[qp ((H.hq a hq).1.bt.mono f5) ((H.hq a hq).1.bb.mono f5) (by have:=(H.hq a hq).1.pos;exact E6) (e.mono f5)],rfl⟩]
  walk_at "r"
 rw[Z6 (p:=.dat (.list (rl f.n λj=>fS (f.lim j)))) rfl (by show 6<900;decide) (by show(["scales","columns","multiples","weights","unit","rights"]:List Str).contains _=U';decide +kernel) l rfl,n8];simp only[iS,ak,aW];rw[<-I];simp only[lh,O9,Q6]
theorem UR{i:Nat}{Fk Fv:DV}{ds:Ds}(h:ds[i]? = U (U (.own A)))(c:Fv ds=U l)(b:Fk ds=sd (.int (m:Int)))(e:m<A.length):bX i Fk Fv ds=U (.next (ds.set i (U (.own (A.set m l.d))))):=by delta bX;rw[c,n8,b,n8,h];simp only[PV.uK,hV e,n8]
theorem FH(f:m<=1000)(g:e<m):jh [.int (m:Int),.int (e:Int)]=U (.own (rl m λq=>.int (if e=q then 1 else 0))):=by
 have b:O8 2 (j8 dX (E2 (f6 (fC (.int 0)) l7)) (j4 0)) [iD m,iD e,J]=U (.next [iD m,iD e,U (.own (rl m λ_=>.int 0))]):=by walk_at "r";rw[zh _ f];rfl
 have a:=UR (i:=2) (Fk:=j4 1) (Fv:=fC (.int 1)) (ds:=[iD m,iD e,U (.own (rl m λ_=>.int 0))]) rfl rfl rfl (by rw[A7];exact g);rw[fW]at a;delta jh;delta E1;rw[show(N8 [.int m,.int e]++w5 (3-2) J)=[iD m,iD e,J]from rfl]
 rw[q9,b,o5,q9,a,o5];have k:(rl m λq=>if q=e then(PV.dat (V0 1)).d else V0 0)=rl m λq=>.int (if e=q then 1 else 0):=aK λq _=>by
  by_cases c:q=e;rw[j2 c,j2 c.symm];rfl;rw[j1 c,j1 λz=>c z.symm]
 rw[k];rfl
noncomputable abbrev fsP(I:B3):List (Str×PF):=[("scales",.dat (il I.n I.sc)),("columns",.dat (.list (rl I.n λj=>fT (I.bc j I.m)))),("multiples",.own (rl 3 λt=>.int (I.mu t))),("weights",.own (rl 3 λt=>il I.n (I.wt t))),("unit",.dat (.int I.un)),("rights",.own (rl I.m λp=>.int (I.b p))),("limits",.dat (.list (rl I.n λj=>fS (I.lim j)))),("chosen",.own (rl I.m λk=>.int (I.fs k:Int))),("full",.own (rl I.n λ_=>.bool U')),("size",.dat (.int 1)),("inverse",.dat (.list (rl I.m λk=>il I.m λq=>if k=q then 1 else 0)))]
abbrev YY:List Str:=["scales","columns","multiples","weights","unit","rights","limits","chosen","full","size","inverse"]
noncomputable abbrev lP(I:B3):List f7:=[il I.n I.sc,.list (rl I.n λj=>fT (I.bc j I.m)),.list (rl 3 λt=>.int (I.mu t)),.list (rl 3 λt=>il I.n (I.wt t)),.int I.un,.list (rl I.m λp=>.int (I.b p)),.list (rl I.n λj=>fS (I.lim j)),.list (rl I.m λk=>.int (I.fs k:Int)),.list (rl I.n λ_=>.bool U'),.int 1,.list (rl I.m λk=>il I.m λq=>if k=q then 1 else 0)]
noncomputable def Cc(I:B3):f7:=(OD.ins "Table" (fsP I)).d
theorem Yt(I:B3):Cc I=zG "Table" YY (lP I):=rfl
theorem Hl(I:B3):uq "Table" (Cc I)=U (YY.map .str,lP I):=by rw[Yt];exact Ml _ _ _
theorem Ir(I:B3):T6 "Table" "chosen" (Cc I)=U (.list (rl I.m λk=>.int (I.fs k:Int))):=by delta T6;rw[Hl,n8];simp only[v5,P5];walk_at "f"
theorem FJ(I:B3):T6 "Table" "weights" (Cc I)=U (.list (rl 3 λt=>il I.n (I.wt t))):=by delta T6;rw[Hl,n8];simp only[v5,P5];walk_at "f"
theorem xy(H:A4 f D E M)(b:m<3):J1 [Cc f,.int (m:Int)]=U (.own (rl f.m λk=>.int (f.wt m (f.fs k)))):=by
 delta J1;walk_at "v";rw[Ir];walk_at "r";rw[j2 (aO H.m1),K3 λk a=>⟨_,.dat (.int (f.wt m (f.fs k))),rfl,by delta bT;walk_at "v";rw[FJ];walk_at "r";rw[G7 _ b];walk_at "r";rw[G7 _ (H.fs k a)];walk_at "r",rfl⟩];rfl
theorem CC(n:Nat)(f:Nat->Int):kG (rl n λk=>.int (f k))=Uf:=by
 have:∀l:List Nat,kG (l.map λk=>V0 (f k))=Uf:=by
  intro l;induction l with
  |nil=>rfl
  |cons x l a=>rw[v5,kG,a];rfl
 exact this _
theorem Wr(H:A4 f D E M):aF [.ob J (.ins "Table" []),.dat f.C2,.dat f.W7,.dat f.A8,.dat f.G6,.dat f.Q3]=U (.dat .none,[U (.ob J (t8 f.E9 f.tab)),J,J,J,J,J]):=by
 refine iK rfl λt=>?_;generalize c:(U (t 0))=w;rw[show((cu t 0 [PV.ob J (.ins "Table" []),.dat f.C2,.dat f.W7,.dat f.A8,.dat f.G6,.dat f.Q3]).map U++w5 (6-6) J)=[U (.ob (U (t 0)) (.ins "Table" [])),sd f.C2,sd f.W7,sd f.A8,sd f.G6,sd f.Q3]from rfl,c]
 have I:p9 (x9 C9 (f6 (f9 A9 (f6 (j4 1) l7)) l7)) p6 q5 hE [U (.ob w (.ins "Table" [])),sd f.C2,sd f.W7,sd f.A8,sd f.G6,sd f.Q3]=U (.own (rl f.n λj=>.int (f.sc j))):=by
  walk_at "r";rw[A7,O7 (by have:=H.n1;lia),ck,wG];walk_at "r";rw[j2 (aO H.n1),K3 λj b=>⟨_,.dat (.int (f.sc j)),rfl,by walk_at "r";exact Po H b,rfl⟩];walk_at "r"
 rw[q9,Z6 (p:=.dat (il f.n f.sc)) rfl t7 (by rfl) I rfl,o5]
 simp only[iS,aW];have g:p9 (x9 bZ (f6 (K8 "Table" 0 "scales") l7)) (N5 2) q5 hC [U (.ob w (.ins "Table" [("scales",.dat (il f.n f.sc))])),sd f.C2,sd f.W7,sd f.A8,sd f.G6,sd f.Q3]=U (.own (rl f.n λj=>fT (f.bc j f.m))):=by
  have l:K8 "Table" 0 "scales" [U (.ob w (.ins "Table" [("scales",.dat (il f.n f.sc))])),sd f.C2,sd f.W7,sd f.A8,sd f.G6,sd f.Q3]=sd (il f.n f.sc):=mF rfl qF;walk_at "r";rw[l];walk_at "r";rw[uH,j2 (aO H.n1),K3 λj b=>⟨_,.own ((f.bc j f.m).map λe=>.tuple [.int e.1,.int e.2]),rfl,by walk_at "r";rw[O1];exact MK H b,rfl⟩];walk_at "r"
 rw[q9,Z6 rfl (by show 1<900;decide) (by show(["scales"]:List Str).contains _=U';decide +kernel) g rfl,o5];rw[q9,M8,Ax (xs:=[f.C2]) rfl (by show(["scales","columns"]:List Str).contains _=U';decide +kernel) rfl (HS H),n8,o5];rw[q9,M8,Ax (xs:=[f.A8,f.G6]) rfl (by show(["scales","columns","multiples","weights"]:List Str).contains _=U';decide +kernel) rfl (LX H),n8,o5];rw[q9,Z6 rfl (by show 7<900;decide) (by show(["scales","columns","multiples","weights","unit","rights","limits"]:List Str).contains _=U';decide +kernel) rfl rfl,o5];rw[q9,Z6 rfl (by show 8<900;decide) (by show(["scales","columns","multiples","weights","unit","rights","limits","chosen"]:List Str).contains _=U';decide +kernel) (by walk_at "r";rw[A7,zh _ H.n1]) rfl,o5];rw[q9,Z6 (p:=.dat (.int 1)) rfl (by show 9<900;decide) (by show(["scales","columns","multiples","weights","unit","rights","limits","chosen","full"]:List Str).contains _=U';decide +kernel) rfl rfl,o5]
 rw[q9,Z6 (pv:=.own (rl f.m λk=>il f.m λq=>if k=q then 1 else 0)) (p:=.dat (.list (rl f.m λk=>il f.m λq=>if k=q then 1 else 0))) rfl (by show 10<900;decide) (by show(["scales","columns","multiples","weights","unit","rights","limits","chosen","full","size"]:List Str).contains _=U';decide +kernel) (by
  walk_at "r";rw[A7,O7 (by have:=H.m1;lia),ck,wG];walk_at "r";rw[j2 (aO H.m1),K3 λk d=>⟨_,.own (rl f.m λq=>.int (if k=q then 1 else 0)),rfl,by delta hB;walk_at "r";rw[A7];exact FH H.m1 d,rfl⟩]
  walk_at "r") rfl,o5]
 simp only[iS,ak,aW];rw[Z6 rfl (by show 11<900;decide) (by show YY.contains _=U';decide +kernel) (by
  delta p9;rw[show M7 (fC fw) _=U (rl 3 λi=>.int i)from rfl,n8]
  rw[j2 (aO f5),K3 λa h=>⟨_,.own (rl f.m λk=>.int (f.wt a (f.fs k))),rfl,by
   delta gZ W4;have e:O6 "Table" "first_prices" J1 (P6 1) (f6 (j4 0) l7) (N8 [.int a]++[U (.ob w (.ins "Table" (fsP f))),sd f.C2,sd f.W7,sd f.A8,sd f.G6,sd f.Q3])=U (.own (rl f.m λk=>.int (f.wt a (f.fs k)))):=by exact xy H h
   rw[e,n8];simp only[CC,Q6],rfl⟩]
  rfl) rfl,n8]
 simp only[iS];rw[<-c];simp only[lh,O9];rfl
open Sx (sN pN sm det B6 dot)
theorem YJ(d:1<=m)(g:1<=e):∀(n:Nat) (f:Nat->Nat),(∀i,i<n->i≠N->f i<=m)->(N<n->f N<=e)->pN n f<=m ^ n*e:=by
 intro l_;induction l_ with
 |zero =>
  intro f _ _;rw[pN,Nat.pow_zero];simp[*]
 |succ n ih_ =>
  intro f h1 h2;by_cases c:n=N
  . have a:pN n f<=m ^ n:=by
      have:∀x,x<=n->pN x f<=m ^ x:=by
       intro x;induction x with
       |zero=>intro _;rw[pN,Nat.pow_zero];simp[*]
       |succ x h =>
        exact λj=>yb (h cw) (h1 x cO j7)
      exact this n y4
    have b:f n<=e:=by rw[c];exact h2 o9
    have y:m ^ n*e<=m ^ (n+1)*e:=nK _ (by rw[DX];exact Nat.le_mul_of_pos_right _ d);exact p5 (yb a b) y
  . have a:=ih_ f (λi l=>h1 i cO) λz=>h2 cO
    calc pN n f*f n<=(m ^ n*e)*m:=yb a (h1 n o9 c)
     _=m ^ (n+1)*e:=by rw[DX,Ee,Ee,sX e m]
theorem wC:∀{n:Nat} {f:Nat->Nat},n<=1000->(∀i,i<n->f i<2 ^ e)->sN n f<2 ^ (e+10):=by
 intro n f a h;have:∀m,m<=n->sN m f<=m*2 ^ e:=by
  intro m;induction m with
  |zero=>intro _;rw[sN];exact gs _
  |succ m c =>
   intro b;have:=h m k8;rw[sN,Nat.succ_mul];lia
 have:=this n y4;have:0<2 ^ e:=DQ f5;have:n*2 ^ e<=1000*2 ^ e:=nK _ a;lia
theorem Bt.sm(a:m<=1000)(h:∀i,i<m->Bt e (S i)):Bt (e+10) (Sx.sm m S):=⟨kS (Sx.Kt m S) (wC a λi b=>(h i b).lt)⟩
theorem zX{d k:Nat}{M:Nat->Nat->Int}(b:∀i,i<m->i≠k->sN m (λr=>(M i r).natAbs)<=2 ^ e)(a:k<m->sN m (λr=>(M k r).natAbs)<=2 ^ d):Bt (e*m+d+1) (det m M):=⟨by
 have h:=p5 (Sx.MC m M) (YJ (DQ f5) (DQ f5) m (λi=>sN m λr=>(M i r).natAbs) b a)
 rw[<-Nat.pow_mul,<-Nat.pow_add]at h;exact kS h (NI f5 o9)⟩
theorem Bt.sign(hs:D=1\/D = -1)(h:D*E=M)(b:Bt e M):Bt e E:=b.of_le (by rw[<-h];rcases hs with rfl|rfl<;>simp)
structure Small(Q:P7)(b:Nat->Int)(c:Nat):Prop where
 m1:Q.m<=1000
 n1:Q.n<=1000
 c1:c*Q.m<=2000
 c2:c<=1000
 cn:∀j,j<Q.n->sN Q.m (λp=>(K4 (Q.col j) p).natAbs)<=2 ^ c
 cl:∀j,j<Q.n->(Q.col j).length<=1000
 cb:∀j,j<Q.n->∀e∈Q.col j,e.1<Q.m/\Bt 7000 e.2
 wb:∀t j,t<3->j<Q.n->Bt 2600 (Q.wt t j)
 w0:∀t j,3<=t->Q.wt t j=0
 lb:∀j v,j<Q.n->Q.lim j=U v->Bt 2600 v/\0<=v
 bb:∀p,p<Q.m->Bt 2600 (b p)
section
variable{T:Sx.Tb}
theorem a0E{f:Nat->Nat}(h:e<m):f e<=sN m f:=by
 induction m with
 |zero=>simp_all
 |succ m a =>
  rw[sN];by_cases z:e=m;rw[z];simp[*];have:=a (nG (qe k8) k8);exact Nat.le_add_right_of_le k8
theorem Small.col(Q:Small g S m)(d:e<g.n)(a:N<g.m):Bt (m+1) (K4 (g.col e) N):=⟨by
 have:=Q.cn e d;have:=a0E (f:=λN=>(K4 (g.col e) N).natAbs) a;have:2 ^ m<2 ^ (m+1):=NI f5 o9
 lia⟩
theorem Small.det(b:Small g S m)(L:Sx.N3 (g.pb S) T){k:Nat}(h:k<g.m){x:Nat->Int}(c:sN g.m (λr=>(x r).natAbs)<=2 ^ e):Bt (m*g.m+e+1) (dot g.m (T.inv k) x):=by
 obtain⟨s,Q,l,f⟩:=L.sg;refine Bt.sign Q (f k h x) (zX (k:=k) (λi j a=>?_) λ_=>?_);rw[show(λr=>(B6 (T.M (g.pb S)) k x i r).natAbs)=λr=>(K4 (g.col (T.B i)) r).natAbs from by funext r;rw[Sx.X5 _ _ _ a];rfl];exact b.cn _ (L.bn i j);rw[show(λr=>(B6 (T.M (g.pb S)) k x k r).natAbs)=λr=>(x r).natAbs from by funext r;rw[Sx.aJ]];exact c
theorem Small.tab(b:Small g S e)(K:Sx.Ok (g.pb S) T):af g T:=by
 have L:=K.C7;have:=b.c1;have:=b.c2;have l:Bt 2001 T.size:=by
  obtain⟨s,x,D,E⟩:=L.sg;have:=zX (d:=0) (k:=g.m) (λi C _=>b.cn _ (L.bn i C)) (λz=>by simp_all);exact(Bt.sign x D this).mono (yj k8)
 have w:∀k q,k<g.m->q<g.m->Bt 2012 (T.inv k q):=λk q c hq=>by
  have h:sN g.m (λr=>(Sx.unit q r).natAbs)<2 ^ (1+10):=wC b.m1 λi _=>by delta Sx.unit;split<;>decide
  have:=b.det L c (bF h);rw[Sx.qJ _ hq]at this;exact this.mono o9
 have m6:∀a k,a<g.n->k<g.m->Bt 3001 (T.m6 (s9 g) a k):=λa k o c=>(b.det L c (b.cn a o)).mono j7
 have rt:∀p,p<g.m->Bt 3612 (T.rt p):=λp f=>by
  rw[K.rt p f];have x:Bt (2600+(e+1)+10) (Sx.fsum (g.pb S) T λj=>(g.pb S).A j p):=Bt.sm b.n1 λj u=>by
   split
   . refine Bt.mul ?_ (b.col u f);show Bt 2600 ((g.lim j).getD 0)
     cases hl:g.lim j with
     |none=>exact Bt.mono (m:=1) ⟨by decide⟩ f5
     |some v=>exact(b.lb j v u hl).1
   exact Bt.mono (m:=1) ⟨by decide⟩ (Nat.succ_pos _)
  exact(((b.bb p f).mono (n:=3611) f5).sub (x.mono j7))
 have am:∀k,k<g.m->Bt 5623 (T.am (s9 g) k):=λk c=>by exact(b.det L c (bF (wC b.m1 λp f=>(rt p f).lt))).mono o9
 have y:∀t q,t<3->q<g.m->Bt 4622 (T.pr t q):=λt q Q hq=>by rw[L.pr t q hq];exact Bt.sm b.m1 λk c=>((b.wb t _ Q (L.bn k c)).mul (w k q c hq)).mono f5
 refine⟨b.m1,b.n1,b.cl,b.cb,λt j Q u=>(b.wb t j Q u).mono f5,λj v u B=>(b.lb j v u B).1.mono f5,L.bn,λp f=>(rt p f).mono f5,λk q c hq=>(w k q c hq).mono f5,λt q Q hq=>(y t q Q hq).mono f5,l.mono f5,L.pos,λk c=>(am k c).mono f5,λa k o c=>(m6 a k o c).mono f5,λt a Q o=>?_⟩;exact((((b.wb t a Q o).mul l).mono (n:=5633) f5).sub ((Bt.sm b.m1 λp f=>(y t p Q f).mul (b.col o f)).mono j7)).mono f5
end
open Sx (sN pN sm det B6 dot)
section
variable{T:Sx.Tb}
theorem xA(hs:0<D)(h:D*E=M):D*M.fdiv D=M:=by rw[<-h,Oj _ E6]
theorem FI{Q:P7}(b:Small Q S m)(K:Sx.Ok (Q.pb S) T){a:Nat}{g:Int}(n:e<Q.m):Sx.DG (Q.pb S) T a e g (S9 Q T a e g):=by
 have L:=K.C7;refine⟨λk w=>rfl,rfl,λq hq=>?_,λr q s hq d=>?_,λt q hq=>?_⟩;show de Q T a e g e q=_;delta de;simp;show T.size*de Q T a e g r q=_;delta de;rw[j1 d];obtain⟨z,f⟩:=L.exact n g r q s hq d;exact xA L.pos f
 . show T.size*(if t<3 then uU Q T a e g t else T.pr t) q=_;by_cases h:t<3
   . rw[j2 h];delta uU;obtain⟨z,f⟩:=L.ZT n g t hq;have c:T.pr t q*(g*T.m6 (s9 Q) a e)-(-g*T.rest (s9 Q) t a)*T.inv e q=T.pr t q*(g*T.m6 (Q.pb S) a e)+g*T.rest (Q.pb S) t a*T.inv e q:=by
      show T.pr t q*(g*T.m6 (s9 Q) a e)-(-g*T.rest (s9 Q) t a)*T.inv e q=T.pr t q*(g*T.m6 (s9 Q) a e)+g*T.rest (s9 Q) t a*T.inv e q;lia
     rw[c];exact xA L.pos f
   . rw[j1 h];have i:∀j,(Q.pb S).c t j=0:=λj=>b.w0 t j (nu k8)
     have o:∀q,q<Q.m->T.pr t q=0:=λq hq=>by rw[L.pr t q hq];exact Sx.hF λk _=>by rw[i,bE]
     have v:T.rest (Q.pb S) t a=0:=by
      delta Sx.Tb.rest;rw[i,bE];have:dot (Q.pb S).m (T.pr t) ((Q.pb S).A a)=0:=Sx.hF λp u=>by rw[o p u,bE]
      rw[this];rfl
     rw[o q hq,v];simp
theorem flip_flip(c:g.lim m=U D):Sx.JL (g.pb S) T m (jU g T m (-(T.sg m*D))):=by
 refine⟨λ_ _=>rfl,rfl,λ_ _ _ _=>rfl,λ_ _ _=>rfl,λj _=>rfl,λp _=>?_⟩;show T.rt p + -(T.sg m*D)*K4 (g.col m) p=T.rt p-T.sg m*(Sx.uv (g.pb S) m*K4 (g.col m) p)
 have:Sx.uv (g.pb S) m=D:=by delta Sx.uv;show(g.lim m).getD 0=D;rw[c];rfl
 rw[this,xU,L9];rfl
theorem Y3:∀{k:Nat},O∈stI g T m k↔O∈ud g m\/∃i,i<k/\O∈stK g T m i:=by
 intro l_;induction l_ with
 |zero =>
  constructor;exact .inl;rintro(h|⟨i,b,_⟩);exact h;exact lI
 |succ k ih_ =>
  rw[stI,ja,ih_];constructor;rintro((h|⟨i,b,h⟩)|h);exact .inl h;exact .inr ⟨i,cO,h⟩;exact .inr ⟨k,by simp[*],h⟩;rintro(h|⟨i,b,h⟩);exact .inl (.inl h);by_cases z:i=k;rw[z]at h;exact .inr h;exact .inl (.inr ⟨i,nG (qe k8) k8,h⟩)
theorem hI:O∈ud g m ↔ ∃v,g.lim m=U v/\O=⟨v,1,m,J,U'⟩:=by
 delta ud;cases h:g.lim m with
 |none=>simp
 |some v=>simp
theorem Y2:O∈stK g T m e↔(0<T.sg m*T.m6 (s9 g) m e/\O=⟨T.am (s9 g) e,T.sg m*T.m6 (s9 g) m e,T.B e,U e,U'⟩)\/(T.sg m*T.m6 (s9 g) m e<0/\∃v,g.lim (T.B e)=U v/\O=⟨v*T.size-T.am (s9 g) e,-(T.sg m*T.m6 (s9 g) m e),T.B e,U e,Uf⟩):=by
 delta stK;by_cases c:0<T.sg m*T.m6 (s9 g) m e;rw[j2 c];constructor;exact λh=>.inl ⟨c,by simpa using h⟩;rintro(⟨_,h⟩|⟨h,_⟩);simpa using h;lia
 . rw[j1 c];by_cases b:T.sg m*T.m6 (s9 g) m e<0
   . rw[j2 b];cases h:g.lim (T.B e)with
     |none =>
      constructor;intro z;simp at z;rintro(⟨z,_⟩|⟨_,v,z,_⟩);exact lI;exact nE z
     |some v =>
      constructor;intro z;exact .inr ⟨b,v,rfl,by simpa using z⟩;rintro(⟨z,_⟩|⟨_,d,z,Q⟩);exact lI;cases z;simpa using Q
   . rw[j1 b];constructor;intro z;simp at z
     . rintro(⟨z,_⟩|⟨z,_⟩)<;>exact lI
theorem yN(h:O∈stI g T m e):0<O.bot:=by
 rcases Y3.mp h with h|⟨i,_,h⟩
 obtain⟨v,_,rfl⟩:=hI.mp h;exact Int.one_pos
 . rcases Y2.mp h with ⟨b,rfl⟩|⟨b,v,_,rfl⟩
   exact b
   simp_all
theorem Xy(K:af g T)(f:m<g.n)(h:O∈stI g T m g.m):HK O:=by
 have d:∀x:Int,Bt 7000 x->Bt 7000 (T.sg m*x):=λx Q=>by
  rcases Sx.qz T m with ⟨_,e⟩|⟨_,e⟩<;>rw[e]
  exact Q.of_le o9;exact Q.of_le o9
 refine⟨?_,?_,yN h⟩
 . rcases Y3.mp h with h|⟨i,b,h⟩
   obtain⟨v,c,rfl⟩:=hI.mp h;exact(K.lb m v f c).mono f5
   . rcases Y2.mp h with ⟨_,rfl⟩|⟨_,v,c,rfl⟩
     exact(K.ab i b).mono f5;exact((((K.lb _ v (K.bn i b) c).mul K.sb)).sub ((K.ab i b).mono f5)).mono f5
 . rcases Y3.mp h with h|⟨i,b,h⟩
   obtain⟨v,c,rfl⟩:=hI.mp h;exact Bt.mono ⟨by show(1:Int).natAbs<2 ^ 1;decide⟩ f5
   . rcases Y2.mp h with ⟨_,rfl⟩|⟨_,v,c,rfl⟩
     exact(d _ (K.xE m i f b)).mono f5;exact(d _ (K.xE m i f b)).neg.mono f5
theorem UH(b:Small g S m)(K:Sx.Ok (g.pb S) T)(l:e<g.n)(hs:O∈stI g T e g.m)(p:∀r∈stI g T e g.m,le O r):Sx.sJ (g.pb S) T e O.top O.bot:=by
 have c:∀r∈stI g T e g.m,O.top*r.bot<=r.top*O.bot:=λr o=>by
  have:=p r o;unfold le at this;lia
 refine⟨?_,(yN hs),λv d=>?_,λk f Q=>?_,λk v f Q d=>?_⟩
 . rcases Y3.mp hs with h|⟨i,j,h⟩
   obtain⟨v,d,rfl⟩:=hI.mp h;exact(b.lb e v l d).2
   . rcases Y2.mp h with ⟨_,rfl⟩|⟨_,v,d,rfl⟩
     exact K.lo i j;have:=K.hi i v j d;show 0<=v*T.size-T.am (g.pb S) i;simp[*]
 . have:=c ⟨v,1,e,J,U'⟩ (Y3.mpr (.inl (hI.mpr ⟨v,d,rfl⟩)))
   simp_all
 exact c ⟨T.am (s9 g) k,T.sg e*T.m6 (s9 g) e k,T.B k,U k,U'⟩ (Y3.mpr (.inr ⟨k,f,Y2.mpr (.inl ⟨Q,rfl⟩)⟩));exact c ⟨v*T.size-T.am (s9 g) k,-(T.sg e*T.m6 (s9 g) e k),T.B k,U k,Uf⟩ (Y3.mpr (.inr ⟨k,f,Y2.mpr (.inr ⟨Q,v,d,rfl⟩)⟩))
noncomputable def nextT(Q:P7)(T:Sx.Tb)(a:Nat)(s:eh):Sx.Tb:=match s.pl with
 |none=>jU Q T a (-(T.sg a*(Q.lim a).getD 0))
 |some l=>if s.tp=Uf then jU Q (S9 Q T a l (if 0<T.m6 (s9 Q) a l then 1 else -1)) s.ch (-((S9 Q T a l (if 0<T.m6 (s9 Q) a l then 1 else -1)).sg s.ch*(Q.lim s.ch).getD 0))else S9 Q T a l (if 0<T.m6 (s9 Q) a l then 1 else -1)
theorem Wb(KT:af g T)(K:Sx.Ok (g.pb S) T)(d:m<g.n)(hs:O∈stI g T m g.m):kX [.ob J (t8 g T),.dat (.int (m:Int)),.dat (.list (aA g T m)),.dat (P4 O)]=U (.dat .none,[U (.ob J (t8 g (nextT g T m O))),J,J,J]):=by
 rcases Y3.mp hs with h|⟨l,e,h⟩
 . obtain⟨v,c,rfl⟩:=hI.mp h;rw[Rj KT d c rfl];delta nextT
   simp_all
 . have f:=λz=>(K.fu m d z).1
   rcases Y2.mp h with ⟨Q,rfl⟩|⟨Q,v,c,rfl⟩
   rw[GY KT (v:=0) d e rfl f rfl (KT.bn l e) (λz=>by exact nT z)];rfl;rw[GY KT d e rfl f rfl (KT.bn l e) (λ_=>c)];delta nextT;simp only[c,Option.getD_some]
theorem LJ{Q:P7}(b:Small Q S m)(K:Sx.Ok (Q.pb S) T){a:Nat}(E:Sx.N0 (Q.pb S) T a)(hs:O∈stI Q T a Q.m)(H:∀r∈stI Q T a Q.m,le O r):Sx.Step (Q.pb S) T a O.top (nextT Q T a O):=by
 have I:=UH b K E.an hs H;rcases Y3.mp hs with h|⟨l,q,h⟩
 obtain⟨v,i,rfl⟩:=hI.mp h;refine .flip i rfl I ?_;delta nextT;simp only[i];exact flip_flip i
 . have N:=K.C7.bn l q;have o:T.full (T.B l)=U':=by
    cases z:T.full (T.B l)with
    |false=>rfl
    |true=>exact absurd rfl ((K.fu _ N z).2 l q)
   have n:=(E.nb K.C7) l q;have:O.pl=U l/\O.ch=T.B l:=by rcases Y2.mp h with ⟨_,rfl⟩|⟨_,v,_,rfl⟩<;>exact⟨rfl,rfl⟩
   have:T.m6 (s9 Q) a l≠0:=λz=>by rcases Y2.mp h with ⟨f,_⟩|⟨f,_⟩<;>rw[z,Q9]at f<;>exact lI
   generalize F:(if 0<T.m6 (s9 Q) a l then 1 else -1)=g
   have C:g=1\/g = -1:=by rw[<-F];split<;>simp
   have D:0<g*T.m6 (Q.pb S) a l:=by
    show 0<g*T.m6 (s9 Q) a l
    rw[<-F];split<;>lia
   have x:O.top=0->∀k,k<(Q.pb S).m->(0<T.sg a*T.m6 (Q.pb S) a k/\T.am (Q.pb S) k=0)\/(T.sg a*T.m6 (Q.pb S) a k<0/\∃v,(Q.pb S).u (T.B k)=U v/\T.am (Q.pb S) k=v*T.size)->T.B l<=T.B k:=by
    intro R k M c;rcases c with ⟨f,G⟩|⟨f,v,i,G⟩
    . have:=H ⟨T.am (s9 Q) k,T.sg a*T.m6 (s9 Q) a k,T.B k,U k,U'⟩ (Y3.mpr (.inr ⟨k,M,Y2.mpr (.inl ⟨f,rfl⟩)⟩));unfold le at this;have:T.am (s9 Q) k=0:=G
      simp_all
    . have:=H ⟨v*T.size-T.am (s9 Q) k,-(T.sg a*T.m6 (s9 Q) a k),T.B k,U k,Uf⟩ (Y3.mpr (.inr ⟨k,M,Y2.mpr (.inr ⟨f,v,i,rfl⟩)⟩));unfold le at this;have:T.am (s9 Q) k=v*T.size:=G
      simp_all
   have d:∀j,(S9 Q T a l g).full j=if j=a then U' else T.full j:=λj=>by
    show(O5 Q T a).full j=_;delta O5;by_cases z:T.full a=Uf;rw[j2 z];show(if j=a then !T.full a else T.full j)=_;rw[z];rfl;rw[j1 z];by_cases y:j=a;rw[j2 y,y];simpa using z;rw[j1 y]
   have w:∀p,(S9 Q T a l g).rt p=T.rt p+(if T.full a=Uf then Sx.uv (Q.pb S) a*(Q.pb S).A a p else 0):=λp=>by
    show(O5 Q T a).rt p=_;delta O5;by_cases z:T.full a=Uf
    . rw[j2 z,j2 z];show T.rt p + -(T.sg a*(Q.lim a).getD 0)*K4 (Q.col a) p=T.rt p+(Q.lim a).getD 0*K4 (Q.col a) p
      have:T.sg a = -1:=by delta Sx.Tb.sg;rw[j2 z]
      congr 1
      congr 1
      simp[*]
    rw[j1 z,j1 z,sW]
   have t:=FI b K (a:=a) (g:=g) q;rcases Y2.mp h with ⟨f,rfl⟩|⟨f,v,i,rfl⟩
   . refine .move (tp:=U') q C D I ⟨λ_=>⟨rfl,rfl⟩,λz=>by exact nT z⟩ ?_ x;delta nextT;simp only[kT,if_false];rw[F];refine⟨t,λj P=>?_,λp f=>?_⟩;rw[d];by_cases z:j=a;rw[j2 z,j2 z];rw[j1 z,j1 z];by_cases y:j=T.B l;rw[j2 y,y,o];rw[j1 y];rw[w];simp
   . refine .move (tp:=Uf) q C D I ⟨λz=>(nF z),λ_=>⟨?_,rfl,?_⟩⟩ ?_ x
     . show v*T.size-_=Sx.uv (Q.pb S) (T.B l)*T.size-_
       have:Sx.uv (Q.pb S) (T.B l)=v:=by delta Sx.uv;show(Q.lim (T.B l)).getD 0=v;rw[i];rfl
       rw[this];rfl
     show Q.lim (T.B l)≠J;rw[i];simp
     delta nextT;simp only[Q6];rw[F];have L:(S9 Q T a l g).sg (T.B l)=1:=by delta Sx.Tb.sg;rw[d,j1 n,o];rfl
     refine⟨⟨t.b,t.size,t.il,t.ir,t.pr⟩,λj P=>?_,λp f=>?_⟩;show(if j=T.B l then !(S9 Q T a l g).full (T.B l)else(S9 Q T a l g).full j)=_;rw[d,d,j1 n,o];by_cases z:j=a;rw[j1 (by rw[z];exact λy=>n y.symm),j2 z,j2 z];rw[j1 z,j1 z];rfl;show(S9 Q T a l g).rt p + -((S9 Q T a l g).sg (T.B l)*(Q.lim (T.B l)).getD 0)*K4 (Q.col (T.B l)) p=_;have e:(if Uf=Uf then Sx.uv (Q.pb S) (T.B l)*(Q.pb S).A (T.B l) p else 0)=(Q.lim (T.B l)).getD 0*K4 (Q.col (T.B l)) p:=j2 rfl;rw[w,L,e,Z1,xU];rfl
end
structure Data where
 c:f7
 r:f7
 g:f7
 t:f7
 f:f7
section
variable{Q:P7}{b:Nat->Int}{c:Nat}{tp:Nat->Option Q2}
noncomputable abbrev cP(Z:Data)(Q:P7)(w:Option Addr)(T:Sx.Tb)(r:Option Nat)(x7 x8:Option PV):Ds:=[U (.dat Z.c),U (.dat Z.r),U (.dat Z.g),U (.dat Z.t),U (.dat Z.f),U (.ob w (t8 Q T)),U (.dat (optN r)),x7,x8]
abbrev HY(Q:P7)(tp:Nat->Option Q2):f7:=.list (rl Q.n λj=>T1 (tp j))
noncomputable abbrev IX(Q:P7)(tp:Nat->Option Q2)(T:Sx.Tb):f7:=.list (rl Q.n λj=>fr (aN Q T tp Q.m j))
noncomputable abbrev OL(Q:P7)(T:Sx.Tb)(a:Nat):f7:=.list (rl Q.n λj=>fr (cU Q T a Q.m j))
theorem He(h:∀d∈A,LF d=Uf):kG A=Uf:=by
 induction A with
 |nil=>rfl
 |cons x A b=>rw[kG,h x v8,b λd a=>h d (u7 _ a)];rfl
theorem Jg(q:Q2):LF (fr q)=Uf:=rfl
theorem CA{f:Nat->f7}(h:∀i,LF (f i)=Uf):kG (rl m f)=Uf:=He λd a=>by obtain⟨i,_,rfl⟩:=mem_map.mp a;exact h i
theorem Zp(s:eh):LF (P4 s)=Uf:=by delta P4;cases s.pl<;>rfl
theorem pE(h:G r=U (.own A))(a:kG A=Uf):W4 G r=U (.own A):=by
 delta W4
 simp_all
theorem zI(h:G r=sd a6)(a:LF a6=Uf):W4 G r=sd a6:=by
 delta W4
 simp_all
theorem a1k{f:FV}(h:G r=U l):f9 f (f6 G l7) r=f [l.d]:=by delta f9 f6 l7;rw[h];rfl
theorem call2{f:FV}(h:o r=U l)(a:G r=U P):f9 f (f6 o (f6 G l7)) r=f [l.d,P.d]:=by delta f9 f6 l7;rw[h];rw[a];rfl
theorem Hf(r:Option Nat):LF (optN r)=Uf:=by cases r<;>rfl
structure DH(Q:P7)(b:Nat->Int)(c:Nat)(tp:Nat->Option Q2):Prop where
 s:Small Q b c
 sc:∀j,j<Q.n->Bt 900 (Q.sc j)
 un:0<Q.un/\Bt 900 Q.un
 mu:∀t,t<3->0<Q.mu t/\Bt 900 (Q.mu t)
 tl:∀j,j<Q.n->(tp j=J↔Q.lim j=J)
theorem DH.mix(H:DH Q b c tp){T:Sx.Tb}(K:Sx.Ok (Q.pb b) T):bQ [A2 Q T,HY Q tp]=U (.own (rl Q.n λj=>fr (aN Q T tp Q.m j))) :=
 Zg (H.s.tab K) (λj a=>(H.sc j a).mono f5) H.un.2 (H.s.tab K).sb H.un.1 λj a z y=>(K.fu j a z).1 ((H.tl j a).mp y)
theorem Ia(H:DH Q b c tp){T:Sx.Tb}(K:Sx.Ok (Q.pb b) T)(E:Sx.N0 (Q.pb b) T m)(Z:Data)(A:Z.t=HY Q tp)(w:Option Addr)(x7 x8:Option PV):
  (stI Q T m Q.m=[]/\ay (cP Z Q w T (U m) x7 x8)=U (.ret (.dat (.tuple [.str "endless",IX Q tp T,OL Q T m])))) \/
  ∃s T' r x L,ay (cP Z Q w T (U m) x7 x8)=U (.next (cP Z Q w T' r x L))/\Sx.Step (Q.pb b) T m s T'/\(r=J->∀j,j<Q.n->¬Sx.N0 (Q.pb b) T' j)/\∀a',r=U a'->Sx.N0 (Q.pb b) T' a'/\(s=0->∀j,j<a'->¬Sx.N0 (Q.pb b) T' j):=by
 have KT:=H.s.tab K;have h:=E.an;generalize l:(nc (aA Q T m))=PC;have S:k9 7 (W4 (O6 "Table" "paces" U7 (P6 5) (f6 (j4 6) l7))) (cP Z Q w T (U m) x7 x8)=U (.next (cP Z Q w T (U m) (sd PC) x8)):=by
  have e:O6 "Table" "paces" U7 (P6 5) (f6 (j4 6) l7) (cP Z Q w T (U m) x7 x8)=U (.own (aA Q T m)):=by exact QK KT h
  rw[dg,pE e (CC _ _),<-l];rfl
 have C:k9 8 (f9 aS (f6 (W4 (f9 ij (f6 (P6 5) (f6 (j4 6) (f6 (j4 7) l7))))) l7)) (cP Z Q w T (U m) (sd PC) x8)=U (.next (cP Z Q w T (U m) (sd PC) (sd (fQ ((stI Q T m Q.m).foldl fy J))))):=by
  have e:f9 ij (f6 (P6 5) (f6 (j4 6) (f6 (j4 7) l7))) (cP Z Q w T (U m) (sd PC) x8)=U (.own ((stI Q T m Q.m).map P4)):=by rw[<-l];exact Pg KT h
  have p:f9 aS (f6 (W4 (f9 ij (f6 (P6 5) (f6 (j4 6) (f6 (j4 7) l7))))) l7) (cP Z Q w T (U m) (sd PC) x8)=sd (fQ ((stI Q T m Q.m).foldl fy J)):=by
   rw[a1k (pE e (He λd G=>by obtain⟨s,_,rfl⟩:=mem_map.mp G;exact Zp s))];exact RJ λs f=>Xy KT h f
  rw[dg,p];rfl
 have u:=Mv (stI Q T m Q.m) J (λs f=>yN f) (λr z=>by exact nE z)
 delta ay;rw[q9,S,o5,q9,C,o5,q9];cases ho:(stI Q T m Q.m).foldl fy J with
 |none =>
  refine .inl ⟨(u.1 ho).2,?_⟩;have M:W4 (f9 bQ (f6 (P6 5) (f6 (j4 3) l7))) (cP Z Q w T (U m) (sd PC) (sd (fQ J)))=U (.own (rl Q.n λj=>fr (aN Q T tp Q.m j))):=by
   refine pE ?_ (CA λi=>Jg _);show bQ [A2 Q T,Z.t]=_;rw[A];exact H.mix K
  have p:W4 (f9 jR (f6 (P6 5) (f6 (j4 6) (f6 (j4 7) l7)))) (cP Z Q w T (U m) (sd PC) (sd (fQ J)))=U (.own (rl Q.n λj=>fr (cU Q T m Q.m j))):=by
   refine pE ?_ (CA λi=>Jg _);rw[<-l];exact Xe KT h λj g=>(H.sc j g).mono f5
  delta M0;simp only[A1,n9,f6,M,p];rfl
 |some s =>
  obtain⟨m1,_,B⟩:=u.2 s ho;have f:s∈stI Q T m Q.m:=by
   rcases m1 with z|z
   exact nE z;exact z
  have q:=LJ H.s K E f B;have P:o8 (j8 mI (j4 8) (fC .none)) (cP Z Q w T (U m) (sd PC) (sd (fQ (U s))))=U U':=rfl;have N:M8 (bz kX (bW 5 (B8 (j4 6) (B8 (j4 7) (B8 (j4 8) aL))))) (cP Z Q w T (U m) (sd PC) (sd (fQ (U s))))=U (.next (cP Z Q w (nextT Q T m s) (U m) (sd PC) (sd (fQ (U s))))):=by
   delta M8;rw[vY (xs:=[.int m,PC,P4 s]) rfl rfl (by rw[<-l];exact Wb KT K h f)];rfl
  obtain⟨r,D,F,V⟩:=Aw (H.s.tab (q.ok K E)) (decide (s.top=0));refine .inr ⟨s.top,nextT Q T m s,r,sd PC,sd (fQ (U s)),?_,q,λy j g z=>?_,λa' o=>?_⟩
  . delta M0;rw[P];simp only[n8,kT,if_false,E4,o5,q9,N];rw[dg,zI ?_ (Hf r)];rfl
    . have:(j8 Z7 (j8 u9 (j4 8) (fC (.int 0))) (fC (.int 0))) (cP Z Q w (nextT Q T m s) (U m) (sd PC) (sd (fQ (U s))))=sd (.bool (decide (s.top=0))):=by rfl
      exact D
  have:=(gn_enter g b).mpr z;rw[F y j g]at this;exact nT this;obtain⟨O,I,R⟩:=V a' o;refine⟨(gn_enter O b).mp I,λv j g z=>?_⟩;have:=(gn_enter (kN k8 k8) b).mpr z;rw[R (by simpa using v) j g]at this;exact nT this
structure WS where
 T:Sx.Tb
 a:Nat
 cf:Bool
 x7:Option PV
 x8:Option PV
structure WS.Ok(Q:P7)(b:Nat->Int)(s:WS):Prop where
 ok:Sx.Ok (Q.pb b) s.T
 en:Sx.N0 (Q.pb b) s.T s.a
 cr:s.cf=Uf->∀j,j<s.a->¬Sx.N0 (Q.pb b) s.T j
inductive Ends(Z:Data)(Q:P7)(b:Nat->Int)(tp:Nat->Option Q2)(w:Option Addr):Out->Prop
 |best {T x7 x8}:Sx.Ok (Q.pb b) T->(∀j,j<Q.n->¬Sx.N0 (Q.pb b) T j)->Ends Z Q b tp w (.next (cP Z Q w T J x7 x8))
 |endless {T:Sx.Tb}{a:Nat}:Sx.Ok (Q.pb b) T->Sx.N0 (Q.pb b) T a->stI Q T a Q.m=[]->Ends Z Q b tp w (.ret (.dat (.tuple [.str "endless",IX Q tp T,OL Q T a])))
theorem wg{Fc:DB}{G:DO}{ds2:Ds}(a:Fc r=U Uf)(b:G r=U (.next ds2)):J7 Fc G (m+1) r=J7 Fc G m ds2:=by
 rw[J7,a]
 simp_all
theorem JS(H:DH Q b c tp)(Z:Data)(B:Z.t=HY Q tp)(w:Option Addr)(g:WS)(A:g.Ok Q b):∃m o,J7 bJ ay m (cP Z Q w g.T (U g.a) g.x7 g.x8)=U o/\Ends Z Q b tp w o:=by
 have l:∀T a (x7 x8),bJ (cP Z Q w T (U a) x7 x8)=U Uf:=λ_ _ _ _=>rfl;have I:∀T (x7 x8),bJ (cP Z Q w T J x7 x8)=U U':=λ_ _ _=>rfl
 let j:WS->Prop:=λs=>∃m o,J7 bJ ay m (cP Z Q w s.T (U s.a) s.x7 s.x8)=U o/\Ends Z Q b tp w o
 refine tS λK=>?_
 have u:∀s:{s:WS // s.Ok Q b/\¬j s},∃x:{s:WS // s.Ok Q b/\¬j s},∃top,Sx.Step (Q.pb b) s.1.T s.1.a top x.1.T/\(x.1.cf=Uf↔top=0):=by
  rintro⟨s,f,k⟩;rcases Ia H f.ok f.en Z B w s.x7 s.x8 with ⟨h,N⟩|⟨top,F,r,n,v,h,q,E,O⟩
  refine absurd ⟨1,_,?_,.endless f.ok f.en h⟩ k;rw[J7,l];simp only[n8,Q6,N]
  . have p:=q.ok f.ok f.en;cases r with
    |none =>
     refine absurd ⟨2,_,?_,.best (x7:=n) (x8:=v) p (E rfl)⟩ k;rw[wg (l _ _ _ _) h,J7,I];rfl
    |some y =>
     obtain⟨M,G⟩:=O y rfl;refine⟨⟨⟨F,y,decide (top=0),n,v⟩,⟨p,M,λz=>G (nA z)⟩,λz=>k ?_⟩,top,q,by simp⟩;obtain⟨m,o,L,D⟩:=z;exact⟨m+1,o,by rw[wg (l _ _ _ _) h];exact L,D⟩
 let q0:{s:WS // s.Ok Q b/\¬j s}:=⟨g,A,K⟩
 let d:Nat->{s:WS // s.Ok Q b/\¬j s}:=λi=>Nat.rec q0 (λ_ s=>(u s).choose) i
 have e:=λi=>(u (d i)).choose_spec;exact Sx.Rb (C:=⟨λi=>(d i).1.T,λi=>(d i).1.a,λi=>(e i).choose,λi=>(d i).1.cf⟩) ⟨λi=>(d i).2.1.ok,λi=>(d i).2.1.en,λi=>(d i).2.1.cr,λi=>(e i).choose_spec.1,λi=>(e i).choose_spec.2⟩
end
open Sx (sN pN sm det B6 dot)
structure je(I:B3)(c:Nat):Prop where
 fi:∀k p,k<I.m->p<I.m->I.row p (I.fs k)=if p=k then(1,1)else q0
 inj:∀k l,k<I.m->l<I.m->I.fs k=I.fs l->k=l
 r0:∀p,p<I.m->0<=(I.rg p).1
 t0:∀j q,j<I.n->I.tp j=U q->0<=q.1
 ft:∀k q,k<I.m->I.tp (I.fs k)=U q->(I.rg k).1*q.2<=q.1*(I.rg k).2
 cn:∀j,j<I.n->sN I.m (λp=>(wh (I.row p j) (I.sc j)).natAbs)<=2 ^ c
 c1:c*I.m<=2000
 c2:c<=1000
section
variable{I:B3}
theorem Pq{f g:Nat->Nat}(h:∀i,i<m->f i=g i):sN m f=sN m g:=Nat.le_antisymm (Sx.Bk λi a=>nk (h i a)) (Sx.Bk λi a=>nk (h i a).symm)
theorem Dr(I:B3)(j:Nat)(a:m<I.m):K4 (I.E9.col j) m=wh (I.row m j) (I.sc j):=by
 show K4 (I.bc j I.m) m=_;rw[MJ,j2 a]
theorem Cz(H:A4 I D E M){v:Int}(b:m<I.n)(h:I.lim m=U v):∃q,I.tp m=U q/\0<q.2/\v*(q.2*I.sc m)=q.1*I.un:=by
 obtain⟨e,k,l,s⟩:=H.sc b;obtain⟨r,c,rfl⟩:=Option.map_eq_some_iff.mp h;have g:=H.un.2.2.2.2 m r b c;obtain⟨q,hq,rfl⟩:=Option.map_eq_some_iff.mp c;obtain⟨d,o⟩:=H.tp m q b hq;obtain⟨i,p,f,F⟩:=W0 (F0 d.pos e);refine⟨q,hq,d.pos,?_⟩;have a:wh (J9 q (1,I.sc m)) I.un*(w9 (q.1*1) (q.2*I.sc m)).2=(w9 (q.1*1) (q.2*I.sc m)).1*I.un:=(wj (H.hq b c).1.pos g);generalize wh (J9 q (1,I.sc m)) I.un=v at a ⊢;generalize (w9 (q.1*1) (q.2*I.sc m)).1=x at *;generalize (w9 (q.1*1) (q.2*I.sc m)).2=y at *;have:y*(v*(q.2*I.sc m))=y*(q.1*I.un):=by
  calc y*(v*(q.2*I.sc m))=(v*y)*(q.2*I.sc m):=by grind
   _=(x*I.un)*(q.2*I.sc m):=by rw[a]
   _=(x*(q.2*I.sc m))*I.un:=by grind
   _=(q.1*1*y)*I.un:=by rw[f]
   _=y*(q.1*I.un):=by grind
 exact yE E6 this
theorem mH:I.tp m=J↔I.lim m=J:=by delta B3.lim B3.hq;simp
theorem wt0(I:B3)(t j:Nat)(h:3<=t):I.wt t j=0:=by
 have:N7 (I.cost j) t=q0:=by
  match t,h with
  |t+3,_=>rfl
 delta B3.wt wh B3.wq;rw[this];have:(J9 q0 (I.sc j,1)).1=0:=by delta J9 w9;rw[bE,Int.zero_fdiv]
 simp_all
theorem B3.side(H:A4 I D E M)(G:je I m):DH I.E9 I.b m I.tp:=by
 refine⟨⟨H.m1,H.n1,G.c1,G.c2,λj a=>?_,λj a=>p5 (Si I j I.m) H.m1,λj a e k=>?_,λt j d a=>H.wt d a,λt j d=>wt0 I t j d,λj v a g=>⟨H.lim a g,?_⟩,λp f=>(H.b f).mono f5⟩,λj a=>(H.sc a).2.2.1,⟨H.un.1,H.un.2.2.1⟩,λt d=>⟨(H.mu d).1,(H.mu d).2.2.1⟩,λj _=>mH⟩;rw[Pq λp f=>by rw[Dr I j f]];exact G.cn j a;obtain⟨h,i⟩:=Sg I j I.m e k;refine⟨h,?_⟩;rw[i];exact((H.row e.1 j h a).1.bt.mul (H.sc a).2.2.1.fdiv).mono f5
 . obtain⟨q,hq,q2,e⟩:=Cz H a g;have:=gz (G.t0 j q a hq) (O3 H.un.1);rcases dJ v 0 with z|z
   have:=yC z (F0 q2 (H.sc a).1);lia;exact z
theorem BO(H:A4 I D E M)(G:je I m)(g:e<I.m):I.sc (I.fs e)=1:=by
 obtain⟨F,i,h,d⟩:=By (D:=1) ((A3 I.m).map λp=>(I.row p (I.fs e)).2) 1 f5 ⟨1,by rfl⟩ λx b=>by
  obtain⟨p,f,rfl⟩:=mem_map.mp b;rw[G.fi e p g (mem_range.mp f)];split;exact⟨by decide,⟨1,rfl⟩⟩;simp
 have a:I.sc (I.fs e)∣1:=d;have:=fz f5 a;have:0<I.sc (I.fs e):=F;exact Int.le_antisymm k8 k8
theorem xx(H:A4 I D E M)(G:je I m)(b:e<I.m)(a:N<I.m):K4 (I.E9.col (I.fs e)) N=if e=N then 1 else 0:=by
 rw[Dr I _ a,BO H G b,G.fi e N b a];by_cases z:N=e;rw[j2 z,j2 z.symm];rfl;rw[j1 z,j1 λy=>z y.symm];rfl
theorem Hy(x:Nat->Int)(b:e<m):dot m (λq=>if e=q then 1 else 0) x=x e:=by
 delta Sx.dot;rw[Sx.R6 b λi _ a=>by
  show(if e=i then 1 else 0)*x i=0
  rw[j1 (λz=>a z.symm),bE]]
 simp
theorem Mw(H:A4 I D E M)(G:je I m):Sx.N3 (I.E9.pb I.b) I.tab:=by
 have l:∀k r,k<I.m->r<I.m->I.tab.M (I.E9.pb I.b) k r=if k=r then 1 else 0:=λk r h j=>xx H G h j;refine⟨H.fs,G.inj,⟨1,.inl rfl,?_,λr j x=>?_⟩,by show 0<1;decide,λp q e hq=>?_,λt q hq=>?_⟩;show 1*1=det I.m (I.tab.M (I.E9.pb I.b));rw[Sx.U5 l,Sx.HC];rfl
 . show 1*dot I.m (λq=>if r=q then 1 else 0) x=det I.m (B6 (I.tab.M (I.E9.pb I.b)) r x)
   have a:r<I.m:=j;rw[Hy x a,Z1];have n:det I.m (B6 (I.tab.M (I.E9.pb I.b)) r x)=det I.m (B6 (λm r=>if m=r then 1 else 0) r λp=>sm I.m λi=>x i*Sx.unit i p):=Sx.U5 λk p h e=>by
    by_cases z:k=r;rw[z,Sx.aJ,Sx.aJ,Sx.JT x e];rw[Sx.X5 _ _ _ z,Sx.X5 _ _ _ z,l k p h e]
   rw[n,Sx.HB _ a x Sx.unit I.m,Sx.R6 a λi f g=>?_]
   . have:det I.m (B6 (λm r=>if m=r then 1 else 0) r (Sx.unit r))=1:=by
       refine Eq.trans ?_ (Sx.HC I.m);exact Sx.U5 λk p h e=>by
        by_cases z:k=r;rw[z,Sx.aJ];delta Sx.unit;by_cases y:p=r;rw[j2 y,j2 y.symm];rw[j1 y,j1 λw=>y w.symm];rw[Sx.X5 _ _ _ z]
     rw[this,ni]
   . have:det I.m (B6 (λm r=>if m=r then 1 else 0) r (Sx.unit i))=0:=Sx.qL f a g λp e=>by
       rw[Sx.X5 _ _ _ g,Sx.aJ];delta Sx.unit;by_cases y:i=p;rw[j2 y,j2 y.symm];rw[j1 y,j1 λw=>y w.symm]
     rw[this,Q9]
 show sm I.m (λk=>(if k=q then 1 else 0)*K4 (I.E9.col (I.fs k)) p)=if p=q then 1 else 0;have d:q<I.m:=hq;rw[Sx.R6 d λi _ f=>by rw[j1 f,bE],j2 rfl,Z1,xx H G d e];by_cases y:p=q;rw[j2 y,j2 y.symm];rw[j1 y,j1 λw=>y w.symm];show I.wt t (I.fs q)=sm I.m λk=>I.wt t (I.fs k)*(if k=q then 1 else 0);have d:q<I.m:=hq;rw[Sx.R6 d λi _ f=>by simp_all,j2 rfl,ni]
theorem RH(H:A4 I D E M)(G:je I m):Sx.Ok (I.E9.pb I.b) I.tab:=by
 have g:∀k,k<I.m->I.tab.am (I.E9.pb I.b) k=I.b k:=λk a=>Hy I.b a;have i:∀k,k<I.m->I.b k*(I.rg k).2=(I.rg k).1*I.un:=λk a=>wj (H.rg k a).1.pos (H.un.2.2.2.1 k a);refine⟨Mw H G,λp o=>?_,λj n z=>(nT z),λk a=>?_,λk v a l=>?_⟩
 . have:Sx.fsum (I.E9.pb I.b) I.tab (λj=>(I.E9.pb I.b).A j p)=0:=Sx.hF λj _=>by rfl
   rw[this];show I.b p=I.b p-0;simp[*]
 . rw[g k a];have h:=i k a;have:=gz (G.r0 k a) (O3 H.un.1);have f:=(H.rg k a).1.pos;rcases dJ (I.b k) 0 with z|z
   have:=yC z f;lia;exact z
 . rw[g k a];show I.b k<=v*1
   rw[ni];have d:=a;obtain⟨q,hq,q2,e⟩:=Cz H (H.fs k d) l;rw[BO H G d,ni]at e;have h:=i k d;have f:=(H.rg k d).1.pos;have:=lM (G.ft k q d hq) (O3 H.un.1);generalize (I.rg k).1=x at *;generalize (I.rg k).2=y at *;have:(q.2*y)*I.b k<=(q.2*y)*v:=by
    have:(q.2*y)*I.b k=x*q.2*I.un:=by
     calc (q.2*y)*I.b k=q.2*(I.b k*y):=by grind
      _=q.2*(x*I.un):=by rw[h]
      _=x*q.2*I.un:=by grind
    lia
   exact yD this (F0 q2 f)
inductive Res(I:B3):f7->Prop
 |best {T}:Sx.Ok (I.E9.pb I.b) T->(∀j,j<I.n->¬Sx.N0 (I.E9.pb I.b) T j)->Res I (.tuple [.str "best",IX I.E9 I.tp T,.list (rl I.m λp=>F5 (Z9 I.E9 T p))])
 |endless {T:Sx.Tb}{a:Nat}:Sx.Ok (I.E9.pb I.b) T->Sx.N0 (I.E9.pb I.b) T a->stI I.E9 T a I.m=[]->Res I (.tuple [.str "endless",IX I.E9 I.tp T,OL I.E9 T a])
theorem Zo(x:Tr):LF (F5 x)=Uf:=rfl
theorem Kr(H:A4 I D E M)(G:je I m):∃d,nN [I.C2,I.W7,I.A8,I.G6,I.Q3]=sd d/\Res I d:=by
 have S:=B3.side H G;have l:=RH H G;have y:O8 5 (uG "Table" aF (f6 (j4 0) (f6 (j4 1) (f6 (j4 2) (f6 (j4 3) (f6 (j4 4) l7)))))) [sd I.C2,sd I.W7,sd I.A8,sd I.G6,sd I.Q3,J,J,J,J]=U (.next [sd I.C2,sd I.W7,sd I.A8,sd I.G6,sd I.Q3,U (.ob J (t8 I.E9 I.tab)),J,J,J]):=by
  have e:uG "Table" aF (f6 (j4 0) (f6 (j4 1) (f6 (j4 2) (f6 (j4 3) (f6 (j4 4) l7))))) [sd I.C2,sd I.W7,sd I.A8,sd I.G6,sd I.Q3,J,J,J,J]=U (.ob J (t8 I.E9 I.tab)):=by
   delta uG;rw[show f6 (j4 0) (f6 (j4 1) (f6 (j4 2) (f6 (j4 3) (f6 (j4 4) l7)))) [sd I.C2,sd I.W7,sd I.A8,sd I.G6,sd I.Q3,J,J,J,J]=U [I.C2,I.W7,I.A8,I.G6,I.Q3]from rfl,n8];rw[show([I.C2,I.W7,I.A8,I.G6,I.Q3]).map PV.dat=[.dat I.C2,.dat I.W7,.dat I.A8,.dat I.G6,.dat I.Q3]from rfl,Wr H];rfl
  rw[uw,e];rfl
 generalize k:(⟨I.C2,I.W7,I.A8,I.G6,I.Q3⟩:Data)=Z;obtain⟨r,q,K,N⟩:=Aw (S.s.tab l) U';have A:k9 6 (W4 (f9 gU (f6 (P6 5) (f6 (fC (.bool U')) l7)))) [sd I.C2,sd I.W7,sd I.A8,sd I.G6,sd I.Q3,U (.ob J (t8 I.E9 I.tab)),J,J,J]=U (.next (cP Z I.E9 J I.tab r J J)):=by
  rw[dg,zI ?_ (Hf r),<-k];rfl;rw[call2 rfl rfl];exact q
 have wh:∃c o,J7 bJ ay c (cP Z I.E9 J I.tab r J J)=U o/\Ends Z I.E9 I.b I.tp J o:=by
  cases r with
  |none =>
   refine⟨1,_,?_,.best (x7:=J) (x8:=J) l λj t z=>?_⟩;rfl;have:=(gn_enter t I.b).mpr z;rw[K rfl j t]at this;exact nT this
  |some a =>
   obtain⟨F,u,_⟩:=N a rfl;exact JS S Z (by rw[<-k];rfl) J ⟨I.tab,a,U',J,J⟩ ⟨l,(gn_enter F I.b).mp u,λz=>by exact nT z⟩
 obtain⟨c,o,w,L⟩:=wh;delta nN E1;rw[show(N8 [I.C2,I.W7,I.A8,I.G6,I.Q3]++w5 (9-5) J)=[sd I.C2,sd I.W7,sd I.A8,sd I.G6,sd I.Q3,J,J,J,J]from rfl]
 rw[q9,y,o5,q9,A,o5,q9,(Jp w)];cases L with
 |endless f k2 v=>exact⟨_,rfl,.endless f k2 v⟩
 | @best T g h f k2 =>
  refine⟨_,?_,.best f k2⟩;have C:W4 (f9 bQ (f6 (P6 5) (f6 (j4 3) l7))) (cP Z I.E9 J T J g h)=U (.own (rl I.n λj=>fr (aN I.E9 T I.tp I.m j))):=by
   refine pE ?_ (CA λi=>Jg _);rw[call2 rfl (by rw[<-k];rfl)];exact S.mix f
  have q:p9 (x9 C9 (f6 (f9 A9 (f6 (j4 1) l7)) l7)) p6 q5 qZ (cP Z I.E9 J T J g h)=U (.own (rl I.m λp=>F5 (Z9 I.E9 T p))):=by
   have B:x9 C9 (f6 (f9 A9 (f6 (j4 1) l7)) l7) (cP Z I.E9 J T J g h)=U (rl I.m λi=>.int i):=by rw[<-k];walk_at "r";rw[A7,O7 (by have:=H.m1;lia),ck,wG]
   delta p9;rw[B,n8,j2 (aO H.m1),K3 λp x=>⟨_,.dat (F5 (Z9 I.E9 T p)),rfl,by refine zI ?_ (Zo _);exact Qr (S.s.tab f) x S.mu,rfl⟩];rfl
  rw[o5];simp only[A1,n9,f6,C,q];rfl
end
def a1x(k:Nat)(l:List (Option Q2)):Prop:=∀t,U t∈l->t2 k t
abbrev jr:Tr:=⟨q0,q0,q0⟩
theorem Xn(h:1<=m):gS m jr:=⟨pI h,pI h,pI h⟩
def a2E(k:Nat)(l:List Tr):Prop:=∀x∈l,gS k x
def smI(costs:List Tr)(mix:List Q2):Nat->Tr
 | 0=>jr
 |i+1=>Bp (smI costs mix i) (costs.getD i jr) (mix.getD i q0)
noncomputable def ze(x:Tr)(q:Q2):Tr:=⟨J9 x.a q,J9 x.b q,J9 x.c q⟩
noncomputable def DF(x y:Tr):Tr:=⟨bu x.a y.a,bu x.b y.b,bu x.c y.c⟩
theorem Wd{x:Tr}(d:gS m x)(hq:t2 e u):gS (m+e) (ze x u):=⟨iu d.a hq,iu d.b hq,iu d.c hq⟩
theorem WL{x y:Tr}(d:gS m x)(n:gS e y):gS (m+e+1) (DF x y):=⟨rR d.a n.a,rR d.b n.b,rR d.c n.c⟩
theorem MA{a c d:Int}(j:0<D)(hd:0<d):((a:Rat)/(D:Rat)<(c:Rat)/(d:Rat))↔a*d<c*D:=by
 have e:(0:Rat)<D:=by exact_mod_cast j
 have f:(0:Rat)<d:=by exact_mod_cast hd
 have i:(a:Rat)/D*(D*d)=a*d:=by grind
 have g:(c:Rat)/d*(D*d)=c*D:=by grind
 constructor
 . intro h;have:=Ox h (dk e f);rw[i,g]at this
   exact_mod_cast this
 . intro h;have k:(a:Rat)*d<c*D:=by exact_mod_cast h
   refine Rat.lt_of_mul_lt_mul_right ?_ (kM (dk e f));rw[i,g];exact k
theorem rJ{p q:Q2}(a:0<p.2)(hq:0<q.2):mj p q=decide (val p<val q):=by delta mj val;rw[decide_eq_decide];exact(MA a hq).symm
theorem aI:val (0,1)=0:=by rw[val_one];rfl
theorem Wc(b:0<u.2):u.1<0↔val u<0:=by
 have:=MA (a:=u.1) (c:=0) (d:=1) b f5;have e:((0:Int):Rat)/((1:Int))=0:=by rw[show((0:Rat))=0 from rfl];grind
 rw[e]at this;delta val
 simp_all
theorem rY(a:0<u.2):0<=u.1↔0<=val u:=by
 have:=Wc a;constructor
 . exact λh=>Rat.not_lt.mp λz=>by lia
 exact λh=>Int.not_lt.mp λz=>Rat.not_lt.mpr h (this.mp z)
def RU(row mix:List Q2):Nat->Rat
 | 0=>0
 |i+1=>RU row mix i+val (row.getD i q0)*val (mix.getD i q0)
noncomputable def XF(costs:List Tr)(rows:List (List Q2))(prices:List Tr)(j:Nat):Nat->Tr
 | 0=>costs.getD j jr
 |i+1=>Bp (XF costs rows prices j i) (prices.getD i jr) (a2q ((rows.getD i []).getD j q0))
abbrev rtL(costs:List Tr)(rows:List (List Q2))(prices:List Tr):List Tr:=(A3 costs.length).map λj=>XF costs rows prices j rows.length
abbrev m1:Q2:=(-1,1)
structure a2C(n m kr kp B:Nat)(costs:List Tr)(rows:List (List Q2))(prices:List Tr):Prop where
 nl:n<=1000
 ml:m<=1000
 cl:costs.length=n
 pl:prices.length=m
 rl:rows.length=m
 rw:∀r∈rows,r.length=n/\a0q kr r
 pf:a2E kp prices
 bf:∀j,j<n->∀i,i<=m->gS B (XF costs rows prices j i)
 bd:B+(kp+1+kr)<=7998
noncomputable def ZQ(rests:List Tr)(tp:List (Option Q2))(init:Tr):Nat->Tr
 | 0=>init
 |j+1=>if a0a (rests.getD j jr) jr=Uf then Bp (ZQ rests tp init j) (rests.getD j jr) ((tp.getD j J).getD q0)else ZQ rests tp init j
structure a3c(n m kr kp kg kt B C:Nat)(costs:List Tr)(rows:List (List Q2))(rights:List Q2)(tp:List (Option Q2))(prices:List Tr):Prop where
 r:a2C n m kr kp B costs rows prices
 gl:rights.length=m
 tl:tp.length=n
 gf:a0q kg rights
 tf:a1x kt tp
 cf:∀j,j<=n->gS C (ZQ (rtL costs rows prices) tp (smI prices rights rights.length) j)
 b1:1+(kp+kg+1)*m+(kp+kg)<=7998
 b2:C+(B+kt)<=7998
def l9(f:Nat->Rat):Nat->Rat
 | 0=>0
 |n+1=>l9 f n+f n
theorem t5{g:Nat->Rat}:∀n,(∀i,i<n->C i=g i)->l9 C n=l9 g n:=by
 intro l_;induction l_ with
 |zero =>
  intro _;exact rfl
 |succ n ih_ =>
  intro h;show l9 C n+C n=l9 g n+g n;rw[ih_ λi a=>h i cO,h n o9]
theorem jw(f g:Nat->Rat):∀n,l9 (λi=>f i-g i) n=l9 f n-l9 g n:=by
 intro l_;induction l_ with
 |zero =>
  show 0=0-0;grind
 |succ n ih_ =>
  show l9 (λi=>f i-g i) n+(f n-g n)=(l9 f n+f n)-(l9 g n+g n);rw[ih_];grind
theorem cX(f:Nat->Rat)(c:Rat):∀n,l9 f n*c=l9 (λi=>f i*c) n:=by
 intro l_;induction l_ with
 |zero =>
  show 0*c=0;grind
 |succ n ih_ =>
  show(l9 f n+f n)*c=l9 (λi=>f i*c) n+f n*c;rw[<-ih_];grind
theorem bM(f g:Nat->Rat):∀n,l9 (λi=>f i+g i) n=l9 f n+l9 g n:=by
 intro l_;induction l_ with
 |zero =>
  show 0=0+0;grind
 |succ n ih_ =>
  show l9 (λi=>f i+g i) n+(f n+g n)=(l9 f n+f n)+(l9 g n+g n);rw[ih_];grind
theorem kq:∀n,l9 (λ_=>0) n=0:=by
 intro l_;induction l_ with
 |zero =>
  exact rfl
 |succ n ih_ =>
  show l9 (λ_=>0) n+0=0;rw[ih_];grind
theorem rK(f:Nat->Nat->Rat)(m:Nat):∀n,l9 (λj=>l9 (λi=>f i j) m) n=l9 (λi=>l9 (λj=>f i j) n) m:=by
 intro l_;induction l_ with
 |zero =>
  show 0=l9 (λi=>0) m;rw[kq]
 |succ n ih_ =>
  show l9 (λj=>l9 (λi=>f i j) m) n+l9 (λi=>f i n) m=l9 (λi=>l9 (λj=>f i j) n+f i n) m;rw[ih_,bM]
structure Part(π:Tr->Q2):Prop where
 more:∀x y q,π (Bp x y q)=bu (π x) (J9 (π y) q)
 ok:∀k x,gS k x->t2 k (π x)
 Zb:π jr=q0
def NN(a b c:Rat):Prop:=0<a\/(a=0/\(0<b\/(b=0/\0<=c)))
theorem NN.add{b c x y:Rat}(h:NN v b c)(k:NN x y z):NN (v+x) (b+y) (c+z):=by unfold NN at *;grind
theorem NN.zero:NN 0 0 0:=.inr ⟨rfl,.inr ⟨rfl,xT⟩⟩
theorem NN.mul{b k:Rat}(h:NN z b v)(d:0<=k):NN (z*k) (b*k) (v*k):=by
 by_cases a:k=0
 . subst a;have e:∀x:Rat,x*0=0:=λx=>by grind
   rw[e,e,e];exact NN.zero
 . have p:0<k:=by grind
   rcases h with h|⟨rfl,h|⟨rfl,h⟩⟩
   exact .inl (dk h p);exact .inr ⟨by grind,.inl (dk h p)⟩;exact .inr ⟨by grind,.inr ⟨by grind,gy h d⟩⟩
theorem NN.sum{fa b a:Nat->Rat}:∀n,(∀j,j<n->NN (fa j) (b j) (a j))->NN (l9 fa n) (l9 b n) (l9 a n)
 | 0,_=>NN.zero
 |n+1,h=>(NN.sum n λj c=>h j cO).add (h n o9)
theorem zW(row mix:List Q2):∀n,RU row mix n=l9 (λj=>val (row.getD j q0)*val (mix.getD j q0)) n:=by
 intro l_;induction l_ with
 |zero =>
  exact rfl
 |succ n ih_ =>
  show RU row mix n+_=l9 _ n+_;rw[ih_]
open Sx (sm)
theorem BD(h:0<u.2)(hd:u.2∣D):((wh u D:Int):Rat)=val u*(D:Rat):=by
 have:((wh u D):Rat)*u.2=u.1*D:=by exact_mod_cast (wj h hd)
 have:=fq (show u.2≠0 by exact E6);delta val;grind
theorem md(f:Nat->Int):∀n,((sm n f:Int):Rat)=l9 (λi=>((f i:Int):Rat)) n:=by
 intro l_;induction l_ with
 |zero =>
  exact rfl
 |succ n ih_ =>
  show((sm n f+f n:Int))=l9 _ n+_;rw[Rat.intCast_add,ih_]
section
variable{T:Sx.Tb}
noncomputable def pick(P:Sx.Pb)(T:Sx.Tb)(g:Nat->Int)(j:Nat):Int:=sm P.m λk=>if T.B k=j then g k else 0
theorem Ce(L:Sx.N3 a7 T)(g f:Nat->Int):sm a7.n (λj=>f j*pick a7 T g j)=sm a7.m λk=>g k*f (T.B k):=by
 have e:sm a7.n (λj=>f j*pick a7 T g j)=sm a7.n λj=>sm a7.m λk=>if T.B k=j then g k*f j else 0:=Sx.o7 λj _=>by delta pick;rw[<-Sx.E8];exact Sx.o7 λk _=>by split<;>grind
 rw[e,Sx.oW];exact Sx.o7 λk b=>by rw[Sx.R6 (L.bn k b) λi _ a=>j1 λz=>a z.symm,j2 rfl]
theorem yU(L:Sx.N3 a7 T)(g:Nat->Int)(b:m<a7.m):pick a7 T g (T.B m)=g m:=by delta pick;rw[Sx.R6 b λi c a=>j1 λz=>a (L.inj i m c b z),j2 rfl]
theorem uf(g:Nat->Int)(h:∀k,k<a7.m->T.B k≠m):pick a7 T g m=0:=Sx.hF λk a=>j1 (h k a)
def yv(P:Sx.Pb)(T:Sx.Tb)(j:Nat):Int:=(if T.full j=Uf then T.size*Sx.uv P j else 0)+pick P T (T.am P) j
theorem SN(L:Sx.N3 a7 T)(f:Nat->Int):sm a7.n (λj=>f j*yv a7 T j)=T.size*Sx.fsum a7 T f+sm a7.m λk=>T.am a7 k*f (T.B k):=by
 have e:sm a7.n (λj=>f j*yv a7 T j)=sm a7.n λj=>(T.size*(if T.full j=Uf then Sx.uv a7 j*f j else 0))+f j*pick a7 T (T.am a7) j:=Sx.o7 λj _=>by delta yv;split<;>grind
 rw[e,Sx.iz,Sx.E8,Ce L];rfl
theorem WR(K:Sx.Ok a7 T)(a:m<a7.m):sm a7.n (λj=>a7.A j m*yv a7 T j)=T.size*a7.b m:=by rw[SN K.C7,K.C7.Pt a,K.rt m a];grind
theorem WT(K:Sx.Ok a7 T)(t:Nat):sm a7.n (λj=>a7.c t j*yv a7 T j)=T.obj a7 t:=SN K.C7 _
theorem RB(P:Sx.Pb)(T:Sx.Tb)(x y:Int)(f g:Nat->Int):Sx.fsum P T (λj=>x*f j-y*g j)=x*Sx.fsum P T f-y*Sx.fsum P T g:=by delta Sx.fsum;rw[<-Sx.E8,<-Sx.E8,<-Sx.iy];exact Sx.o7 λj _=>by split<;>grind
theorem IP(K:Sx.Ok a7 T)(t:Nat):T.obj a7 t=Sx.dot a7.m (T.pr t) a7.b+Sx.fsum a7 T (T.rest a7 t):=by
 have f:(sm a7.m λk=>T.am a7 k*a7.c t (T.B k))=Sx.dot a7.m (T.pr t) T.rt:=by rw[Sx.wL K.C7];exact Sx.o7 λk _=>F1 _ _
 have e:Sx.dot a7.m (T.pr t) T.rt=Sx.dot a7.m (T.pr t) a7.b-Sx.fsum a7 T λj=>Sx.dot a7.m (T.pr t) (a7.A j):=by
  have a:Sx.dot a7.m (T.pr t) T.rt=Sx.dot a7.m (T.pr t) λp=>a7.b p-Sx.fsum a7 T λj=>a7.A j p:=Sx.o7 λp d=>by rw[K.rt p d]
  rw[a,Sx.Hx]
  congr 1
  delta Sx.dot Sx.fsum;have b:(sm a7.m λr=>T.pr t r*sm a7.n λj=>if T.full j=Uf then Sx.uv a7 j*a7.A j r else 0)=sm a7.m λr=>sm a7.n λj=>if T.full j=Uf then Sx.uv a7 j*(T.pr t r*a7.A j r)else 0:=Sx.o7 λr _=>by rw[<-Sx.E8];exact Sx.o7 λj _=>by split<;>grind
  rw[b,Sx.oW];exact Sx.o7 λj _=>by
   split;rw[Sx.E8];exact Sx.hF λ_ _=>rfl
 have g:Sx.fsum a7 T (T.rest a7 t)=Sx.fsum a7 T (λj=>T.size*a7.c t j-1*Sx.dot a7.m (T.pr t) (a7.A j)):=Sx.o7 λj _=>by
  split;delta Sx.Tb.rest;grind;rfl
 delta Sx.Tb.obj;rw[f,e,g,RB];grind
def vv(P:Sx.Pb)(T:Sx.Tb)(a j:Nat):Int:=(if j=a then T.size else 0)-pick P T (T.m6 P a) j
theorem v_sum(L:Sx.N3 a7 T)(b:m<a7.n)(f:Nat->Int):sm a7.n (λj=>f j*vv a7 T m j)=f m*T.size-sm a7.m λk=>T.m6 a7 m k*f (T.B k):=by
 have e:sm a7.n (λj=>f j*vv a7 T m j)=sm a7.n λj=>(if j=m then f m*T.size else 0)-f j*pick a7 T (T.m6 a7 m) j:=Sx.o7 λj _=>by
  delta vv;by_cases z:j=m;rw[j2 z,j2 z,z];grind;rw[j1 z,j1 z];grind
 rw[e,Sx.iy,Ce L,Sx.R6 b λi _ c=>j1 c,j2 rfl]
theorem Xf(L:Sx.N3 a7 T)(b:m<a7.n)(t:Nat):sm a7.n (λj=>a7.c t j*vv a7 T m j)=T.rest a7 t m:=by rw[v_sum L b,Sx.nZ L];grind
end
section
variable{T:Sx.Tb}
abbrev B3.pb(I:B3):Sx.Pb:=I.E9.pb I.b
theorem Gy(H:A4 f D E M)(a:m<f.m)(b:e<f.n):((f.pb.A e m:Int):Rat)=val (f.row m e)*(f.sc e:Rat):=by
 show((K4 (f.E9.col e) m):Rat)=_;rw[Dr f e a];exact BD (H.row m e a b).1.pos ((H.sc b).2.2.2 m a)
theorem vW(H:A4 f D E M)(b:m<3)(a:e<f.n):((f.pb.c m e:Int):Rat)=val (N7 (f.cost e) m)*(f.sc e:Rat)*(f.mu m:Rat):=by
 show((f.wt m e):Rat)=_;delta B3.wt;rw[BD (H.wq b a).1.pos ((H.mu b).2.2.2 e a)];delta B3.wq;rw[rH (H.cost m e b a).1.pos t7,val_one]
theorem KA(H:A4 f D E M)(a:m<f.m):((f.pb.b m:Int):Rat)=val (f.rg m)*(f.un:Rat):=BD (H.rg m a).1.pos (H.un.2.2.2.1 m a)
theorem ua(H:A4 f D E M)(c:m<f.n)(h:f.tp m=U u):((Sx.uv f.pb m:Int):Rat)*(f.sc m:Rat)=val u*(f.un:Rat)/\∃v,f.lim m=U v/\Sx.uv f.pb m=v:=by
 cases hl:f.lim m with
 |none=>rw[mH.mpr hl]at h;exact nE h
 |some v =>
  obtain⟨I,a,d,b⟩:=Cz H c hl;rw[h]at a;cases a;have e:Sx.uv f.pb m=v:=by delta Sx.uv;show(f.lim m).getD 0=v;rw[hl];rfl
  refine⟨?_,v,rfl,e⟩;have:(v:Rat)*(u.2*(f.sc m))=u.1*f.un:=by exact_mod_cast b
  have:=fq (show u.2≠0 by exact E6);delta val;grind
theorem N9(h:0<D):(0:Rat)<(D:Rat):=by exact_mod_cast h
abbrev T5(I:B3)(T:Sx.Tb)(j:Nat):Q2:=aN I.E9 T I.tp I.m j
theorem Wf:∀i,(∀k,k<i->T.B k≠m)->aN f.E9 T f.tp i m=aN f.E9 T f.tp 0 m:=by
 intro l_;induction l_ with
 |zero =>
  intro _;exact rfl
 |succ i ih_ =>
  intro h;show(if m=T.B i then _ else aN f.E9 T f.tp i m)=_;rw[j1 λz=>h i o9 z.symm];exact ih_ λk a=>h k cO
theorem Wg(L:Sx.N3 f.pb T)(a:m<f.m):∀i,m<i->i<=f.m->aN f.E9 T f.tp i (T.B m)=w9 (T.am (s9 f.E9) m*f.sc (T.B m)) (T.size*f.un):=by
 intro l_;induction l_ with
 |zero =>
  intro h _;exact absurd h (Eo _)
 |succ i ih_ =>
  intro h hi;rw[aN];by_cases z:i=m;rw[z,j2 rfl];rfl;rw[j1 λy=>z (L.inj i m (by assumption) a y.symm)];exact ih_ j7 cw
theorem qC(K:Sx.Ok f.pb T)(b:m<f.n):(∃k,k<f.m/\T.B k=m/\T.full m=U'/\T5 f T m=w9 (T.am f.pb k*f.sc m) (T.size*f.un))\/((∀k,k<f.m->T.B k≠m)/\((T.full m=Uf/\∃q,f.tp m=U q/\T5 f T m=q)\/(T.full m=U'/\T5 f T m=q0))):=by
 by_cases h:∃k,k<f.m/\T.B k=m
 . obtain⟨k,a,rfl⟩:=h;refine .inl ⟨k,a,rfl,?_,Wg K.C7 a f.m a y4⟩;cases z:T.full (T.B k)with
   |false=>rfl
   |true=>exact absurd rfl ((K.fu _ b z).2 k a)
 . have c:=λk a z=>h ⟨k,a,z⟩
   refine .inr ⟨c,?_⟩;have e:T5 f T m=aN f.E9 T f.tp 0 m:=Wf f.m c;cases z:T.full m with
   |false=>exact .inr ⟨rfl,by rw[e,aN,j1 (by rw[z];decide)]⟩
   |true =>
    cases hq:f.tp m with
    |none=>exact absurd (mH.mp hq) ((K.fu m b z).1)
    |some q=>exact .inl ⟨rfl,q,rfl,by rw[e,aN,j2 z,hq];rfl⟩
theorem zq(H:A4 f D E M)(K:Sx.Ok f.pb T)(c:m<f.n):val (T5 f T m)*((T.size:Rat)*(f.un:Rat))=(f.sc m:Rat)*((yv f.pb T m:Int):Rat):=by
 rcases qC K c with ⟨k,d,rfl,a,e⟩|⟨b,⟨a,q,hq,e⟩|⟨a,e⟩⟩
 . rw[e,ff (F0 K.C7.pos H.un.1)];have:yv f.pb T (T.B k)=T.am f.pb k:=by delta yv;rw[j1 (by simp_all),yU K.C7 _ d,O1]
   have:=dk (N9 K.C7.pos) (N9 H.un.1);grind
 . rw[e];have:yv f.pb T m=T.size*Sx.uv f.pb m:=by delta yv;rw[j2 a,uf _ b,sW]
   have:=(ua H c hq).1;rw[‹yv f.pb T m=_›,gB];grind
 . rw[e];have:yv f.pb T m=0:=by delta yv;rw[j1 (by rw[a];decide),uf _ b,O1]
   rw[this,aI];grind
theorem Rl(H:A4 f D E M)(K:Sx.Ok f.pb T)(a:m<f.m):l9 (λj=>val (f.row m j)*val (T5 f T j)) f.n=val (f.rg m):=by
 have:l9 (λj=>val (f.row m j)*val (T5 f T j)) f.n*(T.size*f.un)=val (f.rg m)*(T.size*f.un):=by
  rw[cX,t5 (g:=λj=>((f.pb.A j m*yv f.pb T j:Int))) f.n λj b=>by have:=zq H K b;rw[gB,Gy H a b];grind];rw[<-md (λj=>f.pb.A j m*yv f.pb T j),show sm f.n (λj=>f.pb.A j m*yv f.pb T j)=_ from WR K a,gB,KA H a];grind
 have:((T.size:Rat)*f.un)≠0:=by have:=dk (N9 K.C7.pos) (N9 H.un.1);grind
 grind
theorem Rm(H:A4 f D E M)(K:Sx.Ok f.pb T)(b:m<3):l9 (λj=>val (N7 (f.cost j) m)*val (T5 f T j)) f.n*((T.size:Rat)*(f.un:Rat)*(f.mu m:Rat))=((T.obj f.pb m:Int):Rat):=by
 rw[cX,t5 (g:=λj=>((f.pb.c m j*yv f.pb T j:Int))) f.n λj a=>by have:=zq H K a;rw[gB,vW H b a];grind];rw[<-md (λj=>f.pb.c m j*yv f.pb T j),show sm f.n (λj=>f.pb.c m j*yv f.pb T j)=_ from WT K m]
end
open Sx (sm)
section
variable{T:Sx.Tb}
abbrev yM(I:B3)(T:Sx.Tb)(a j:Nat):Q2:=cU I.E9 T a I.m j
theorem Uv:∀i,(∀k,k<i->T.B k≠e)->cU f.E9 T m i e=if e=m then(f.sc m,1)else q0:=by
 intro l_;induction l_ with
 |zero =>
  intro _;exact rfl
 |succ i ih_ =>
  intro h;show(if e=T.B i then _ else cU f.E9 T m i e)=_;rw[j1 λz=>h i o9 z.symm];exact ih_ λk b=>h k cO
theorem Uw(L:Sx.N3 f.pb T)(b:e<f.m):∀i,e<i->i<=f.m->cU f.E9 T m i (T.B e)=w9 (-T.m6 (s9 f.E9) m e*f.sc (T.B e)) T.size:=by
 intro l_;induction l_ with
 |zero =>
  intro h _;exact absurd h (Eo _)
 |succ i ih_ =>
  intro h hi;rw[cU];by_cases z:i=e;rw[z,j2 rfl];rfl;rw[j1 λy=>z (L.inj i e (by assumption) b y.symm)];exact ih_ j7 cw
theorem BC(L:Sx.N3 f.pb T)(j:Nat):(∃k,k<f.m/\T.B k=j/\yM f T m j=w9 (-T.m6 f.pb m k*f.sc j) T.size)\/((∀k,k<f.m->T.B k≠j)/\yM f T m j=if j=m then(f.sc m,1)else q0):=by
 by_cases h:∃k,k<f.m/\T.B k=j;obtain⟨k,b,rfl⟩:=h;exact .inl ⟨k,b,rfl,Uw L b f.m b y4⟩;have c:=λk b z=>h ⟨k,b,z⟩;exact .inr ⟨c,Uv f.m c⟩
theorem Ut(L:Sx.N3 f.pb T)(nb:∀k,k<f.m->T.B k≠m)(j:Nat):val (yM f T m j)*(T.size:Rat)=(f.sc j:Rat)*((vv f.pb T m j:Int):Rat):=by
 have:=N9 L.pos;rcases BC L j with ⟨k,c,rfl,e⟩|⟨b,e⟩
 . rw[e,ff L.pos];have:vv f.pb T m (T.B k) = -T.m6 f.pb m k:=by delta vv;rw[j1 (nb k c),yU L _ c,Int.zero_sub]
   rw[this,gB];grind
 . rw[e];by_cases z:j=m
   . have:vv f.pb T m j=T.size:=by delta vv;rw[j2 z,uf _ b,sV]
     rw[this,j2 z,val_one,z]
   . have:vv f.pb T m j=0:=by delta vv;rw[j1 z,uf _ b,sV]
     rw[this,j1 z,aI];grind
theorem OK(H:A4 f D E M)(L:Sx.N3 f.pb T)(d:m<f.n)(nb:∀k,k<f.m->T.B k≠m)(b:e<3):l9 (λj=>val (N7 (f.cost j) e)*val (yM f T m j)) f.n*((T.size:Rat)*(f.mu e:Rat))=((T.rest f.pb e m:Int):Rat):=by
 rw[cX,t5 (g:=λj=>((f.pb.c e j*vv f.pb T m j:Int))) f.n λj I=>by have:=Ut L nb j;rw[gB,vW H b I];grind];rw[<-md (λj=>f.pb.c e j*vv f.pb T m j),show sm f.n (λj=>f.pb.c e j*vv f.pb T m j)=_ from Xf L d e]
theorem Bf(K:Sx.Ok f.pb T)(i:Sx.N0 f.pb T m)(h:stI f.E9 T m f.m=[]):f.lim m=J/\T.full m=U'/\∀k,k<f.m->T.m6 f.pb m k<=0/\(T.m6 f.pb m k<0->f.lim (T.B k)=J):=by
 have b:∀s,s∉stI f.E9 T m f.m:=λs c=>by simp_all
 have d:f.lim m=J:=by
  cases z:f.lim m with
  |none=>rfl
  |some v=>exact absurd (Y3.mpr (.inl (hI.mpr ⟨v,z,rfl⟩))) (b ⟨v,1,m,J,U'⟩)
 have I:T.full m=U':=by
  cases z:T.full m with
  |false=>rfl
  |true=>exact absurd d (K.fu m i.an z).1
 have sg:T.sg m=1:=by delta Sx.Tb.sg;rw[I];rfl
 refine⟨d,I,λk e=>⟨?_,λg=>?_⟩⟩
 . rcases dJ 0 (T.m6 f.pb m k)with z|z
   exact absurd (Y3.mpr (.inr ⟨k,e,Y2.mpr (.inl ⟨by rw[sg,Z1];exact z,rfl⟩)⟩)) (b _);exact z
 . cases z:f.lim (T.B k)with
   |none=>rfl
   |some v=>exact absurd (Y3.mpr (.inr ⟨k,e,Y2.mpr (.inr ⟨by rw[sg,Z1];exact g,v,z,rfl⟩)⟩)) (b _)
theorem BN(f:0<v)(h:z*v=(D:Rat)):(0<z↔0<D)/\(z=0↔D=0)/\(0<=z↔0<=D):=by
 have c:0<z->0<D:=λx=>by
  have:=dk x f;rw[h]at this
  exact_mod_cast this
 have d:z=0->D=0:=λx=>by
  have:(D:Rat)=0:=by grind
  exact_mod_cast this
 have b:z<0->D<0:=λx=>by
  have:=dk (show 0 < -z by grind) f
  have e : -z*v=((-D:Int)):=by rw[Em,<-h];grind
  rw[e]at this;have:0 < -D:=by exact_mod_cast this
  simp_all
 have a:z<0\/z=0\/0<z:=by grind
 refine⟨⟨c,λx=>?_⟩,⟨d,λx=>?_⟩,⟨λx=>?_,λx=>?_⟩⟩
 . rcases a with t|t|t
   have:=b t;lia
   . have:=d t;simp_all
   exact t
 . rcases a with t|t|t
   . have:=b t;simp_all
   exact t
   . have:=c t;simp_all
 . rcases a with t|t|t
   grind;have:=d t;simp[*];have:=c t;exact bx
 . rcases a with t|t|t
   have:=b t;lia;grind;grind
theorem a0Y{y k l m:Rat}{r:Nat->Int}(e:0<k)(b:0<l)(c:0<m)(a:v*k=(r 0:Rat))(f:y*l=(r 1:Rat))(d:z*m=(r 2:Rat)):NN v y z↔¬Sx.Neg r:=by
 obtain⟨i,n,_⟩:=BN e a;obtain⟨g,h,_⟩:=BN b f;obtain⟨_,_,j⟩:=BN c d;delta NN Sx.Neg;lia
theorem Ar(H:A4 f D E M)(L:Sx.N3 f.pb T){p:Nat}(a:m<3):val (N7 (Z9 f.E9 T p) m)*((T.size:Rat)*(f.mu m:Rat))=((T.pr m p:Int):Rat):=by
 have e:N7 (Z9 f.E9 T p) m=w9 (T.pr m p) (T.size*f.mu m):=by rcases lt3 a with rfl|rfl|rfl<;>rfl
 have:=dk (N9 L.pos) (N9 (H.mu a).1);rw[e,ff (F0 L.pos (H.mu a).1),gB];grind
def dU(I:B3)(T:Sx.Tb)(t j:Nat):Rat:=val (N7 (I.cost j) t)-l9 (λp=>val (N7 (Z9 I.E9 T p) t)*val (I.row p j)) I.m
theorem BS(H:A4 f D E M)(L:Sx.N3 f.pb T){t:Nat}(a:t<3)(b:m<f.n):dU f T t m*((f.sc m:Rat)*(f.mu t:Rat)*(T.size:Rat))=((T.rest f.pb t m:Int):Rat):=by
 have e:l9 (λp=>val (N7 (Z9 f.E9 T p) t)*val (f.row p m)) f.m*((f.sc m)*(f.mu t)*T.size)=((Sx.dot f.m (T.pr t) (f.pb.A m))):=by
  rw[cX,t5 (g:=λp=>((T.pr t p*f.pb.A m p:Int))) f.m λp d=>by have:=Ar (p:=p) H L a;rw[gB,Gy H d b];grind];rw[<-md (λp=>T.pr t p*f.pb.A m p)];rfl
 have I:((T.rest f.pb t m):Rat)=((f.pb.c t m))*T.size-((Sx.dot f.m (T.pr t) (f.pb.A m))):=by
  show((f.pb.c t m*T.size-Sx.dot f.m (T.pr t) (f.pb.A m):Int):Rat)=_;simp
 delta dU;rw[I,vW H a b,<-e];grind
theorem Cb(H:A4 f D E M)(L:Sx.N3 f.pb T)(c:m<3):l9 (λp=>val (N7 (Z9 f.E9 T p) m)*val (f.rg p)) f.m*((T.size:Rat)*(f.un:Rat)*(f.mu m:Rat))=((Sx.dot f.m (T.pr m) f.pb.b:Int):Rat):=by
 rw[cX,t5 (g:=λp=>((T.pr m p*f.pb.b p:Int))) f.m λp a=>by have:=Ar (p:=p) H L c;rw[gB,KA H a];grind];rw[<-md (λp=>T.pr m p*f.pb.b p)];rfl
theorem JC(K:Sx.Ok f.pb T)(ne:∀m,m<f.n->¬Sx.N0 f.pb T m)(a:m<f.n):(f.lim m=U 0)\/(T.full m=U'/\¬Sx.Neg λt=>T.rest f.pb t m)\/(T.full m=Uf/\(Sx.Neg (λt=>T.rest f.pb t m)\/∀t,t<3->T.rest f.pb t m=0)):=by
 by_cases z:f.lim m=U 0;exact .inl z
 . have nn:=λy=>ne m a ⟨a,z,y⟩
   cases hf:T.full m with
   |false =>
    have sg:T.sg m=1:=by delta Sx.Tb.sg;rw[hf];rfl
    refine .inr (.inl ⟨rfl,λy=>nn (y.congr λt _=>by rw[sg,Z1])⟩)
   |true =>
    have:T.sg m = -1:=by delta Sx.Tb.sg;rw[hf];rfl
    refine .inr (.inr ⟨rfl,?_⟩);unfold Sx.Neg at *;by_cases w:T.rest f.pb 0 m=0/\T.rest f.pb 1 m=0/\T.rest f.pb 2 m=0
    . exact .inr λt b=>by
        rcases lt3 b with rfl|rfl|rfl
        exact w.1;exact w.2.1;exact w.2.2
    left;lia
theorem AK(H:A4 f D E M)(K:Sx.Ok f.pb T)(ne:∀m,m<f.n->¬Sx.N0 f.pb T m)(d:m<f.n){ch:Bool}(I:ch=Uf↔Sx.Neg λt=>T.rest f.pb t m):(ch=Uf->f.tp m≠J)/\∀t,t<3->(if ch=Uf then dU f T t m*val ((f.tp m).getD q0)else 0)*((T.size:Rat)*(f.un:Rat)*(f.mu t:Rat))=((if T.full m=Uf then Sx.uv f.pb m*T.rest f.pb t m else 0:Int):Rat):=by
 have k:=JC K ne d;constructor
 . intro a c;have g:=mH.mp c;rcases k with k|⟨_,k⟩|⟨i,_⟩
   lia;exact k (I.mp a);exact(K.fu m d i).1 g
 . intro t c;have:val ((f.tp m).getD q0)*f.un=((Sx.uv f.pb m))*(f.sc m):=by
    cases htp:f.tp m with
    |none =>
     have:Sx.uv f.pb m=0:=by delta Sx.uv;show(f.lim m).getD 0=0;rw[mH.mp htp];rfl
     rw[this];show val q0*_=0*_;rw[aI];grind
    |some q =>
     have:=(ua H d htp).1;grind
   have h:f.lim m=U 0->Sx.uv f.pb m=0:=λz=>by delta Sx.uv;show(f.lim m).getD 0=0;rw[z];rfl
   by_cases a:ch=Uf
   . rw[j2 a];have e:((if T.full m=Uf then Sx.uv f.pb m*T.rest f.pb t m else 0))=Sx.uv f.pb m*T.rest f.pb t m:=by
      by_cases b:T.full m=Uf;rw[j2 b]
      . rw[j1 b];rcases k with k|⟨_,k⟩|⟨k,_⟩
        rw[h k,bE];exact absurd (I.mp a) k;exact absurd k b
     rw[e,gB,<-(BS H K.C7 c d)];grind
   . rw[j1 a];have e:((if T.full m=Uf then Sx.uv f.pb m*T.rest f.pb t m else 0))=0:=by
      by_cases b:T.full m=Uf
      . rw[j2 b];rcases k with k|⟨k,_⟩|⟨_,k|k⟩
        rw[h k,bE]
        . simp_all
        exact absurd (I.mpr k) a;rw[k t c,Q9]
      rw[j1 b]
     rw[e];grind
theorem Gb(H:A4 f D E M)(K:Sx.Ok f.pb T)(ne:∀j,j<f.n->¬Sx.N0 f.pb T j){ch:Nat->Bool}(d:∀j,j<f.n->(ch j=Uf↔Sx.Neg λm=>T.rest f.pb m j))(a:m<3):
  l9 (λp=>val (N7 (Z9 f.E9 T p) m)*val (f.rg p)) f.m+l9 (λj=>if ch j=Uf then dU f T m j*val ((f.tp j).getD q0)else 0) f.n=l9 (λj=>val (N7 (f.cost j) m)*val (T5 f T j)) f.n:=by
 have:=dk (dk (N9 K.C7.pos) (N9 H.un.1)) (N9 (H.mu a).1);have:=Cb H K.C7 a;have:=Rm H K a;have:l9 (λj=>if ch j=Uf then dU f T m j*val ((f.tp j).getD q0)else 0) f.n*(T.size*f.un*(f.mu m))=((Sx.fsum f.pb T (T.rest f.pb m))):=by
  rw[cX,t5 f.n λj c=>(AK H K ne c (d j c)).2 m a];rw[<-md (λj=>if T.full j=Uf then Sx.uv f.pb j*T.rest f.pb m j else 0)];rfl
 have:((T.obj f.pb m):Rat)=((Sx.dot f.m (T.pr m) f.pb.b))+((Sx.fsum f.pb T (T.rest f.pb m))):=by rw[IP K m,Rat.intCast_add];rfl
 generalize (T.size:Rat)*f.un*(f.mu m)=z at *;grind
end
open Sx (sN pN sm det B6 dot)
section
variable{T:Sx.Tb}
theorem wX{c:Rat}(h:¬NN z v c):NN (-z) (-v) (-c):=by unfold NN at *;grind
theorem Jw(b:∀p,p<f.m->l9 (λj=>val (f.row p j)*C j) f.n=val (f.rg p))(t:Nat):
  l9 (λj=>val (N7 (f.cost j) t)*C j) f.n=l9 (λj=>dU f T t j*C j) f.n+l9 (λp=>val (N7 (Z9 f.E9 T p) t)*val (f.rg p)) f.m:=by
 have c:l9 (λp=>val (N7 (Z9 f.E9 T p) t)*val (f.rg p)) f.m=l9 (λj=>l9 (λp=>val (N7 (Z9 f.E9 T p) t)*val (f.row p j)*C j) f.m) f.n:=by
  rw[rK];refine t5 f.m λp a=>?_;rw[<-b p a,Rat.mul_comm,cX];refine t5 f.n λj _=>?_;grind
 rw[c,<-bM];refine t5 f.n λj _=>?_;rw[<-cX];delta dU;grind
theorem JD(H:A4 f D E M)(K:Sx.Ok f.pb T)(ne:∀j,j<f.n->¬Sx.N0 f.pb T j)(w:∀j,j<f.n->0<=C j)(x:∀j q,j<f.n->f.tp j=U q->C j<=val q)(s:∀p,p<f.m->l9 (λj=>val (f.row p j)*C j) f.n=val (f.rg p)){Δ:Nat->Rat}(hD:∀t,Δ t=l9 (λj=>val (N7 (f.cost j) t)*C j) f.n-l9 (λj=>val (N7 (f.cost j) t)*val (T5 f T j)) f.n):
  NN (Δ 0) (Δ 1) (Δ 2):=by
 classical
 let I:=λj=>decide (Sx.Neg λt=>T.rest f.pb t j)
 have e:∀j,j<f.n->(I j=Uf↔Sx.Neg λt=>T.rest f.pb t j):=λj _=>decide_eq_true_iff
 let g:=λt j=>dU f T t j*C j-(if I j=Uf then dU f T t j*val ((f.tp j).getD q0)else 0)
 have a:∀t,t<3->Δ t=l9 (g t) f.n:=λt d=>by rw[hD,Jw (T:=T) s t,<-Gb H K ne e d,jw];grind
 rw[a 0 f5,a 1 f5,a 2 f5];refine NN.sum f.n λj b=>?_;have l:∀t,t<3->(0:Rat)<(f.sc j)*(f.mu t)*T.size:=λt d=>dk (dk (N9 (H.sc b).1) (N9 (H.mu d).1)) (N9 K.C7.pos);have i:=λt d=>BS H K.C7 (t:=t) d b;have o:=a0Y (r:=λt=>T.rest f.pb t j) (l 0 f5) (l 1 f5) (l 2 f5) (i 0 f5) (i 1 f5) (i 2 f5);by_cases h:I j=Uf
 . have u:=(AK H K ne b (e j b)).1 h;obtain⟨q,hq⟩:=Option.ne_none_iff_exists'.mp u;have v:NN (- dU f T 0 j) (- dU f T 1 j) (- dU f T 2 j):=by exact wX λz=>o.mp z ((e j b).mp h)
   have:=v.mul (k:=val q-C j) (by grind)
   have c:∀t,g t j = - dU f T t j*(val q-C j):=λt=>by grind
   rw[c,c,c];exact this
 . have c:∀t,g t j=dU f T t j*C j:=λt=>by grind
   rw[c,c,c];exact(o.mpr λz=>h ((e j b).mpr z)).mul (w j b)
end
section
variable{T:Sx.Tb}
theorem Cy(h:f.tp m=U u):f.lim m≠J:=by delta B3.lim B3.hq;rw[h];simp
theorem Uu(K:Sx.Ok f.pb T)(I:Sx.N0 f.pb T m)(h:stI f.E9 T m f.m=[])(hq:f.tp e=U u):val (yM f T m e)=0:=by
 obtain⟨g,_,a⟩:=Bf K I h;rcases BC K.C7 e with ⟨k,d,k2,b⟩|⟨_,b⟩
 . obtain⟨c,l⟩:=a k d;have i:T.m6 f.pb m k=0:=by
    rcases EL c with z|z
    exact absurd (k2▸l z) (Cy hq);exact z
   rw[b,i,ff K.C7.pos,Int.neg_zero,bE];show 0/_=0;rw[DP,DW]
 rw[b,j1 (λz=>Cy hq (by rw[z];exact g))];exact aI
theorem FW(H:A4 f D E M)(K:Sx.Ok f.pb T)(b:Sx.N0 f.pb T m)(h:stI f.E9 T m f.m=[])(fr:∀j,j<f.n->f.tp j=J->f.cost j=jr):False:=by
 have z:∀t,t<3->T.rest f.pb t m=0:=λt c=>by
  have w:=OK H K.C7 b.an (b.nb K.C7) c;have e:l9 (λj=>val (N7 (f.cost j) t)*val (yM f T m j)) f.n=0:=by
   rw[t5 f.n λj d=>?_,kq]
   cases q:f.tp j with
   |none =>
    rw[fr j d q];have:val (N7 jr t)=0:=by rcases(by lia:t=0\/t=1\/t=2)with rfl|rfl|rfl<;>exact aI
    rw[this,DW]
   |some I=>rw[Uu K b h q,Rat.mul_zero]
  rw[e,DW]at w
  exact_mod_cast w.symm
 exact Sx.hP (λt c=>by rw[z t c,Q9]) b.neg
end
open Sx (sN pN sm det B6 dot)
structure Hr where
 Y1:Int
 need:Int
 line:Option (Int×Int×Int×Int)
noncomputable def Bq:Option (Int×Int×Int×Int)->f7
 |none=>.none
 |some (a,b,c,d)=>.tuple [.int a,.int b,.int c,.int d]
def x6(h:Hr):f7:=.tuple [.int h.Y1,.int h.need,Bq h.line]
structure Wk where
 name:Str
 K5:Int
 first:Int
 last:Int
 most:Int
noncomputable def G0(w:Wk):f7:=.tuple [.str w.name,.int w.K5,.int w.first,.int w.last,.int w.most]
structure o6 where
 hs:List Hr
 size:Int
 start:Int
 fill:Int
 take:Int
 kept:Q2
 left:Q2
 rest:Int
 ws:List Wk
variable{d:o6}
abbrev o6.n(h:o6):Nat:=h.hs.length
abbrev o6.w(h:o6):Nat:=h.ws.length
noncomputable def T4(h:o6):f7:=.tuple [.int h.size,.int h.start,.int h.fill,.int h.take,fr h.kept,fr h.left,.int h.rest]
def m7(h:o6):f7:=.tuple [.tuple (h.hs.map x6),T4 h,.tuple (h.ws.map G0)]
theorem Bm{q:Q2}(a:t2 m u)(hq:t2 e q)(h:m+e<=7998):kW [fr u,fr q]=sd (fr (bu u q)):=by
 have n:Bt 60000 u.1:=a.bt.mono (p5 ph f5);have b:Bt 60000 u.2:=a.bb.mono (p5 ph f5);have g:Bt 60000 q.1:=hq.bt.mono (p5 rZ f5);have c:Bt 60000 q.2:=hq.bb.mono (p5 rZ f5);obtain⟨i,j,d⟩:=Qv a.pos hq.pos a.low hq.low;have bs:Bt 8000 (gc u.2 q.2):=(ZM a.pos a.bb).mono (p5 ph f5);have f:∀t,Bt 8000 (gc t (gc u.2 q.2)):=λt=>xo E6 bs;delta kW;walk_at "r";rw[kD (O3 a.pos) (O3 hq.pos)];walk_at "r";simp only[J5 (show gc u.2 q.2≠0 by exact E6) bs];walk_at "r";simp only[t6,n,b.fdiv,g,c.fdiv];walk_at "r";rw[kD (by split<;>omega) o9,zO];walk_at "r";simp only[J5 (show gc (u.1*q.2.fdiv (gc u.2 q.2)+q.1*u.2.fdiv (gc u.2 q.2)) (gc u.2 q.2)≠0 by exact E6) (f _),J5 (show gc u.2 q.2≠0 by exact E6) bs];walk_at "r";rw[t6 b.fdiv c.fdiv];delta bu;rw[d];rfl
theorem RC{q:Int×Int}(h:t2 m q):t2 m (-q.1,q.2):=⟨h.pos,by have:=h.low;simpa using this,h.bt.neg,h.bb⟩
theorem Qu(p q:Int×Int):bu p (-q.1,q.2)=eJ p q:=by
 show w9 (p.1*q.2 + -q.1*p.2) _=w9 (p.1*q.2-q.1*p.2) _;rw[xU];rfl
theorem LP{q:Q2}(a:t2 m u)(hq:t2 e q)(h:m+e<=7998):aE [fr u,fr q]=sd (fr (eJ u q)):=by
 delta aE;walk_at "r";rw[show(nj [.int (-q.1),.int q.2])=fr (-q.1,q.2)from rfl,Bm a (RC hq) h,Qu];rfl
structure Ch where
 k:List Key
 c:Tr
 t:Option Q2
 ns:List (Nat×Q2)
noncomputable def mG(p:Nat×Q2):f7:=.tuple [.int (p.1:Int),fr p.2]
def M3(x:Ch):f7:=.tuple [G8 x.k,F5 x.c,T1 x.t,.list (x.ns.map mG)]
def M6(h:Hr):Q2:=if h.Y1<=h.need then(1,1)else(-1,1)
def outF(h:Hr):Q2:=if h.Y1<=h.need then(-1,1)else(1,1)
def lH(p:Int):Tr:=⟨(0,1),(0,1),(p,1)⟩
def k2(s:Str)(t:Nat):List Key:=[.inr s,.inl (t:Int)]
def CG:Tr:=⟨(1,1),(0,1),(0,1)⟩
def Xh:Tr:=⟨(0,1),(1,1),(0,1)⟩
noncomputable def cx(t:Nat)(h:Hr):List Ch:=match h.line with
 |none=>[]
 |some (a,b,c,d)=>[⟨k2 "bought" t,lH a,U (b,1),[(t,M6 h)]⟩,⟨k2 "given" t,lH (-c),U (d,1),[(t,outF h)]⟩]
noncomputable def dF(t:Nat)(h:Hr):List Ch:=[⟨k2 "lacked" t,CG,U (h.need,1),[(t,M6 h)]⟩,⟨k2 "spilt" t,⟨(0,1),(0,1),(0,1)⟩,J,[(t,outF h)]⟩]++cx t h
theorem pC(h:Hr):dN [x6 h]=sd (fr (M6 h)):=by
 delta dN;walk_at "r";simp only[x6];walk_at "r";delta M6;by_cases e:h.Y1<=h.need;rw[j2 e,j2 e];rfl;rw[j1 e,j1 e];rfl
theorem Cf(h:Hr):dA [x6 h]=sd (fr (outF h)):=by
 delta dA;walk_at "r";rw[pC];delta M6 outF;by_cases e:h.Y1<=h.need
 . rw[j2 e,j2 e];kernel_rfl
 . rw[j1 e,j1 e];kernel_rfl
theorem vX(p:Int):me [.int p]=sd (F5 (lH p)):=rfl
theorem bV(h:j4 m r=sd (.int (e:Int))):S5 (f6 (fC (.str B)) (f6 (j4 m) l7)) r=sd (G8 (k2 B e)):=by
 delta S5;have:f6 (fC (.str B)) (f6 (j4 m) l7) r=U [.str B,.int e]:=by delta f6;rw[h];rfl
 rw[this];rfl
theorem Wt(t:Nat)(h:Hr):cE [.int (t:Int),x6 h]=U (.own ((dF t h).map M3)):=by
 have g:=pC h;have f:=Cf h;obtain⟨j,i,e⟩:=h;delta cE;cases e with
 |none =>
  walk_at "r";rw[g,f,bV rfl,bV rfl];rfl
 |some l =>
  obtain⟨a,b,c,d⟩:=l;walk_at "r";rw[g,f,bV rfl,bV rfl];simp only[x6,Bq]at g f ⊢;walk_at "r";rw[bV rfl,vX,g];walk_at "r";rw[qR _ rfl t7];walk_at "r";rw[bV rfl,vX,f];rfl
theorem k7{a G2:DO}{ds ds1:Ds}{r:Option Out}(h:a ds=U (.next ds1))(b:G2 ds1=r):j9 a G2 ds=r:=by rw[q9,h,o5,b]
theorem R7{G:DO}(a:A.length=m)(h:G (N8 A++w5 (N-m) J)=U (.ret P)):E1 m N G A=U P:=by delta E1;rw[j2 a,h];rfl
theorem m2{ds1:Ds}{pv:PV}(h:G r=U pv)(a:r.set m (sd pv.d)=ds1):k9 m G r=U (.next ds1):=by rw[dg,h,<-a];rfl
theorem di{a:DL}{items:List f7}(h:a r=U items)(b:items.length<=1000000)(c:L8 b7 q5 G r items=U A):p9 a b7 q5 G r=U (.own A):=by
 delta p9
 simp_all
def G9:Hr:=⟨0,0,J⟩
abbrev o6.hr(h:o6)(i:Nat):Hr:=h.hs.getD i G9
def gH(N t:Nat)(q:Q2):List (Nat×Q2):=(A3 (N-t)).map λi=>(N+t+i,q)
def vS(h:o6)(t:Nat):Int:=if t+1=h.hs.length then h.rest else 0
noncomputable def bh(h:o6)(t:Nat):List Ch :=
 [⟨k2 "filled" t,⟨(0,1),(0,1),(0,1)⟩,U (h.fill,1),(t,outF (h.hs.getD t G9))::gH h.hs.length t (eJ (0,1) h.kept)⟩,
  ⟨k2 "taken" t,⟨(0,1),(0,1),(0,1)⟩,U (h.take,1),(t,J9 (M6 (h.hs.getD t G9)) h.left)::gH h.hs.length t (1,1)⟩,
  ⟨k2 "level" t,lH (-vS h t),U (h.size,1),[(h.hs.length+t,(1,1))]⟩]
theorem BQ{q:Q2}(l:m<=N)(k:N<=1000)(a:j4 2 r=sd (.int (N:Int)))(d:j4 1 r=sd (.int (m:Int)))(h:∀p:Nat,G (sd (.int (p:Int))::r)=sd (mG (p,q))):
  p9 (x9 jx (f6 (j8 p8 (j4 2) (j4 1)) (f6 (j8 F7 (fC (.int 2)) (j4 2)) l7))) p6 q5 G r=U (.own ((gH N m q).map mG)):=by
 have e:x9 jx (f6 (j8 p8 (j4 2) (j4 1)) (f6 (j8 F7 (fC (.int 2)) (j4 2)) l7)) r=U (Q1 ((N+m:Nat)) (N-m)):=by
  have b:Bt 60000 1000:=⟨by lia⟩
  have f:F7 (.int 2) (.int N)=sd (.int (2*N)):=t6 (b.of_le f5) (b.of_le o9);have c:j8 p8 (j4 2) (j4 1) r=sd (.int (N+m)):=by delta j8;rw[a,d];rfl
  have g:j8 F7 (fC (.int 2)) (j4 2) r=sd (.int (2*N)):=by
   delta j8 fC
   simp_all
  delta x9 f6;rw[c,g];show jx [.int (N+m),.int (2*N)]=_;rw[BR ⟨⟨qg _,by lia⟩,by lia,by lia⟩];rw[show(2*(N:Int)-(N+m)).toNat=N-m by lia];rfl
 refine di e ?_ ?_;rw[oX];lia;rw[qP λi j=>⟨_,h (N+m+i),rfl⟩];delta gH;rw[ei];rfl
theorem Pf(h:o6)(j:t2 20 h.kept)(k:t2 20 h.left)(f:e<h.hs.length)(c:h.hs.length<=1000):ej [m7 h,.int (e:Int)]=U (.own ((bh h e).map M3)):=by
 refine R7 rfl ?_;refine k7 (m2 (pv:=.dat (.int h.hs.length)) ?_ rfl) ?_;show A9 [.tuple (h.hs.map x6)]=_;delta A9 d1;simp;refine k7 (m2 (pv:=.dat (x6 (h.hs.getD e G9))) ?_ rfl) ?_;show u9 (.tuple (h.hs.map x6)) (.int e)=_;rw[pz,dQ rfl (by simp_all),L1,oA,F2 f];rfl;refine k7 (m2 rfl rfl) ?_;refine k7 (m2 (BQ (q:=eJ (0,1) h.kept) cw c rfl rfl λp=>?_) rfl) ?_;show((((aE [fr (0,1),fr h.kept]).bind λx=>U [x.d]).bind λl=>U (V0 p::l)).bind λl=>if l.length<=1000000 then U (PV.dat (.tuple l))else J)=_;rw[LP (m:=1) ⟨by decide,by decide,⟨by decide⟩,⟨by decide⟩⟩ j f5];rfl;refine k7 (m2 (BQ (q:=(1,1)) cw c rfl rfl λp=>rfl) rfl) ?_;refine k7 (m2 (pv:=.dat (.int (vS h e))) ?_ rfl) ?_;show(((Z7 (.int e) (.int (h.hs.length-1))).bind λx=>Ua x.d).bind λb=>if b=Uf then U (PV.dat (.int h.rest))else sd (.int 0))=_;rw[vQ];delta vS;by_cases t:e+1=h.hs.length;rw[j2 t,du (show(e:Int)=h.hs.length-1 by lia)];rfl;rw[j1 t,S6 (show ¬(e:Int)=h.hs.length-1 by lia)];rfl
 have g:∀q,((gH h.hs.length e q).map mG).length<=1000:=λq=>by rw[A6];delta gH;rw[A6,tK];exact p5 (xQ _ _) k8
 have a:∀d q,p8 (.list [d]) (.list ((gH h.hs.length e q).map mG))=U (.own (d::(gH h.hs.length e q).map mG)):=λd q=>by delta p8;have:=g q;simp only[ao,jb];rw[j2 j7];rfl
 walk_at "r";rw[bV rfl,bV rfl,bV rfl,Cf,pC];walk_at "r";have i:t2 1 (M6 (h.hs.getD e G9)):=by delta M6;split<;>exact⟨by decide,by decide,⟨by decide⟩,⟨by decide⟩⟩
 rw[show u9 (T4 h) (.int 2)=sd (.int h.fill)from rfl,show u9 (T4 h) (.int 3)=sd (.int h.take)from rfl,show u9 (T4 h) (.int 5)=sd (fr h.left)from rfl,show u9 (T4 h) (.int 0)=sd (.int h.size)from rfl,vX];walk_at "r";rw[mr i k f5];walk_at "r";rw[a,a];rfl
def V2:Wk:=⟨kK,0,0,0,0⟩
abbrev o6.wk(h:o6)(i:Nat):Wk:=h.ws.getD i V2
noncomputable def rF(h:o6)(j t:Nat):Ch:=⟨[.inr "worked",.inl (t:Int),.inl (j:Int)],⟨(0,1),(0,1),(0,1)⟩,U ((h.ws.getD j V2).most,1),[(t,outF (h.hs.getD t G9)),(2*h.hs.length+j,(1,1))]⟩
noncomputable def aT(h:o6)(j:Nat):Ch:=⟨k2 "undone" j,Xh,U ((h.ws.getD j V2).K5,1),[(2*h.hs.length+j,(1,1))]⟩
def Gj(w:Wk):Nat:=(w.last+1-w.first).toNat
def aH(h:o6)(j:Nat):List Ch:=aT h j::(A3 (Gj (h.ws.getD j V2))).map λi=>rF h j ((h.ws.getD j V2).first.toNat+i)
theorem zK(h:o6)(a:m<h.hs.length):u9 (.tuple (h.hs.map x6)) (.int (m:Int))=sd (x6 (h.hs.getD m G9)):=by
 rw[pz,dQ rfl (by simp_all),L1,oA,F2 a];rfl
theorem Gi(h:o6)(a:m<h.ws.length):u9 (.tuple (h.ws.map G0)) (.int (m:Int))=sd (G0 (h.ws.getD m V2)):=by
 rw[pz,dQ rfl (by simp_all),L1,oA,F2 a];rfl
theorem B2{f:f7->f7->Option PV}{Fa Fb:DV}{ds:Ds}{x y:PV}(b:Fa ds=U x)(a:Fb ds=U y):j8 f Fa Fb ds=f x.d y.d:=by
 delta j8
 simp_all
theorem JP(h:o6){w:Wk}(c:h.ws.getD m V2=w)(j:e<h.hs.length){l:List f7}(b:l.length<1000000)(a:Option PV):
  dC [sd (m7 h),sd (.int (m:Int)),sd (G0 w),sd (.int ((2*h.hs.length+m:Nat):Int)),U (.own l),sd (.int (e:Int)),a] =
   U (.next [sd (m7 h),sd (.int (m:Int)),sd (G0 w),sd (.int ((2*h.hs.length+m:Nat):Int)),U (.own (l++[M3 (rF h m e)])),sd (.int (e:Int)),sd (.list [mG (e,outF (h.hs.getD e G9)),mG (2*h.hs.length+m,(1,1))])]):=by
 refine k7 (m2 (pv:=.own [mG (e,outF (h.hs.getD e G9)),mG (2*h.hs.length+m,(1,1))]) ?_ rfl) ?_;show(((((((u9 (.tuple (h.hs.map x6)) (.int e)).bind λx=>U [x.d]).bind dA).bind λx=>U [x.d]).bind λl=>U (V0 e::l)).bind λl=>if l.length<=1000000 then U (PV.dat (.tuple l))else J).bind λx=>U [x.d,.tuple [.int ((2*h.hs.length+m)),.tuple [.int 1,.int 1]]]).bind (λl=>if l.length<=1000000 then U (PV.own l)else J)=_;rw[zK h j,n8,n8,show(PV.dat (x6 (h.hs.getD e G9))).d=x6 (h.hs.getD e G9)from rfl,Cf];rfl;rw[jF];refine Eq.trans (r9 (λo=>Aa o 4 _) (?_:_=U (PV.dat (M3 (rF h m e))))) (qR _ rfl b);delta rF;rw[c];rfl
theorem Uq(h:o6)(s:m<h.ws.length)(E:h.hs.length<=1000)(r:0<=(h.ws.getD m V2).first)(D:(h.ws.getD m V2).first<=(h.ws.getD m V2).last)(u:(h.ws.getD m V2).last<(h.hs.length:Int)):fG [m7 h,.int (m:Int)]=U (.own ((aH h m).map M3)):=by
 have p:Bt 60000 1000:=⟨by lia⟩;have y:F7 (.int 2) (.int h.hs.length)=sd (.int (2*h.hs.length)):=t6 (p.of_le f5) (p.of_le o9);have j:=Gi h s;generalize d:h.ws.getD m V2=w at j r u D;refine R7 rfl ?_;refine k7 (m2 j rfl) ?_;refine k7 (m2 (pv:=.dat (.int ((2*h.hs.length+m:Nat)))) ?_ rfl) ?_
 . have z:f9 A9 (f6 (j8 u9 (j4 0) (fC (.int 0))) l7) [sd (m7 h),sd (.int m),sd (G0 w),J,J,J,J]=sd (.int h.hs.length):=by
     show A9 [.tuple (h.hs.map x6)]=_;delta A9 d1;simp only[A6]
   have c:=B2 (f:=F7) (Fa:=fC (.int 2)) rfl z;have g:=B2 (f:=p8) (Fb:=j4 1) (c.trans y) rfl;assumption
 refine k7 (ds1:=[sd (m7 h),sd (.int m),sd (G0 w),sd (.int ((2*h.hs.length+m))),U (.own [M3 (aT h m)]),J,J]) ?_ ?_
 . rw[uw];have c:E2 (f6 (n9 (f6 (S5 (f6 (fC (.str "undone")) (f6 (j4 1) l7))) (f6 (fC vZ) (f6 (n9 (f6 (j8 u9 (j4 2) (fC (.int 1))) (f6 (fC (.int 1)) l7))) (f6 (E2 (f6 (n9 (f6 (j4 3) (f6 (n9 (f6 (fC (.int 1)) (f6 (fC (.int 1)) l7))) l7))) l7)) l7))))) l7) [sd (m7 h),sd (.int m),sd (G0 w),sd (.int ((2*h.hs.length+m))),J,J,J]=U (.own [M3 (aT h m)]):=by delta aT;rw[d];rfl
   exact r9 (λo=>CD o 4 _) c
 have A:∃b a,D4 (x9 jx (f6 (j8 u9 (j4 2) (fC (.int 2))) (f6 (j8 p8 (j8 u9 (j4 2) (fC (.int 3))) (fC (.int 1))) l7))) (C1 5) dC [sd (m7 h),sd (.int m),sd (G0 w),sd (.int ((2*h.hs.length+m:Nat))),U (.own [M3 (aT h m)]),J,J]
   = U (.next [sd (m7 h),sd (.int m),sd (G0 w),sd (.int ((2*h.hs.length+m:Nat))),U (.own ((aH h m).map M3)),b,a]):=by
  have g:x9 jx (f6 (j8 u9 (j4 2) (fC (.int 2))) (f6 (j8 p8 (j8 u9 (j4 2) (fC (.int 3))) (fC (.int 1))) l7)) [sd (m7 h),sd (.int m),sd (G0 w),sd (.int ((2*h.hs.length+m:Nat))),U (.own [M3 (aT h m)]),J,J]=U (Q1 w.first (Gj w)):=by
   show jx [.int w.first,.int (w.last+1)]=_;rw[BR ⟨⟨by lia,by lia⟩,by lia,by lia⟩];rfl
  delta D4;rw[g,n8];obtain⟨t,B,b,a,x⟩:=dh (gt:=C1 5) (n:=Gj w) (ds:=[sd (m7 h),sd (.int m),sd (G0 w),sd (.int ((2*h.hs.length+m:Nat))),U (.own [M3 (aT h m)]),J,J])
   (λi k=>∃b a,k=[sd (m7 h),sd (.int m),sd (G0 w),sd (.int ((2*h.hs.length+m:Nat))),U (.own ((aT h m::(A3 i).map λi=>rF h m (w.first.toNat+i)).map M3)),b,a])
   ⟨J,J,rfl⟩ (by
    rintro i k v ⟨b,a,e⟩;subst e;have:i<(w.last+1-w.first).toNat:=v;have C:w.first.toNat+i<h.hs.length:=by lia
    have q:=JP h d C (l:=(aT h m::(A3 i).map λi=>rF h m (w.first.toNat+i)).map M3) (by simp;lia) a;rw[show((w.first.toNat+i:Nat))=w.first+i by lia]at q
    exact⟨_,_,rfl,.inl q,_,_,by rw[fA,aj];simp only[v5,aj];rfl⟩)
  refine⟨b,a,?_⟩;rw[B,x];delta aH;rw[d]
 obtain⟨b,a,e⟩:=A;exact k7 e rfl
def W3(h:o6)(t:Nat):List Ch:=dF t (h.hs.getD t G9)++bh h t
def m9(h:o6):List Ch:=(A3 h.hs.length).flatMap (W3 h)++(A3 h.ws.length).flatMap (aH h)
theorem xl(t:Nat)(h:Hr):(dF t h).length<=4:=by
 delta dF cx;cases h.line with
 |none=>simp
 |some l=>simp
theorem Di{ds':Ds}{i:List f7}(h:G r=U (.own i))(a:r[m]? = U (U (.own A)))(b:A.length+i.length<=1000000)(e:r.set m (U (.own (A++i)))=ds'):vN m G r=U (.next ds'):=by delta vN;rw[h,n8,a,<-e];exact j2 b
theorem v7{g:FV}{Fa Fb:DV}{ds:Ds}{x y:PV}(b:Fa ds=U x)(a:Fb ds=U y)(e:g [x.d,y.d]=b4):f9 g (f6 Fa (f6 Fb l7)) ds=b4:=by delta f9 f6;rw[b,n8,a,n8];exact e
structure jf(h:o6):Prop where
 k:t2 20 h.kept
 l:t2 20 h.left
 n:h.hs.length<=1000
 w:h.ws.length<=100
 f:∀j,j<h.ws.length->0<=(h.ws.getD j V2).first/\(h.ws.getD j V2).first<=(h.ws.getD j V2).last/\(h.ws.getD j V2).last<(h.hs.length:Int)
theorem Sm(h:o6)(H:jf h)(a:m<h.hs.length){l:List Ch}(b:l.length<=900000):
  fK [sd (m7 h),U (.own (l.map M3)),sd (.int (m:Int)),sd (x6 (h.hs.getD m G9))]=U (.next [sd (m7 h),U (.own ((l++W3 h m).map M3)),sd (.int (m:Int)),sd (x6 (h.hs.getD m G9))]):=by
 have:=xl m (h.hs.getD m G9);refine k7 (Di (v7 rfl rfl (Wt m _)) rfl (by rw[A6,A6];lia) rfl) ?_;refine Di (v7 rfl rfl (Pf h H.k H.l a H.n)) rfl ?_ ?_;rw[Z4,A6,A6,A6];show _+3<=_;lia;delta W3;simp only[aj,Nu];rfl
theorem Sl(h:o6)(H:jf h)(b:m<h.ws.length){l:List Ch}(g:l.length<=900000)(a:Option PV):
  fJ [sd (m7 h),U (.own (l.map M3)),sd (.int (m:Int)),a]=U (.next [sd (m7 h),U (.own ((l++aH h m).map M3)),sd (.int (m:Int)),a]):=by
 obtain⟨d,e,c⟩:=H.f m b;have:=H.n;refine Di (v7 rfl rfl (Uq h b H.n d e c)) rfl ?_ ?_;rw[A6,A6];delta aH Gj;rw[ao,A6,tK];lia;simp
theorem yT(h:o6):∀i,((A3 i).flatMap (W3 h)).length<=7*i:=by
 intro l_;induction l_ with
 |zero =>
  exact B4
 |succ i ih_ =>
  have:=ih_;have:=xl i (h.hs.getD i G9);rw[fA,tO,Z4];have:(List.flatMap (W3 h) [i]).length=(dF i (h.hs.getD i G9)).length+3:=by rw[yl,yh,aX];delta W3;rw[Z4];rfl
  lia
theorem JQ(h:o6)(H:jf h){c:Nat}(a:h.hs.length<c):∀i,i<=h.ws.length->((A3 i).flatMap (aH h)).length<=c*i:=by
 intro l_;induction l_ with
 |zero =>
  intro _;exact B4
 |succ i ih_ =>
  intro hi;have:=ih_ cw;obtain⟨d,e,b⟩:=H.f i k8;rw[fA,tO,Z4,Nat.mul_succ];have:(List.flatMap (aH h) [i]).length<=c:=by
   rw[yl,yh,aX];delta aH Gj;rw[ao,A6,tK];lia
  exact yc k8 k8
theorem Jz(h:o6)(H:jf h):jl [m7 h]=U (.own ((m9 h).map M3)):=by
 have:=H.n;have:=H.w;refine R7 rfl ?_;refine k7 rfl ?_;have u:∃b a,D4 (x9 bZ (f6 (j8 u9 (j4 0) (fC (.int 0))) l7)) (cY 2 (G3 2 (G3 3 cZ))) fK [sd (m7 h),U (.own []),J,J]
   = U (.next [sd (m7 h),U (.own (((A3 h.hs.length).flatMap (W3 h)).map M3)),b,a]):=by
  delta D4;rw[show x9 bZ (f6 (j8 u9 (j4 0) (fC (.int 0))) l7) [sd (m7 h),U (.own []),J,J]=U (T8 0 (h.hs.map x6))from rfl,n8]
  obtain⟨q,r,b,a,o⟩:=eT (gt:=cY 2 (G3 2 (G3 3 cZ))) (ds:=[sd (m7 h),U (.own []),J,J])
   (λi f=>∃b a,f=[sd (m7 h),U (.own (((A3 i).flatMap (W3 h)).map M3)),b,a]) ⟨J,J,rfl⟩ (by
    rintro i d f m ⟨b,a,e⟩;subst e;rw[qI,L1]at m;have k:i<h.hs.length:=by
     rcases DY i h.hs.length with z|z
     exact z;rw[yy z]at m;cases m
    rw[F2 k]at m;have t:h.hs.getD i G9=h.hs[i]:=by simp_all
    have j:=Sm h H k (l:=(A3 i).flatMap (W3 h)) (by have:=yT h i;lia);rw[t]at j;cases m;rw[show(i:Int)=0+i from(O1 _).symm]at j
    refine⟨_,_,rfl,.inl j,sd (.int (0+i)),sd (x6 h.hs[i]),?_⟩;rw[fA,tO,yl,yh,aX])
  rw[vR,A6]at o;exact⟨b,a,by rw[r,o]⟩
 obtain⟨b,a,v⟩:=u;refine k7 v ?_;have s:∃g,D4 (x9 C9 (f6 (f9 A9 (f6 (j8 u9 (j4 0) (fC (.int 2))) l7)) l7)) (C1 2) fJ [sd (m7 h),U (.own (((A3 h.hs.length).flatMap (W3 h)).map M3)),b,a]
   = U (.next [sd (m7 h),U (.own ((m9 h).map M3)),g,a]):=by
  have p:x9 C9 (f6 (f9 A9 (f6 (j8 u9 (j4 0) (fC (.int 2))) l7)) l7) [sd (m7 h),U (.own (((A3 h.hs.length).flatMap (W3 h)).map M3)),b,a]=U (Q1 0 h.ws.length):=by
   show C9 [.int (((h.ws.map G0).length))]=_;rw[A6,O7 j7];rfl
  delta D4;rw[p,n8];obtain⟨q,r,g,o⟩:=dh (gt:=C1 2) (n:=h.ws.length) (ds:=[sd (m7 h),U (.own (((A3 h.hs.length).flatMap (W3 h)).map M3)),b,a])
   (λi f=>∃g,f=[sd (m7 h),U (.own (((A3 h.hs.length).flatMap (W3 h)++(A3 i).flatMap (aH h)).map M3)),g,a]) ⟨b,by simp⟩ (by
    rintro i f k ⟨g,e⟩;subst e;have:=yT h h.hs.length;have:=JQ h H (c:=1001) (yj k8) i cw;have j:=Sl h H k (l:=(A3 h.hs.length).flatMap (W3 h)++(A3 i).flatMap (aH h)) (by rw[Z4];lia) a;rw[show(i:Int)=0+i from(O1 _).symm]at j
    refine⟨_,_,rfl,.inl j,sd (.int (0+i)),?_⟩;rw[fA,tO,yl,yh,aX,Nu])
  exact⟨g,by rw[r,o];rfl⟩
 obtain⟨g,p⟩:=s;exact k7 p rfl
def jS(x:Hr):Q2:=(if x.need-x.Y1<0 then -(x.need-x.Y1)else x.need-x.Y1,1)
def G5(h:o6):List Q2:=h.hs.map jS++w5 h.hs.length (h.start,1)++h.ws.map λw=>(w.K5,1)
theorem BU(n:Nat)(x:f7):(w5 n [x]).flatten=w5 n x:=by simp
theorem fY{ds:Ds}{pv:PV}(h:G ds=U pv):A1 G ds=U (.ret pv):=by delta A1;rw[h];rfl
theorem Kz(h:o6)(H:jf h):jX [m7 h]=U (.own ((G5 h).map fr)):=by
 have:=H.n;have:=H.w;refine R7 rfl ?_;refine k7 (m2 (di rfl (by rw[A6];exact p5 k8 f5) (comp_map λx _=>⟨_,rfl,rfl⟩)) rfl) ?_
 have b:f9 A9 (f6 (j8 u9 (j4 0) (fC (.int 0))) l7) [sd (m7 h),sd (.list (h.hs.map λx=>fr (jS x))),J]=sd (.int h.hs.length):=by
  show A9 [.tuple (h.hs.map x6)]=_;delta A9 d1;simp
 refine k7 (m2 (pv:=.own (w5 h.hs.length (fr (h.start,1)))) ((B2 rfl b).trans ?_) rfl) ?_;show dX (.list [fr (h.start,1)]) (.int h.hs.length)=_;delta dX;simp only[ao,jb,ck];rw[j2 ⟨⟨by simp[*],p5 k8 f5⟩,by lia⟩,BU]
 . have c:p9 (M7 (j8 u9 (j4 0) (fC (.int 2)))) p6 q5 ly [sd (m7 h),sd (.list (h.hs.map λx=>fr (jS x))),sd (.list (w5 h.hs.length (fr (h.start,1))))]=U (.own (h.ws.map λw=>fr (w.K5,1))) :=
     di rfl (by rw[A6];exact ju) (comp_map λx _=>⟨_,rfl,rfl⟩)
   have a:j8 p8 (j4 1) (j4 2) [sd (m7 h),sd (.list (h.hs.map λx=>fr (jS x))),sd (.list (w5 h.hs.length (fr (h.start,1))))]=U (.own ((h.hs.map λx=>fr (jS x))++w5 h.hs.length (fr (h.start,1)))):=by refine(B2 rfl rfl).trans ?_;exact j2 (by rw[A6,qh];lia)
   refine fY ((B2 (f:=p8) a c).trans ?_);refine(j2 (by rw[Z4,A6,A6,qh];lia)).trans ?_;delta G5;simp only[aj,ei,Nz];rfl
theorem Wx(p q:Q2):Z7 (fr p) (fr q)=sd (.bool (decide (p=q))):=by
 have a:(if ah (fr p)=Uf/\ah (fr q)=Uf then U (PV.dat (.bool (!PyData.eqv (fr p) (fr q))))else J)=U (PV.dat (.bool (decide (p≠q)))):=(zd p q);show(if ah (fr p)=Uf/\ah (fr q)=Uf then U (PV.dat (.bool (U0 (fr p) (fr q))))else J)=_
 simp_all
def oJ(x:Hr):Str:=if x.Y1<=x.need then "lacked" else "spilt"
def R8(h:o6):List (List Key):=((A3 h.hs.length).map λt=>k2 (oJ (h.hs.getD t G9)) t)++((A3 h.hs.length).map λt=>k2 "level" t)++(A3 h.ws.length).map λj=>k2 "undone" j
theorem pj{b:Type}(g:b->f7)(a:b)(l:List b):l.map g=rl l.length λi=>g (l.getD i a):=by
 refine qc (by simp[rl]) λi d e=>?_
 have c:i<l.length:=by simpa using d
 simp[F2 c]
theorem sG{Fa Fb:DV}{ds:Ds}(a:Fa ds=U l)(b:Fb ds=U P):f6 Fa (f6 Fb l7) ds=U [l.d,P.d]:=by delta f6;rw[a,n8,b,n8];rfl
theorem ZP(h:o6)(t:Nat)(x:Hr)(ds:Ds):jn (sd (.int ((t:Nat):Int))::sd (x6 x)::ds)=sd (G8 (k2 (oJ x) t)):=by
 have b:hZ (o8 (j8 Z7 (f9 dN (f6 (j4 1) l7)) (n9 (f6 (fC (.int 1)) (f6 (fC (.int 1)) l7))))) (fC (.str "lacked")) (fC (.str "spilt")) (sd (.int t)::sd (x6 x)::ds)=sd (.str (oJ x)):=by
  have a:j8 Z7 (f9 dN (f6 (j4 1) l7)) (n9 (f6 (fC (.int 1)) (f6 (fC (.int 1)) l7))) (sd (.int t)::sd (x6 x)::ds)=sd (.bool (decide (M6 x=(1,1)))) :=
   (B2 (x:=.dat (fr (M6 x))) (y:=.dat (fr (1,1))) (pC x) rfl).trans (Wx _ _)
  delta hZ o8;rw[a];delta oJ M6;by_cases e:x.Y1<=x.need;rw[j2 e,j2 e];rfl;rw[j1 e,j1 e];rfl
 refine(r9 (λo=>sU o _) (sG b rfl)).trans ?_;rfl
theorem Rh(h:o6)(H:jf h):dO [m7 h]=U (.own ((R8 h).map G8)):=by
 have:=H.n;have:=H.w;refine R7 rfl ?_;refine k7 (m2 (di (items:=rl h.hs.length λt=>.tuple [.int (0+t),x6 (h.hs.getD t G9)]) ?_ (by rw[A7];exact p5 k8 f5) (K3 λt b=>⟨[.int (0+t),x6 (h.hs.getD t G9)],.dat (G8 (k2 (oJ (h.hs.getD t G9)) t)),rfl,?_,rfl⟩)) rfl) ?_;show U (T8 0 (h.hs.map x6))=_;rw[pj x6 G9,uH];rw[show(0:Int)+t=t from O1 _];exact ZP h t _ _
 have d:∀a,x9 C9 (f6 (f9 A9 (f6 (j8 u9 (j4 0) (fC (.int 0))) l7)) l7) (sd (m7 h)::a)=U (Q1 0 h.hs.length):=λa=>by
  show C9 [.int (((h.hs.map x6).length))]=_;rw[A6,O7 j7];rfl
 have f:∀a,x9 C9 (f6 (f9 A9 (f6 (j8 u9 (j4 0) (fC (.int 2))) l7)) l7) (sd (m7 h)::a)=U (Q1 0 h.ws.length):=λa=>by
  show C9 [.int (((h.ws.map G0).length))]=_;rw[A6,O7 j7];rfl
 refine k7 (m2 (di (d _) (by rw[oX];exact p5 k8 f5) (qP λt b=>⟨.dat (G8 (k2 "level" t)),?_,rfl⟩)) rfl) ?_;exact bV (by rw[show(0:Int)+t=t from O1 _];rfl)
 have e:p9 (x9 C9 (f6 (f9 A9 (f6 (j8 u9 (j4 0) (fC (.int 2))) l7)) l7)) p6 q5 jm [sd (m7 h),sd (.list (rl h.hs.length λt=>G8 (k2 (oJ (h.hs.getD t G9)) t))),sd (.list (rl h.hs.length λt=>G8 (k2 "level" t)))]=U (.own (rl h.ws.length λj=>G8 (k2 "undone" j))) :=
  di (f _) (by rw[oX];exact ju) (qP λt b=>⟨.dat (G8 (k2 "undone" t)),bV (by rw[show(0:Int)+t=t from O1 _];rfl),rfl⟩)
 have c:j8 p8 (j4 1) (j4 2) [sd (m7 h),sd (.list (rl h.hs.length λt=>G8 (k2 (oJ (h.hs.getD t G9)) t))),sd (.list (rl h.hs.length λt=>G8 (k2 "level" t)))]=U (.own ((rl h.hs.length λt=>G8 (k2 (oJ (h.hs.getD t G9)) t))++rl h.hs.length λt=>G8 (k2 "level" t))):=by refine(B2 rfl rfl).trans ?_;exact j2 (by rw[A7,A7];lia)
 refine fY ((B2 c e).trans ?_);refine(j2 (by rw[Z4,A7,A7,A7];lia)).trans ?_;delta R8;simp only[aj,ei];rfl
theorem RM(x y:Key):U0 (aP x) (aP y)=decide (x=y):=by rw[qa,decide_eq_true_iff];cases x<;>cases y<;>simp[aP,U0]
theorem Dk:∀a b:List Key,tc (a.map aP) (b.map aP)=decide (a=b)
 | [],[]=>by rfl
 | [],_::_=>by rfl
 |_::_,[]=>by rfl
 |x::a,y::b=>by rw[v5,v5,tc,RM,Dk a b];simp
def OB(k:List Key):Prop:=∀s:Str,(gm s:Key)∈k->DU s=Uf
theorem CF:∀a:List Key,OB a->fE (a.map aP)=Uf:=by
 intro l_;induction l_ with
 |nil =>
  intro _;rfl
 |cons x a ih_ =>
  intro h;rw[v5,fE,ih_ λs b=>h s (u7 _ b)]
  cases x with
  |inl i=>rfl
  |inr s=>simp[aP,iQ,h s v8]
theorem Rr:∀ks:List (List Key),(∀k∈ks,OB k)->fE ((ks.map G8).map un)=Uf:=by
 intro l_;induction l_ with
 |nil =>
  intro _;rfl
 |cons k ks ih_ =>
  intro h;rw[v5,v5,fE,ih_ λa b=>h a (u7 _ b)];show(iQ (.tuple (k.map aP))&&Uf)=Uf;rw[iQ,CF k (h k v8)];rfl
theorem RW:∀a:List Key,El (a.map aP)<=1:=by
 intro l_;induction l_ with
 |nil =>
  simp[El]
 |cons x a ih_ =>
  have:=ih_;rw[v5,El];cases x<;>simp[aP,DT]<;>omega
theorem Mx(k:List Key):∀ks:List (List Key),(((ks.map G8).map un).findIdx? λe=>U0 e (un (G8 k)))=ks.findIdx? λa=>decide (a=k):=by
 intro l_;induction l_ with
 |nil =>
  exact rfl
 |cons a ks ih_ =>
  rw[v5,v5,Nx,Nx,ih_];have:U0 (un (G8 a)) (un (G8 k))=decide (a=k):=by
   show U0 (.tuple (a.map aP)) (.tuple (k.map aP))=_;rw[U0,Dk]
  rw[this]
theorem Mm{ks:List (List Key)}(b:∀a∈ks,OB a)(l:ks.length<=1000000)(c:ks[m]? = U a9)(k:ks.Nodup):ma (.list (ks.map G8)) [G8 a9]=sd (.int (m:Int)):=by
 show zH (.list ((ks.map G8).map un)) [un (G8 a9)]=_
 delta zH;have g:(un (G8 a9)).canLay0=Uf:=by
  show iQ (.tuple (a9.map aP))=Uf;rw[iQ,CF a9 (b a9 (nL c))]
 have f:(un (G8 a9)).depth<=10:=by
  have:=RW a9;show DT (.tuple (a9.map aP))<=10;rw[DT];exact kS k8 f5
 simp only;rw[j2 ⟨Rr ks b,g,f,by rw[A6,A6];exact l⟩,Mx]
 have:(ks.findIdx? λa=>decide (a=a9))=U m:=by
  obtain⟨h,d⟩:=List.getElem?_eq_some_iff.mp c;rw[List.findIdx?_eq_some_iff_getElem];refine⟨h,du d,λi n=>?_⟩;simp only[decide_eq_true_eq];intro e;have:=(Nr k).mp (e.trans d.symm);lia
 rw[this];rfl
theorem ky{s':Str}(h:k2 B m=k2 s' e):B=s'/\m=e:=by
 injection h with h1 h2
 injection h1 with h1
 injection h2 with h2 _
 injection h2 with h2
 exact⟨h1,by lia⟩
theorem a1b{s':Str}(t t':Nat)(h:B≠s'):k2 B t≠k2 s' t':=λe=>h (ky e).1
theorem Ws(h:o6)(t:Nat):(W3 h t).Pairwise λa b=>a.k≠b.k:=by
 have e:∀l:List Ch,(l.map (·.k)).Nodup->l.Pairwise λa b=>a.k≠b.k:=λl f=>List.pairwise_map.mp f;have p:∀c:List Str,c.Nodup->(c.map λs=>k2 s t).Nodup:=λc d=>List.pairwise_map.mpr (d.imp λz=>a1b t t z)
 refine e _ ?_;delta W3 dF cx bh;cases(h.hs.getD t G9).line with
 |none=>exact p ["lacked","spilt","filled","taken","level"] t4
 |some l=>exact p ["lacked","spilt","bought","given","filled","taken","level"] t4
theorem pF(h:o6)(t:Nat){x:Ch}(a:x∈W3 h t):∃s:Str,s∈(["lacked","spilt","bought","given","filled","taken","level"]:List Str)/\x.k=k2 s t:=by
 unfold W3 dF cx bh at a;cases hl:(h.hs.getD t G9).line with
 |none =>
  rw[hl]at a;simp only[ak,aW,X3,fB,dI]at a;rcases a with rfl|rfl|rfl|rfl|rfl<;>exact⟨_,by grind,rfl⟩
 |some l =>
  rw[hl]at a;simp only[ak,aW,X3,fB,dI]at a;rcases a with rfl|rfl|rfl|rfl|rfl|rfl|rfl<;>exact⟨_,by grind,rfl⟩
theorem rG(h:o6)(j:Nat){x:Ch}(a:x∈aH h j):x.k=k2 "undone" j\/∃i,x.k=[.inr "worked",.inl (((h.ws.getD j V2).first.toNat+i:Nat):Int),.inl (j:Int)]:=by
 rcases List.mem_cons.mp a with rfl|a
 exact .inl rfl;obtain⟨i,_,rfl⟩:=mem_map.mp a;exact .inr ⟨i,rfl⟩
theorem Us(h:o6)(j:Nat):(aH h j).Pairwise λa b=>a.k≠b.k:=by
 refine List.Pairwise.cons (λx c=>?_) ?_;obtain⟨i,_,rfl⟩:=mem_map.mp c;intro e;have:=r9 iY e;simp[aT,rF,k2]at this;refine List.pairwise_map.mpr ((Ey).imp λ{a b} ne e=>?_);simp only[rF]at e;exact ne j7
theorem og(h:o6):((m9 h).map (·.k)).Nodup:=by
 refine List.pairwise_map.mpr ?_;refine List.pairwise_append.mpr ⟨?_,?_,?_⟩;refine List.pairwise_flatMap.mpr ⟨λt _=>Ws h t,(Ey).imp λ{a b} ne x c y d e=>?_⟩;obtain⟨s,_,g⟩:=pF h a c;obtain⟨m,_,f⟩:=pF h b d;rw[g,f]at e;exact ne (ky e).2
 . refine List.pairwise_flatMap.mpr ⟨λt _=>Us h t,(Ey).imp λ{a b} ne x c y d e=>?_⟩
   rcases rG h a c with g|⟨i,g⟩<;>rcases rG h b d with f|⟨n,f⟩<;>rw[g,f]at e
   exact ne (ky e).2;have:=r9 iY e;simp[k2]at this;have:=r9 iY e;simp[k2]at this;simp only[MZ]at e;exact ne j7
 . intro x c y d e;obtain⟨t,_,c⟩:=mem_flatMap.mp c;obtain⟨j,_,d⟩:=mem_flatMap.mp d;obtain⟨s,l,g⟩:=pF h t c;rcases rG h j d with f|⟨i,f⟩<;>rw[g,f]at e
   rw[(ky e).1]at l;exact absurd l t4;have:=r9 iY e;simp[k2]at this
theorem Md(t:Nat)(h:DU B=Uf):OB (k2 B t):=λz a=>by
 unfold k2 at a
 simp_all
theorem Wn(h:o6):∀k∈(m9 h).map (·.k),OB k:=by
 intro k d;obtain⟨x,a,rfl⟩:=mem_map.mp d;rcases List.mem_append.mp a with a|a
 . obtain⟨t,_,a⟩:=mem_flatMap.mp a;obtain⟨s,c,e⟩:=pF h t a;rw[e];have:∀s∈(["lacked","spilt","bought","given","filled","taken","level"]:List Str),DU s=Uf:=by decide +kernel
   exact Md t (this s c)
 . obtain⟨j,_,a⟩:=mem_flatMap.mp a;rcases rG h j a with e|⟨i,e⟩
   rw[e];exact Md j t4;rw[e];intro z b;simp only[X3,fB,dI,Sum.inr.injEq,reduceCtorEq]at b;rw[b];decide +kernel
def dS(m n:Nat)(M:Nat->Nat->f7):PV:=.ob J (.seq Uf (dW ((A3 m).map λp=>PF.own (rl n (M p)))))
def qr(M:Nat->Nat->f7)(p j:Nat)(d:f7):Nat->Nat->f7:=λa b=>if a=p/\b=j then d else M a b
theorem XM(f:Nat->f7)(d:f7):(rl m f).set e d=rl m λb=>if b=e then d else f b:=by
 refine qc (by simp[rl]) λi a c=>?_;simp only[Ez,qb,EJ];by_cases n:e=i;rw[j2 n,j2 n.symm];rw[j1 n,j1 λz=>n z.symm]
theorem Pk{j:Nat}{M:Nat->Nat->f7}{Fv:DV}{ds:Ds}(c:ds[2]? = U (U (dS m e M)))(f:N<m)(h:j<e)(d:G ds=sd (.int (N:Int)))(g:o ds=sd (.int (j:Int)))(p:Fv ds=U l):
  xp 2 G o Fv ds=U (.next (ds.set 2 (U (dS m e (qr M N j l.d))))):=by
 have k:yX 2 N ds=U (J,dW ((A3 m).map λN=>PF.own (rl e (M N))),kK,N,rl e (M N)):=by
  delta yX;rw[c];simp only[dS];rw[hV (by simp[dW];exact f),n8];simp[dW,f]
 delta xp;rw[p,d,g];show((yX 2 N ds).bind λx=>(eQ x.2.2.2.2.length j).bind λj=>U (Out.next (ds.set 2 (U (.ob x.1 (.seq Uf (x.2.1.set x.2.2.2.1 (x.2.2.1,.own (x.2.2.2.2.set j l.d)))))))))=_
 rw[k,n8];rw[A7,hV h,n8,XM];have n:(dW ((A3 m).map λN=>PF.own (rl e (M N)))).set N (kK,PF.own (rl e λb=>if b=j then l.d else M N b))=dW ((A3 m).map λa=>PF.own (rl e (qr M N j l.d a))):=by
  delta dW;refine qc t7 λi q c=>?_;simp only[Ez,qb,EJ];by_cases z:N=i;subst z;delta qr;simp;rw[j1 z];delta qr;have:∀b,(if i=N/\b=j then l.d else M i b)=M i b:=λb=>j1 λy=>z y.1.symm;simp only[this]
 rw[n];rfl
def foldM(j:Nat)(ns:List (Nat×Q2))(M:Nat->Nat->f7):Nat->Nat->f7:=ns.foldl (λM e=>qr M e.1 j (fr e.2)) M
theorem UW(f:N<e){d1 d4:Option PV}:∀(ns:List (Nat×Q2)) (M:Nat->Nat->f7) (a b:Option PV),(∀n∈ns,n.1<m) ->
  ∃c d,X7 (cY 2 (G3 5 (G3 6 cZ))) kb (ns.map mG) [b4,d1,U (dS m e M),sd (.int (N:Int)),d4,a,b]=U (.next [b4,d1,U (dS m e (foldM N ns M)),sd (.int (N:Int)),d4,c,d]):=by
 intro l_;induction l_ with
 |nil =>
  intro M a b _;exact⟨a,b,rfl⟩
 |cons n ns ih_ =>
  intro M a b h;obtain⟨c,d,k⟩:=ih_ (qr M n.1 N (fr n.2)) (sd (.int n.1)) (sd (fr n.2)) λx g=>h x (u7 _ g)
  refine⟨c,d,?_⟩;have i:kb [b4,d1,U (dS m e M),sd (.int N),d4,sd (.int n.1),sd (fr n.2)]=U (.next [b4,d1,U (dS m e (qr M n.1 N (fr n.2))),sd (.int N),d4,sd (.int n.1),sd (fr n.2)]) :=
   Pk (Fv:=j4 6) (ds:=[b4,d1,U (dS m e M),sd (.int N),d4,sd (.int n.1),sd (fr n.2)]) rfl (h n v8) f rfl rfl rfl
  rw[v5,C8 rfl i,k];rfl
def vg:Ch:=⟨[],⟨(0,1),(0,1),(0,1)⟩,J,[]⟩
def allM(C:List Ch):Nat->Nat->Nat->f7
 | 0=>λ_ _=>fr (0,1)
 |j+1=>foldM j (C.getD j vg).ns (allM C j)
theorem UX{C:List Ch}(N:m<=100000)(K:C.length<=100000)(v:∀x∈C,∀e∈x.ns,e.1<m):oD [.list (C.map M3),.int (m:Int)]=U (dS m C.length (allM C C.length)):=by
 refine R7 rfl ?_;refine k7 (ds1:=[sd (.list (C.map M3)),sd (.int m),U (dS m C.length (allM C 0)),J,J,J,J]) ?_ ?_
 . have w:iM (x9 C9 (f6 (j4 1) l7)) p6 bS [sd (.list (C.map M3)),sd (.int m),J,J,J,J,J]=U (dS m C.length (allM C 0)):=by
     have I:∀d:f7,bS (sd d::[sd (.list (C.map M3)),sd (.int m),J,J,J,J,J])=U (.own (rl C.length λ_=>fr (0,1))):=λd=>by
      have r:f9 A9 (f6 (j4 1) l7) (sd d::[sd (.list (C.map M3)),sd (.int m),J,J,J,J,J])=sd (.int C.length):=by
       show A9 [.list (C.map M3)]=_;delta A9 d1;simp
      refine(B2 rfl r).trans ?_;show dX (.list [fr (0,1)]) (.int C.length)=_;delta dX;simp only[ao,jb];rw[j2 ⟨⟨by simp[*],by simp[*]⟩,by simp[*]⟩,BU]
      congr 2
      refine qc (by simp[rl]) λi L M=>?_;simp[rl]
     have B:∀l:List Nat,ot p6 bS [sd (.list (C.map M3)),sd (.int m),J,J,J,J,J] (l.map λk=>.int (0+(k:Nat)))=U (l.map λ_=>PF.own (rl C.length λ_=>fr (0,1))):=λl=>by
      induction l with
      |nil=>rfl
      |cons a l E =>
       show((bS (sd (.int (0+a))::[sd (.list (C.map M3)),sd (.int m),J,J,J,J,J])).bind λy=>(gJ y).bind λp=>(ot p6 bS _ (l.map λk=>.int (0+(k:Nat)))).bind λl=>U (p::l))=_;rw[I,E];rfl
     delta iM;rw[show x9 C9 (f6 (j4 1) l7) [sd (.list (C.map M3)),sd (.int m),J,J,J,J,J]=U (Q1 0 m) by
      show C9 [.int m]=_
      rw[O7 j7];rfl,n8,j2 (by rw[oX];exact p5 k8 f5)]
     rw[show Q1 0 m=(A3 m).map λk=>V0 (0+(k:Nat))from rfl,B];rfl
   exact r9 (λo=>CD o 2 _) w
 have F:∃f g b c,D4 (x9 bZ (f6 (j4 0) l7)) (cY 2 (G3 3 (G3 4 cZ))) jZ [sd (.list (C.map M3)),sd (.int m),U (dS m C.length (allM C 0)),J,J,J,J]
   = U (.next [sd (.list (C.map M3)),sd (.int m),U (dS m C.length (allM C C.length)),f,g,b,c]):=by
  delta D4;rw[show x9 bZ (f6 (j4 0) l7) [sd (.list (C.map M3)),sd (.int m),U (dS m C.length (allM C 0)),J,J,J,J]=U (T8 0 (C.map M3))from rfl,n8]
  obtain⟨u,D,f,g,b,c,t⟩:=eT (gt:=cY 2 (G3 3 (G3 4 cZ))) (G:=jZ) (items:=T8 0 (C.map M3))
   (λi s=>∃f g b c,s=[sd (.list (C.map M3)),sd (.int m),U (dS m C.length (allM C i)),f,g,b,c]) ⟨J,J,J,J,rfl⟩ (by
    rintro i d s h ⟨f,g,b,c,e⟩;subst e;rw[qI,L1]at h;have j:i<C.length:=by
     rcases DY i C.length with z|z
     exact z;rw[yy z]at h;exact nE h
    rw[F2 j]at h;have q:C.getD i vg=C[i]:=by rw[oA,F2 j];rfl
    obtain⟨A,H,n⟩:=UW j C[i].ns (allM C i) b c (v C[i] (tF j));rw[<-q]at n;rw[show(i:Int)=0+i from(O1 _).symm]at n;rw[q]at n;cases h;refine⟨_,_,rfl,.inl n,sd (.int (0+i)),sd (M3 C[i]),A,H,?_⟩;show _=[_,_,U (dS m C.length (foldM i (C.getD i vg).ns (allM C i))),_,_,_,_]
    rw[q])
  rw[vR,A6]at t;exact⟨f,g,b,c,by rw[D,t]⟩
 obtain⟨f,g,b,c,r⟩:=F;exact k7 r rfl
def Co(ns:List (Nat×Q2))(o:f7)(a:Nat):f7:=ns.foldl (λo e=>if a=e.1 then fr e.2 else o) o
theorem RF(j:Nat):∀(ns:List (Nat×Q2)) (M:Nat->Nat->f7) (a b:Nat),foldM j ns M a b=if b=j then Co ns (M a b) a else M a b:=by
 intro l_;induction l_ with
 |nil =>
  intro M a b;split<;>rfl
 |cons e ns ih_ =>
  intro M a b;show foldM j ns (qr M e.1 j (fr e.2)) a b=if b=j then Co ns (if a=e.1 then fr e.2 else M a b) a else M a b;rw[ih_];delta qr;by_cases h:b=j;rw[j2 h,j2 h];by_cases c:a=e.1;rw[j2 ⟨c,h⟩,j2 c];rw[j1 (λz=>c z.1),j1 c];rw[j1 h,j1 h,j1 (λz=>h z.2)]
theorem WK(C:List Ch):∀(n a j:Nat),allM C n a j=if j<n then Co (C.getD j vg).ns (fr (0,1)) a else fr (0,1):=by
 intro l_;induction l_ with
 |zero =>
  intro a j;rfl
 |succ n ih_ =>
  intro a j;show foldM n (C.getD n vg).ns (allM C n) a j=_;rw[RF,ih_ a j];by_cases h:j=n;subst h;rw[j2 rfl,j1 (Z3 _),j2 (tI _)];rw[j1 h];by_cases b:j<n;rw[j2 b,j2 cO];rw[j1 b,j1 j7]
def ls(f:Ch->Rat):List Ch->Rat
 | []=>0
 |x::l=>f x+ls f l
theorem pq(f:Ch->Rat):∀a b,ls f (a++b)=ls f a+ls f b:=by
 intro l_;induction l_ with
 |nil =>
  intro b;show ls f b=0+ls f b;grind
 |cons x a ih_ =>
  intro b;show f x+ls f (a++b)=f x+ls f a+ls f b;rw[ih_ b];grind
theorem Zl(f:Ch->Rat)(C:List Ch):∀n,n<=C.length->l9 (λj=>f (C.getD j vg)) n=ls f (C.take n):=by
 intro l_;induction l_ with
 |zero =>
  intro _;rfl
 |succ n ih_ =>
  intro h;show l9 _ n+f (C.getD n vg)=_;rw[ih_ cw,List.take_add_one,pq,oA,F2 k8];show _=_+(f (C[n])+0);grind
theorem uk(f:Ch->Rat)(g:Nat->List Ch):∀n,ls f ((A3 n).flatMap g)=l9 (λt=>ls f (g t)) n:=by
 intro l_;induction l_ with
 |zero =>
  exact rfl
 |succ n ih_ =>
  rw[fA,tO,pq,ih_];show _+ls f (g n++[])=_;rw[aX];rfl
theorem LR(f:Ch->Rat)(g:Nat->Ch):∀n,ls f ((A3 n).map g)=l9 (λi=>f (g i)) n:=by
 intro l_;induction l_ with
 |zero =>
  exact rfl
 |succ n ih_ =>
  rw[fA,aj,pq,ih_];show _+(f (g n)+0)=_+f (g n);grind
theorem uc{g:Nat->Rat}(a b:Nat):∀n,l9 (λi=>if a=b+i then g i else 0) n=if b<=a/\a<b+n then g (a-b)else 0:=by
 intro l_;induction l_ with
 |zero =>
  rw[j1 o9];rfl
 |succ n ih_ =>
  show l9 _ n+(if a=b+n then g n else 0)=_;rw[ih_];by_cases h:a=b+n;rw[j2 h,j1 o9,j2 o9,show a-b=n by simp[*]];grind;rw[j1 h];by_cases c:b<=a/\a<b+n;rw[j2 c,j2 j7];grind;rw[j1 c,j1 j7];grind
theorem UE{g:Nat->Rat}(s:Nat):∀n,l9 (λi=>if i<=s then g i else 0) n=l9 g (if n<=s then n else s+1):=by
 intro l_;induction l_ with
 |zero =>
  rfl
 |succ n ih_ =>
  show l9 _ n+(if n<=s then g n else 0)=_;rw[ih_];by_cases h:n+1<=s;rw[j2 cw,j2 cw,j2 h];rfl;rw[j1 h];by_cases a:n=s;rw[j2 (nk k8),j2 (nk k8),a];rfl;rw[j1 j7,j1 j7];grind
def eH(ns:List (Nat×Q2))(o:Q2)(a:Nat):Q2:=ns.foldl (λo e=>if a=e.1 then e.2 else o) o
theorem VY(a:Nat):∀(ns:List (Nat×Q2)) (o:Q2),Co ns (fr o) a=fr (eH ns o a):=by
 intro l_;induction l_ with
 |nil =>
  intro _;exact rfl
 |cons e ns ih_ =>
  intro o;show Co ns (if a=e.1 then fr e.2 else fr o) a=fr (eH ns (if a=e.1 then e.2 else o) a)
  rw[<-ih_];split<;>rfl
theorem YZ(b:Nat)(q o:Q2)(p:Nat):∀n,eH ((A3 n).map λi=>(b+i,q)) o p=if b<=p/\p<b+n then q else o:=by
 intro l_;induction l_ with
 |zero =>
  rw[j1 o9];rfl
 |succ n ih_ =>
  rw[fA,aj];delta eH;rw[List.foldl_append];show(if p=b+n then q else eH _ o p)=_;rw[ih_];by_cases h:p=b+n;rw[j2 h,j2 o9];rw[j1 h];by_cases a:b<=p/\p<b+n;rw[j2 a,j2 j7];rw[j1 a,j1 j7]
theorem GR(c:m<N)(a q:Q2)(p:Nat):eH ((m,a)::gH N m q) q0 p=if p=m then a else if N+m<=p/\p<2*N then q else q0:=by
 show eH (gH N m q) (if p=m then a else q0) p=_;delta gH;rw[YZ];by_cases h:p=m;rw[j1 j7,j2 h,j2 h];rw[j1 h,j1 h];by_cases b:N+m<=p/\p<2*N;rw[j2 b,j2 j7];rw[j1 b,j1 j7]
structure Pl where
 lk:Nat->Rat
 sp:Nat->Rat
 bo:Nat->Rat
 gv:Nat->Rat
 fl:Nat->Rat
 tk:Nat->Rat
 lv:Nat->Rat
 un:Nat->Rat
 wk:Nat->Nat->Rat
variable{R:Pl}
def nR(t j:Nat):List Key:=[.inr "worked",.inl (t:Int),.inl (j:Int)]
structure Ag(h:o6)(Y:List Key->Rat)(P:Pl):Prop where
 lk:∀t,Y (k2 "lacked" t)=P.lk t
 sp:∀t,Y (k2 "spilt" t)=P.sp t
 bo:∀t,(h.hs.getD t G9).line≠J->Y (k2 "bought" t)=P.bo t/\Y (k2 "given" t)=P.gv t
 nl:∀t,(h.hs.getD t G9).line=J->P.bo t=0/\P.gv t=0
 fl:∀t,Y (k2 "filled" t)=P.fl t
 tk:∀t,Y (k2 "taken" t)=P.tk t
 lv:∀t,Y (k2 "level" t)=P.lv t
 un:∀j,Y (k2 "undone" j)=P.un j
 wk:∀t j,Y (nR t j)=P.wk t j
def iA(x:Hr):Rat:=if x.Y1<=x.need then 1 else -1
theorem bU(n:Int):val (n,1)=(n:Rat):=val_one n
theorem vo(x:Hr):val (M6 x)=iA x:=by delta M6 iA;split<;>rw[bU]<;>rfl
theorem tY(x:Hr):val (outF x) = - iA x:=by
 delta outF iA;split<;>rw[bU]
 rfl;rfl
def gP(Y:List Key->Rat)(p:Nat)(x:Ch):Rat:=val (eH x.ns q0 p)*Y x.k
theorem dE{c:Prop}[Decidable c](a b:Q2):val (if c then a else b)=if c then val a else val b:=by split<;>rfl
theorem ZK(A:Ag d X R)(H:jf d)(Y:m<d.n)(p:Nat):ls (gP X p) (W3 d m) =
  (if p=m then iA (d.hr m)*(R.lk m+R.bo m+val d.left*R.tk m-R.sp m-R.gv m-R.fl m)else 0)+(if d.n+m<=p/\p<2*d.n then R.tk m-val d.kept*R.fl m else 0)+if p=d.n+m then R.lv m else 0:=by
 have g:∀q:Q2,eH [(m,q)] q0 p=if p=m then q else q0:=λ_=>rfl;have o:eH [(d.n+m,((1,1)))] q0 p=if p=d.n+m then(1,1)else q0:=rfl
 have u:val (J9 (M6 (d.hr m)) d.left)=iA (d.hr m)*val d.left:=by rw[rH (by delta M6;split<;>decide) H.l.pos,vo]
 have s:val (eJ (0,1) d.kept) = - val d.kept:=by rw[Ah f5 H.k.pos,show val (0,1)=0 from aI];grind
 have r:ls (gP X p) (bh d m)=(if p=m then iA (d.hr m)*(val d.left*R.tk m-R.fl m)else 0)+(if d.n+m<=p/\p<2*d.n then R.tk m-val d.kept*R.fl m else 0)+if p=d.n+m then R.lv m else 0:=by
  delta bh;simp only[ls,gP];rw[GR Y,GR Y,o,A.fl,A.tk,A.lv,dE,dE,dE,dE,dE,u,s,(bU 1),tY,aI];by_cases e:p=m;rw[j2 e,j2 e,j2 e,j1 j7,j1 j7,j1 j7];grind
  . rw[j1 e,j1 e,j1 e];by_cases f:d.n+m<=p/\p<2*d.n
    . rw[j2 f,j2 f,j2 f];split<;>grind
    . rw[j1 f,j1 f,j1 f];split<;>grind
 delta W3 dF cx;rw[pq,r];cases hl:(d.hr m).line with
 |none =>
  obtain⟨j,i⟩:=A.nl m hl;simp only[aX,ls,gP];rw[g,g,A.lk,A.sp,dE,dE,vo,tY,aI,j,i];by_cases e:p=m;rw[j2 e,j2 e,j2 e,j2 e];grind;rw[j1 e,j1 e,j1 e,j1 e];grind
 |some l =>
  obtain⟨a,b,c,h⟩:=l;obtain⟨j,i⟩:=A.bo m (by rw[hl];simp);simp only[ak,aW,ls,gP];rw[g,g,A.lk,A.sp,j,i,dE,dE,vo,tY,aI];by_cases e:p=m;rw[j2 e,j2 e,j2 e,j2 e];grind;rw[j1 e,j1 e,j1 e,j1 e];grind
abbrev N2(h:o6)(j:Nat):Nat:=(h.ws.getD j V2).first.toNat
abbrev dD(h:o6)(j:Nat):Nat:=Gj (h.ws.getD j V2)
noncomputable def JR(h:o6)(P:Pl)(s:Nat):Rat:=l9 (λj=>if N2 h j<=s/\s<N2 h j+dD h j then P.wk s j else 0) h.ws.length
theorem Xd(A:Ag d X R)(H:jf d)(g:m<d.w)(p:Nat):ls (gP X p) (aH d m) =
  (if p=2*d.n+m then R.un m+l9 (λi=>R.wk (N2 d m+i) m) (dD d m)else 0)+if N2 d m<=p/\p<N2 d m+dD d m then-iA (d.hr p)*R.wk p m else 0:=by
 have:=H.f m g;show gP X p (aT d m)+ls _ _=_;have h:eH [(2*d.n+m,((1,1)))] q0 p=if p=2*d.n+m then(1,1)else q0:=rfl
 have c:=bU 1;have l:gP X p (aT d m)=if p=2*d.n+m then R.un m else 0:=by
  show val (eH [(2*d.n+m,(1,1))] q0 p)*X (k2 "undone" m)=_
  rw[h,A.un,dE,c,aI];split<;>grind
 have e:∀i,i<dD d m->gP X p (rF d m (N2 d m+i))=(if p=2*d.n+m then R.wk (N2 d m+i) m else 0)+if p=N2 d m+i then-iA (d.hr (N2 d m+i))*R.wk (N2 d m+i) m else 0:=λi k=>by
  have:i<((d.wk m).last+1-(d.wk m).first).toNat:=k;show val (if p=2*d.n+m then(1,1)else if p=N2 d m+i then outF (d.hr (N2 d m+i))else q0)*X (nR (N2 d m+i) m)=_;rw[A.wk,dE,dE,c,aI,tY];by_cases a:p=2*d.n+m;rw[j2 a,j2 a,j1 j7];grind
  . rw[j1 a,j1 a];split<;>grind
 rw[l,LR,t5 _ e,bM,uc];by_cases b:N2 d m<=p/\p<N2 d m+dD d m
 . have:p<d.n:=by
     have:p<N2 d m+((d.wk m).last+1-(d.wk m).first).toNat:=b.2;lia
   rw[t5 _ λi _=>j1 j7,kq];grind
 rw[j1 b,j1 b];by_cases a:p=2*d.n+m;rw[j2 a,j2 a,t5 _ λi _=>j2 a];grind;rw[j1 a,j1 a,t5 _ λi _=>j1 a,kq];grind
theorem yP(A:Ag d X R)(H:jf d)(p:Nat):ls (gP X p) (m9 d)=l9 (λt=>(if p=t then iA (d.hr t)*(R.lk t+R.bo t+val d.left*R.tk t-R.sp t-R.gv t-R.fl t)else 0)+(if d.n+t<=p/\p<2*d.n then R.tk t-val d.kept*R.fl t else 0)+if p=d.n+t then R.lv t else 0) d.n +
  l9 (λj=>(if p=2*d.n+j then R.un j+l9 (λi=>R.wk (N2 d j+i) j) (dD d j)else 0)+if N2 d j<=p/\p<N2 d j+dD d j then-iA (d.hr p)*R.wk p j else 0) d.w:=by delta m9;rw[pq,uk,uk,t5 _ λt b=>ZK A H b p,t5 _ λj a=>Xd A H a p]
theorem Gq{g:Nat->Rat}(a:Nat)(h:a<m):l9 (λi=>if a=i then g i else 0) m=g a:=by
 have:=uc (g:=g) a 0 m;rw[j2 o9]at this;rw[<-t5 m λi _=>by rw[pU]]at this;exact this
theorem T3{f:Nat->Rat}(h:∀i,i<m->f i=0):l9 f m=0:=by rw[t5 m h,kq]
theorem XI(A:Ag d X R)(H:jf d)(hs:m<d.n):ls (gP X m) (m9 d)=iA (d.hr m)*(R.lk m+R.bo m+val d.left*R.tk m-R.sp m-R.gv m-R.fl m-JR d R m):=by
 rw[yP A H,bM,bM,Gq m hs,
  T3 λt _=>j1 j7,T3 λt _=>j1 (O2 (J4 k8 (jV _ _))),bM,
  T3 λt _=>j1 j7]
 have:l9 (λj=>if N2 d j<=m/\m<N2 d j+dD d j then-iA (d.hr m)*R.wk m j else 0) d.w=JR d R m * - iA (d.hr m):=by delta JR;rw[cX];exact t5 _ λj _=>by split<;>grind
 grind
theorem SR(H:jf d)(a:m<d.w)(b:d.n<=e):¬(N2 d m<=e/\e<N2 d m+dD d m):=by
 have:=H.f m a;show ¬(_/\e<(d.wk m).first.toNat+((d.wk m).last+1-(d.wk m).first).toNat);lia
theorem XH(A:Ag d X R)(H:jf d)(hs:m<d.n):ls (gP X (d.n+m)) (m9 d)=R.lv m-l9 (λt=>val d.kept*R.fl t-R.tk t) (m+1):=by
 rw[yP A H,bM,bM,T3 λt _=>j1 j7,bM,
  T3 (f:=λj=>if d.n+m=2*d.n+j then R.un j+l9 (λi=>R.wk (N2 d j+i) j) (dD d j)else 0) λt _=>j1 j7,
  T3 λj b=>j1 (SR H b o9)]
 have h:l9 (λt=>if d.n+m=d.n+t then R.lv t else 0) d.n=R.lv m:=by rw[uc,j2 o9,show d.n+m-d.n=m by simp[*]]
 have a:l9 (λt=>if d.n+t<=d.n+m/\d.n+m<2*d.n then R.tk t-val d.kept*R.fl t else 0) d.n=l9 (λt=>R.tk t-val d.kept*R.fl t) (m+1):=by
  have:=UE (g:=λt=>R.tk t-val d.kept*R.fl t) m d.n;rw[j1 o9]at this;rw[<-this];refine t5 _ λt _=>?_;by_cases c:t<=m;rw[j2 c,j2 j7];rw[j1 c,j1 o9]
 rw[h,a,jw,jw];grind
theorem XG(A:Ag d X R)(H:jf d)(b:m<d.w):ls (gP X (2*d.n+m)) (m9 d)=R.un m+l9 (λi=>R.wk (N2 d m+i) m) (dD d m):=by
 rw[yP A H,T3 λt c=>by rw[j1 j7,j1 o9,j1 j7];grind,bM,
  T3 λi a=>j1 (SR H a j7),
  uc,j2 o9,show 2*d.n+m-2*d.n=m by simp[*]]
 grind
def eO(x:Hr):Int:=match x.line with
 |none=>0
 |some l=>l.1
def dZ(x:Hr):Int:=match x.line with
 |none=>0
 |some l=>l.2.2.1
noncomputable def cV(h:o6)(P:Pl):Nat->Rat
 | 0=>l9 P.lk h.hs.length
 | 1=>l9 P.un h.ws.length
 |_=>l9 (λt=>(eO (h.hs.getD t G9):Rat)*P.bo t-(dZ (h.hs.getD t G9):Rat)*P.gv t) h.hs.length-(h.rest:Rat)*P.lv (h.hs.length-1)
def qO(Y:List Key->Rat)(i:Nat)(x:Ch):Rat:=val (N7 x.c i)*Y x.k
theorem Sb(A:Ag d X R)(Y:1<=d.n)(o:m<3):ls (qO X m) (m9 d)=cV d R m:=by
 have z:=aI;have h:=bU 1;have a:∀q j,(∀c,qO X m ⟨(aT d j).k,Xh,c,(aT d j).ns⟩=q)->ls (qO X m) (aH d j)=q:=λq j e=>by
  show qO X m (aT d j)+ls _ _=_;rw[LR,T3 λt _=>?_,show qO X m (aT d j)=q from e _];grind;show val (N7 ⟨(0,1),(0,1),(0,1)⟩ m)*_=0;rw[show val (N7 ⟨(0,1),(0,1),(0,1)⟩ m)=0 by rcases(by lia:m=0\/m=1\/m=2)with rfl|rfl|rfl<;>exact aI];grind
 delta m9;rw[pq,uk,uk];rcases(by lia:m=0\/m=1\/m=2)with rfl|rfl|rfl
 . rw[T3 λj _=>a 0 j λc=>by show val (0,1)*_=0;rw[z];grind,t5 (g:=R.lk) _ λt _=>?_];show _+0=l9 R.lk _;grind
   . delta W3 dF cx bh;cases(d.hr t).line<;>simp only[ak,aW,ls,qO,N7,CG,lH,A.lk]<;>grind
 . rw[t5 _ λj _=>a (R.un j) j λc=>by show val (1,1)*X (k2 "undone" j)=_;rw[h,A.un];grind,T3 λt _=>?_];show 0+_=l9 R.un _;grind
   . delta W3 dF cx bh;cases(d.hr t).line<;>simp only[ak,aW,ls,qO,N7,CG,lH]<;>grind
 . rw[T3 λj _=>a 0 j λc=>by show val (0,1)*_=0;rw[z];grind,
     t5 (g:=λt=>((eO (d.hr t))*R.bo t-(dZ (d.hr t))*R.gv t)-(if t+1=d.n then d.rest*R.lv t else 0)) _ λt _=>?_,jw]
   . have:l9 (λt=>if t+1=d.n then d.rest*R.lv t else 0) d.n=d.rest*R.lv (d.n-1):=by
       rw[<-Gq (g:=λt=>d.rest*R.lv t) (d.n-1) (show d.n-1<d.n by omega)];refine t5 _ λt _=>?_;by_cases c:t+1=d.n;rw[j2 c,j2 j7];rw[j1 c,j1 j7]
     show _+0=_-_;grind
   . have:((-vS d t:Int))*R.lv t = - if t+1=d.n then d.rest*R.lv t else 0:=by
       delta vS;split;rw[Em];grind;show 0*_=_;grind
     delta W3 dF cx bh eO dZ;cases hl:(d.hr t).line with
     |none =>
      obtain⟨f,b⟩:=A.nl t hl;simp only[ak,aW,ls,qO,N7,CG,lH,bU,A.lv];grind
     |some l =>
      obtain⟨f,b⟩:=A.bo t (by rw[hl];simp);simp only[ak,aW,ls,qO,N7,CG,lH,bU,A.lv];grind
structure C5(h:o6):Prop where
 n1:1<=h.hs.length
 n4:h.hs.length<=4
 w2:h.ws.length<=2
 k:t2 4 h.kept
 k0:0<h.kept.1/\h.kept.1<=h.kept.2
 l:t2 4 h.left
 l0:0<h.left.1/\h.left.1<=h.left.2
 st:0<=h.start/\h.start<=h.size/\h.size<=1000000
 fl:0<=h.fill/\h.fill<=1000000
 tk:0<=h.take/\h.take<=1000000
 re:0<=h.rest/\h.rest<=1000
 hr:∀t,t<h.hs.length->0<=(h.hs.getD t G9).Y1/\(h.hs.getD t G9).Y1<=1000000/\0<=(h.hs.getD t G9).need/\(h.hs.getD t G9).need<=1000000
 ln:∀t a b c d,t<h.hs.length->(h.hs.getD t G9).line=U (a,b,c,d)->(-1000000<=a/\a<=1000000)/\(0<=b/\b<=1000000)/\(-1000000<=c/\c<=1000000)/\0<=d/\d<=1000000
 wk:∀j,j<h.ws.length->0<=(h.ws.getD j V2).K5/\(h.ws.getD j V2).K5<=1000000/\0<=(h.ws.getD j V2).most/\(h.ws.getD j V2).most<=1000000
 f:∀j,j<h.ws.length->0<=(h.ws.getD j V2).first/\(h.ws.getD j V2).first<=(h.ws.getD j V2).last/\(h.ws.getD j V2).last<(h.hs.length:Int)
abbrev hD(h:o6):Int:=h.kept.2*h.left.2
abbrev hM(h:o6):Nat:=2*h.hs.length+h.ws.length
abbrev CB(q:Q2):Prop:=q.2=1/\-1000000<=q.1/\q.1<=1000000
structure a2D(h:o6)(x:Ch):Prop where
 ns:∀e∈x.ns,e.1<hM h/\t2 10 e.2/\e.2.2∣hD h
 tp:∀q,x.t=U q->q.2=1/\0<=q.1/\q.1<=1000000
 c:∀t,t<3->CB (N7 x.c t)
 fr:x.t=J->x.c=jr/\∃t,x.k=k2 "spilt" t
theorem C5.s{h:o6}(H:C5 h):jf h:=⟨H.k.mono f5,H.l.mono f5,by have:=H.n4;exact ju,by have:=H.w2;exact ju,H.f⟩
theorem wx{P:Q2->Prop}{x:Tr}(f:P x.a)(g:P x.b)(d:P x.c):∀t,t<3->P (N7 x t):=λt e=>by rcases(by lia:t=0\/t=1\/t=2)with rfl|rfl|rfl<;>assumption
theorem qQ(H:C5 d):∀x∈m9 d,a2D d x:=by
 have one:1∣hD d:=⟨hD d,by simp[*]⟩
 have B:∀y:Hr,(t2 10 (M6 y)/\(M6 y).2∣hD d)/\t2 10 (outF y)/\(outF y).2∣hD d:=λy=>by delta M6 outF;split<;>exact⟨⟨⟨by decide,by decide,⟨by decide⟩,⟨by decide⟩⟩,one⟩,⟨by decide,by decide,⟨by decide⟩,⟨by decide⟩⟩,one⟩
 have o:CB (0,1):=by decide
 have O:CB (1,1):=by decide
 have C:∀t,t<3->CB (N7 ⟨(0,1),(0,1),(0,1)⟩ t):=wx o o o;have I:∀p:Int,-1000000<=p->p<=1000000->∀t,t<3->CB (N7 (lH p) t):=λp m L=>wx o o ⟨rfl,m,L⟩
 have s:∀{v:Int},0<=v->v<=1000000->∀q:Q2,U (v,1)=U q->q.2=1/\0<=q.1/\q.1<=1000000:=λm L q e=>by cases e;exact⟨rfl,m,L⟩
 have F:t2 10 ((1,1))/\((1,1)).2∣hD d:=⟨⟨by decide,by decide,⟨by decide⟩,⟨by decide⟩⟩,one⟩
 have m:∀{p:Nat} {q:Q2},p<hM d->t2 10 q/\q.2∣hD d->∀e∈[(p,q)],e.1<hM d/\t2 10 e.2/\e.2.2∣hD d:=λW hq e r=>by rw[mem_singleton.mp r];exact⟨W,hq⟩
 have u:∀{t:Nat} {a q:Q2},t<d.n->t2 10 a/\a.2∣hD d->t2 10 q/\q.2∣hD d->∀e∈(t,a)::gH d.n t q,e.1<hM d/\t2 10 e.2/\e.2.2∣hD d:=λA T hq e r=>by
  rcases List.mem_cons.mp r with rfl|r
  exact⟨by show _<_;lia,T⟩;obtain⟨i,G,rfl⟩:=mem_map.mp r;have:=mem_range.mp G;exact⟨by show _<_;lia,hq⟩
 have:=H.k.pos;have:=H.l.pos;have mk:t2 10 (eJ (0,1) d.kept)/\(eJ (0,1) d.kept).2∣hD d:=by
  have w:0<1*d.kept.2:=by lia
  refine⟨eN w ?_ ?_,iZ (W0 w).2.2.2 ⟨d.left.2,by rw[Z1]⟩⟩;exact(H.k.bt.mono f5).of_le (by show(0*d.kept.2-d.kept.1*1).natAbs<=_;simp[*]);exact(H.k.bb.mono f5).of_le (by show(1*d.kept.2).natAbs<=_;simp[*])
 have S:∀y:Hr,t2 10 (J9 (M6 y) d.left)/\(J9 (M6 y) d.left).2∣hD d:=λy=>by
  have M:(M6 y).2=1:=by delta M6;split<;>rfl
  have w:0<(M6 y).2*d.left.2:=by rw[M];simp[*]
  refine⟨eN w ((H.l.bt.mono f5).of_le (by delta M6;split<;>simp)) ?_,iZ (W0 w).2.2.2 ⟨d.kept.2,by rw[M,Z1,F1]⟩⟩;exact(H.l.bb.mono f5).of_le (by rw[M];lia)
 intro x g;rcases List.mem_append.mp g with g|g
 . obtain⟨t,A,g⟩:=mem_flatMap.mp g;have A:=mem_range.mp A;obtain⟨s0,s1,Q,Y⟩:=H.hr t A;have E:t<hM d:=by lia
   rcases List.mem_append.mp g with g|g
   . rcases List.mem_append.mp g with g|g
     . simp only[X3,fB,dI]at g;rcases g with rfl|rfl
       exact⟨m E (B _).1,s Q Y,wx O o o,λz=>by exact nS z⟩;exact⟨m E (B _).2,(λq z=>by exact nE z),C,λ_=>⟨rfl,t,rfl⟩⟩
     . unfold cx at g;cases hl:(d.hr t).line with
       |none=>rw[hl]at g;cases g
       |some l =>
        obtain⟨a,b,c,h⟩:=l;obtain⟨⟨N,K⟩,⟨w,X⟩,⟨V,c1⟩,R,P⟩:=H.ln t a b c h A hl;rw[hl]at g;simp only[X3,fB,dI]at g;rcases g with rfl|rfl
        exact⟨m E (B _).1,s w X,I a N K,λz=>by exact nS z⟩;exact⟨m E (B _).2,s R P,I (-c) j7 j7,λz=>by exact nS z⟩
   . unfold bh at g;have:=H.re;simp only[X3,fB,dI]at g;rcases g with rfl|rfl|rfl
     exact⟨u A (B _).2 mk,s H.fl.1 H.fl.2,C,λz=>by exact nS z⟩;exact⟨u A (S _) F,s H.tk.1 H.tk.2,C,λz=>by exact nS z⟩;exact⟨m j7 F,s (Q8 H.st.1 H.st.2.1) H.st.2.2,I _ (by delta vS;split<;>lia) (by delta vS;split<;>lia),λz=>by exact nS z⟩
 . obtain⟨j,D,g⟩:=mem_flatMap.mp g;have D:=mem_range.mp D;obtain⟨N,K,m0,m1⟩:=H.wk j D;obtain⟨f0,Z,f2⟩:=H.f j D;rcases List.mem_cons.mp g with rfl|g
   exact⟨m j7 F,s N K,wx o O o,λz=>by exact nS z⟩
   . obtain⟨i,G,rfl⟩:=mem_map.mp g;have G:i<((d.wk j).last+1-(d.wk j).first).toNat:=mem_range.mp G;refine⟨λe r=>?_,s m0 m1,C,λz=>by exact nS z⟩
     unfold rF at r;simp only[X3,fB,dI]at r;rcases r with rfl|rfl
     exact⟨by show _<_;lia,(B _).2⟩;exact⟨by show _<_;lia,F⟩
abbrev aB(h:o6):List (List Key):=(m9 h).map (·.k)
abbrev bB(h:o6)(j:Nat):Ch:=(m9 h).getD j vg
def jv(h:o6)(k:List Key):Nat:=(aB h).findIdx λa=>decide (a=k)
noncomputable def o1(h:o6):B3:=⟨hM h,(m9 h).length,λj=>(bB h j).c,λp j=>eH (bB h j).ns q0 p,λp=>(G5 h).getD p q0,λj=>(bB h j).t,λk=>jv h ((R8 h).getD k [])⟩
theorem fo(a:m<(m9 d).length):bB d m∈m9 d:=by simp_all
theorem Za(a:Nat):∀(ns:List (Nat×Q2)) (o:Q2),eH ns o a=o\/∃e∈ns,eH ns o a=e.2:=by
 intro l_;induction l_ with
 |nil =>
  intro _;exact .inl rfl
 |cons e ns ih_ =>
  intro o;rcases ih_ (if a=e.1 then e.2 else o)with z|⟨b,c,d⟩
  show eH ns (if a=e.1 then e.2 else o) a=o\/∃b∈e::ns,eH ns (if a=e.1 then e.2 else o) a=b.2;rw[z];split;exact .inr ⟨e,v8,rfl⟩;exact .inl rfl;exact .inr ⟨b,u7 _ c,d⟩
theorem getD_at{b:Type}{l:List b}{a d:b}(h:l[m]? = U a):l.getD m d=a:=by simp_all
theorem a1c(a:m<d.hs.length):d.hs[m]? = U (d.hs.getD m G9):=by simp_all
theorem SQ(a:m<d.ws.length):d.ws[m]? = U (d.ws.getD m V2):=by simp_all
theorem Tp(hs:m<d.n):(G5 d).getD m q0=jS (d.hr m):=by
 refine getD_at ?_;delta G5;rw[iU (by simp;exact Ex _ k8),iU (by simpa using hs),L1,a1c hs];rfl
theorem To(hs:m<d.n):(G5 d).getD (d.n+m) q0=(d.start,1):=by
 refine getD_at ?_;delta G5;rw[iU (by simp;omega),oB t7];simp[hs]
theorem Tn(a:m<d.w):(G5 d).getD (2*d.n+m) q0=((d.wk m).K5,1):=by
 refine getD_at ?_;delta G5;rw[oB (by simp;lia),Z4,A6,qh,show 2*d.n+m-(d.n+d.n)=m by omega,L1,SQ a];rfl
theorem yW(c:m<hM d):m<d.n\/(∃s,s<d.n/\m=d.n+s)\/∃j,j<d.w/\m=2*d.n+j:=by
 by_cases a:m<d.n;exact .inl a;by_cases b:m<2*d.n;exact .inr (.inl ⟨m-d.n,by lia,by simp_all⟩);exact .inr (.inr ⟨m-2*d.n,by lia,by simp_all⟩)
theorem Bl(H:C5 d)(c:m<hM d):((G5 d).getD m q0).2=1/\0<=((G5 d).getD m q0).1/\((G5 d).getD m q0).1<=1000000:=by
 rcases yW c with a|⟨s,a,rfl⟩|⟨j,b,rfl⟩
 . rw[Tp a];have:=H.hr m a;delta jS;refine⟨rfl,?_,?_⟩<;>dsimp only<;>split<;>lia
 rw[To a];have:=H.st;exact⟨rfl,by simp[*],by lia⟩;rw[Tn b];have:=H.wk j b;exact⟨rfl,by simp only[*];done,by simp only[*];done⟩
theorem vO(H:C5 d){k:Nat}(i:k<hM d):∃x∈m9 d,x.k=(R8 d).getD k []/\x.ns=[(k,(1,1))]/\∀q,x.t=U q->((G5 d).getD k q0).1<=q.1:=by
 have b:∀{t:Nat},t<d.n->∀{x:Ch},x∈W3 d t->x∈m9 d:=λf x g=>P9 _ (mem_flatMap.mpr ⟨_,mem_range.mpr f,g⟩)
 rcases yW i with a|⟨s,a,rfl⟩|⟨j,h,rfl⟩
 . have e:(R8 d).getD k []=k2 (oJ (d.hr k)) k:=by
     refine getD_at ?_;delta R8;rw[iU (by simp;exact Ex _ k8),iU (by simpa using a),L1,nI a];rfl
   rw[e,Tp a];delta oJ jS;have:=H.hr k a;by_cases c:(d.hr k).Y1<=(d.hr k).need
   . rw[j2 c];refine⟨_,b a (P9 _ (P9 _ v8)),rfl,?_,λq z=>?_⟩;show[(k,M6 _)]=_;delta M6;rw[j2 c]
     . cases z;split<;>lia
   rw[j1 c];refine⟨_,b a (P9 _ (P9 _ (u7 _ v8))),rfl,?_,λq z=>by exact nE z⟩;delta outF;rw[j1 c]
 . have e:(R8 d).getD (d.n+s) []=k2 "level" s:=by
     refine getD_at ?_;delta R8;rw[iU (by simp;omega),oB t7];simp[a]
   rw[e,To a];refine⟨_,b a (F4 _ (u7 _ (u7 _ v8))),rfl,rfl,λq z=>?_⟩;cases z;exact H.st.2.1
 . have e:(R8 d).getD (2*d.n+j) []=k2 "undone" j:=by
     refine getD_at ?_;delta R8;rw[oB (by simp;lia)];simp only[Z4,A6,tK];rw[show 2*d.n+j-(d.n+d.n)=j by lia,L1,nI h];rfl
   rw[e,Tn h];refine⟨aT d j,F4 _ (mem_flatMap.mpr ⟨j,mem_range.mpr h,v8⟩),rfl,rfl,λq z=>?_⟩;cases z;exact pR _
theorem VZ{d:Type}{l:List d}(n:l.Nodup)(a:m<l.length)(b:e<l.length)(i:l[m]=l[e]):m=e:=by
 have p:=List.pairwise_iff_getElem.mp n;rcases Nat.lt_trichotomy m e with c|c|c
 exact absurd i (p m e a b c);exact c;exact absurd i.symm (p e m b a c)
theorem sE(a:m<(m9 d).length):bB d m=(m9 d)[m]:=by simp_all
theorem CI(c:a9∈aB d):jv d a9<(m9 d).length/\(bB d (jv d a9)).k=a9:=by
 have b:jv d a9<(aB d).length:=List.findIdx_lt_length_of_exists ⟨a9,c,by simp⟩
 have a:jv d a9<(m9 d).length:=by simpa using b
 refine⟨a,?_⟩;have:=nA (List.findIdx_getElem (w:=b));rw[sE a];exact(qb (l:=m9 d) (·.k)).symm.trans this
theorem Me(a:m<(m9 d).length):jv d (bB d m).k=m:=by
 have c:(bB d m).k∈aB d:=mem_map.mpr ⟨_,fo a,rfl⟩;obtain⟨b,h⟩:=CI c;refine VZ (og d) (by simpa using b) (by simpa using a) ?_;rw[qb,qb,<-sE b,<-sE a];exact h
theorem xH{x:Ch}(b:x∈m9 d):jv d x.k<(m9 d).length/\bB d (jv d x.k)=x:=by obtain⟨i,a,rfl⟩:=List.mem_iff_getElem.mp b;rw[<-sE a,Me a];exact⟨a,rfl⟩
open Sx (sN pN sm det B6 dot)
theorem wm(h:FD D M u)(hd:u.2∣E)(a:0<E):((wh u E).natAbs:Int)<=M*E:=by
 have p:=h.pos;have d:((wh u E).natAbs)*u.2=u.1.natAbs*E:=by
  have:=r9 Int.natAbs (wj h.pos hd);rw[cj,cj]at this;have c:(((wh u E).natAbs*u.2.natAbs:Nat):Int)=((u.1.natAbs*E.natAbs:Nat)):=by rw[this]
  rw[Int.natCast_mul,Int.natCast_mul,nJ (O3 p),nJ (O3 a)]at c;exact c
 have:u.2*((wh u E).natAbs)<=u.2*(M*E):=by rw[F1 u.2,d];refine Q8 (lM h.se (O3 a)) (Int.le_of_eq ?_);rw[F1 M,L9]
 exact yD this p
theorem DE(h:(D.natAbs:Int)<=M)(b:Bt m M):Bt m D:=b.of_le j7
section
variable{T:Sx.Tb}
theorem Small.bits(b:Small g S e)(K:Sx.Ok (g.pb S) T){β ω:Nat}(y:∀p,p<g.m->Bt β (S p))(w:∀j v,j<g.n->g.lim j=U v->Bt β v)(D:∀t j,t<3->j<g.n->Bt ω (g.wt t j))(Q:1<=β):
  Bt (e*g.m+1) T.size/\(∀a k,a<g.n->k<g.m->Bt (e*g.m+e+1) (T.m6 (g.pb S) a k))/\(∀k,k<g.m->Bt (e*g.m+(β+e+22)+1) (T.am (g.pb S) k))/\∀t q,t<3->q<g.m->Bt (ω+(e*g.m+12)+10) (T.pr t q):=by
 have L:=K.C7;have l:∀k q,k<g.m->q<g.m->Bt (e*g.m+12) (T.inv k q):=λk q c hq=>by
  have h:Sx.sN g.m (λr=>(Sx.unit q r).natAbs)<2 ^ (1+10):=wC b.m1 λi _=>by delta Sx.unit;split<;>decide
  have:=b.det L c (bF h);rw[Sx.qJ _ hq]at this;exact this
 have rt:∀p,p<g.m->Bt (β+e+12) (T.rt p):=λp f=>by
  rw[K.rt p f];have Q:Bt (β+(e+1)+10) (Sx.fsum (g.pb S) T λj=>(g.pb S).A j p):=Bt.sm b.n1 λj o=>by
   split
   . refine Bt.mul ?_ (b.col o f);show Bt β ((g.lim j).getD 0)
     cases hl':g.lim j with
     |none=>exact Bt.mono ⟨by decide⟩ Q
     |some v=>exact w j v o hl'
   exact Bt.mono (m:=1) ⟨by decide⟩ (Nat.succ_pos _)
  exact((y p f).mono j7).sub (Q.mono y4)
 refine⟨?_,λa k B c=>b.det L c (b.cn a B),λk c=>?_,λt q u hq=>?_⟩;obtain⟨s,Q,x,E⟩:=L.sg;exact Bt.sign Q x (zX (d:=0) (k:=g.m) (λi C _=>b.cn _ (L.bn i C)) (λz=>by simp_all));have h:=wC b.m1 λp f=>(rt p f).lt;exact b.det L c (bF h);rw[L.pr t q hq];exact Bt.sm b.m1 λk c=>(D t _ u (L.bn k c)).mul (l k q c hq)
end
theorem sx(H:C5 d):0<hD d/\hD d<=225:=by have:=H.k.bb.lt;have:=H.l.bb.lt;have h:=H.l.pos;refine⟨F0 H.k.pos h,?_⟩;exact Q8 (tw (show d.kept.2<=15 by lia) (show d.left.2<=15 by omega) bx f5) f5
theorem wF(H:C5 d)(a:e<(m9 d).length):t2 10 ((o1 d).row m e)/\((o1 d).row m e).2∣hD d:=by
 rcases Za m (bB d e).ns q0 with z|⟨h,b,z⟩
 show t2 10 (eH (bB d e).ns q0 m)/\(eH (bB d e).ns q0 m).2∣_;rw[z];exact⟨pI f5,⟨hD d,by show _=1*_;simp[*]⟩⟩;show t2 10 (eH (bB d e).ns q0 m)/\(eH (bB d e).ns q0 m).2∣_;rw[z];exact((qQ H _ (fo a)).ns h b).2
theorem uL{b:Int}(a:Bt m b)(d : -b<=D)(c:D<=b):Bt m D:=a.of_le j7
theorem CU(f:1<=m)(d:Bt m D)(h:u.2=1)(g : -D<=u.1)(e:u.1<=D):t2 m u:=by obtain⟨a,c⟩:=u;subst h;exact qB (uL d g e) f
theorem wy(H:C5 d)(h:m<(m9 d).length)(hq:(bB d m).t=U u):u.2=1/\0<=u.1/\u.1<=1000000/\t2 20 u:=by obtain⟨a,b,c⟩:=(qQ H _ (fo h)).tp u hq;exact⟨a,b,c,CU f5 ⟨by decide⟩ a j7 c⟩
theorem iG(H:C5 d):A4 (o1 d) (hD d) 1 (hD d):=by
 obtain⟨l,y⟩:=sx H;have:=H.n4;have:=H.w2;have g:Bt 900 (hD d):=uL ⟨by decide⟩ j7 y;have:(o1 d).m=2*d.n+d.w:=rfl;refine⟨by lia,?_,l,by decide,l,g,⟨by decide⟩,g,λp j i f=>?_,λt j u f=>?_,λp i=>?_,λj q f hq=>?_,λk r=>?_⟩;show(m9 d).length<=1000;delta m9;rw[Z4];have:=yT d d.n;have:=JQ d H.s (c:=5) (yj k8) d.w y4;lia;exact⟨(wF H f).1.mono f5,(wF H f).2⟩;obtain⟨a,b,c⟩:=(qQ H _ (fo f)).c t u;exact⟨CU f5 ⟨by decide⟩ a b c,⟨1,by show _=_*1;rw[show(N7 ((o1 d).cost j) t).2=1 from a];rfl⟩⟩;obtain⟨a,b,c⟩:=Bl H i;exact⟨CU f5 ⟨by decide⟩ a (Q8 f5 b) c,⟨hD d,by rw[show((o1 d).rg p).2=1 from a];simp[*]⟩⟩;obtain⟨a,b,c,h⟩:=wy H f hq;exact⟨h.mono f5,λs o=>by simp_all⟩;obtain⟨x,v,e,_⟩:=vO H r;show jv d ((R8 d).getD k [])<_;rw[<-e];exact(xH v).1
theorem a1g(h:t2 m u)(hd:u.2∣D):FD D (2 ^ m) u:=by
 refine⟨h.pos,h.low,hd,?_⟩;have:=h.bt.lt;have:=h.pos;have:(2 ^ m)*1<=2 ^ m*u.2:=fF k8 (O3 (Int.pow_pos f5));lia
theorem XD{c:Nat}:∀(m:Nat) (f:Nat->Nat),(∀i,i<m->f i<=c)->Sx.sN m f<=m*c:=by
 intro l_;induction l_ with
 |zero =>
  intro f _;rw[Sx.sN];exact gs _
 |succ m ih_ =>
  intro f hf;have:=ih_ f λi a=>hf i cO;have:=hf m o9;rw[Sx.sN,Nat.add_mul];lia
theorem xk(H:C5 d):je (o1 d) 22:=by
 have O:=iG H;obtain⟨C,D⟩:=sx H;have:=H.n4;have:=H.w2;have:(o1 d).m=2*d.n+d.w:=rfl;have s:∀k,k<(o1 d).m->∃x∈m9 d,bB d ((o1 d).fs k)=x/\x.ns=[(k,(1,1))]/\∀q,x.t=U q->((G5 d).getD k q0).1<=q.1:=λk h=>by
  obtain⟨x,g,e,a,b⟩:=vO H h;refine⟨x,g,?_,a,b⟩;show bB d (jv d ((R8 d).getD k []))=x;rw[<-e];exact(xH g).2
 have o:∀k p,k<(o1 d).m->p<(o1 d).m->(o1 d).row p ((o1 d).fs k)=if p=k then(1,1)else q0:=λk p h i=>by
  obtain⟨x,g,e,a,b⟩:=s k h;show eH (bB d ((o1 d).fs k)).ns q0 p=_;rw[e,a];rfl
 refine⟨o,λk l h B e=>?_,λp i=>(Bl H i).2.1,λj q f hq=>(wy H f hq).2.1,λk q h hq=>?_,λj f=>?_,by lia,by decide⟩;have u:=o k k h h;have r:=o l k B h;rw[j2 rfl,e]at u;rw[u]at r;by_cases c:k=l;exact c;rw[j1 c]at r;cases r
 . obtain⟨x,g,e,a,b⟩:=s k h;have:=wy H (O.fs k h) hq;have:=Bl H h;have A:x.t=U q:=by rw[<-e];exact hq
   have:=b q A;show((G5 d).getD k q0).1*q.2<=q.1*((G5 d).getD k q0).2
   simp_all
 obtain⟨v,y,_,z⟩:=O.sc f;have:=fz C y;refine p5 (XD (c:=230400) _ _ λp i=>?_) ?_;have:=wm (a1g (wF H f).1 (wF H f).2) (z p i) v;lia;have:(o1 d).m*230400<=10*230400:=nK _ j7;exact p5 k8 f5
theorem zJ(H:C5 d){T:Sx.Tb}(K:Sx.Ok (o1 d).pb T):Bt 221 T.size/\(∀k,k<(o1 d).m->Bt 293 (T.am (o1 d).pb k))/\∀t q,t<3->q<(o1 d).m->Bt 270 (T.pr t q):=by
 have O:=iG H;obtain⟨z,R⟩:=sx H;have:=H.n4;have:=H.w2;obtain⟨u1,u2,Q,C,E⟩:=O.un;have:=fz z u2;have:(o1 d).m=2*d.n+d.w:=rfl;have d:=(B3.side O (xk H)).s.bits K (β:=28) (ω:=28) (λp i=>by
   obtain⟨a,b,c⟩:=Bl H i;have f:FD 1 1000000 ((o1 d).rg p):=⟨by show 0<((G5 d).getD p q0).2;simp_all,(O.rg p i).1.low,⟨1,by show 1=((G5 d).getD p q0).2*1;lia⟩,by show(((G5 d).getD p q0).1.natAbs)<=_*((G5 d).getD p q0).2;lia⟩;have:=wm f (C p i) u1;refine DE (M:=225000000) ?_ ⟨by decide⟩;show((wh ((o1 d).rg p) (o1 d).un).natAbs:Int)<=_
   lia) (λj v e F=>by
   obtain⟨r,y,rfl⟩:=Option.map_eq_some_iff.mp F;have G:=E j r e y;obtain⟨q,hq,rfl⟩:=Option.map_eq_some_iff.mp y;obtain⟨x,o,_,_⟩:=O.sc e;obtain⟨a,b,c,h⟩:=wy H e hq;have u:FD (hD d) 1 (1,(o1 d).sc j):=⟨x,by simp,o,by show((1:Int).natAbs)<=1*(o1 d).sc j;lia⟩;have l:FD 1 1000000 q:=⟨by simp[*],h.low,⟨1,by simp[*]⟩,by lia⟩;have:=wm (l.times u) G u1;refine DE (M:=225000000) ?_ ⟨by decide⟩
   lia) (λt j g e=>by
   obtain⟨x,o,_,_⟩:=O.sc e;have:=fz z o;obtain⟨m1,L,_,B⟩:=O.mu g;have:=fz f5 L;obtain⟨a,b,c⟩:=(qQ H _ (fo e)).c t g;have l:FD 1 1000000 (N7 ((o1 d).cost j) t):=⟨by show 0<(N7 (bB d j).c t).2;simp_all,(O.cost t j g e).1.low,⟨1,by show 1=(N7 (bB d j).c t).2*1;lia⟩,by show((N7 (bB d j).c t).1.natAbs)<=_*(N7 (bB d j).c t).2;lia⟩;have u:FD 1 225 ((o1 d).sc j,1):=⟨by simp,by simp,gu _,by show(((o1 d).sc j).natAbs:Int)<=225*1;lia⟩;refine DE (M:=225000000) ?_ ⟨by decide⟩;show((wh ((o1 d).wq t j) ((o1 d).mu t)).natAbs:Int)<=_;have:((wh ((o1 d).wq t j) ((o1 d).mu t)).natAbs)<=1000000*225*(o1 d).mu t:=(wm (l.times u) (B j e) m1)
   lia) f5
 obtain⟨N,P,I,D⟩:=d;have:(o1 ‹o6›).E9.m=(o1 ‹o6›).m:=rfl;exact⟨N.mono j7,λk A=>(I k A).mono j7,λt q g hq=>(D t q g hq).mono j7⟩
def q2(x:Rat):Q2:=(x.num,(x.den:Int))
def qd(x:Rat):f7:=fr (q2 x)
theorem X6(x:Rat):0<(q2 x).2:=by have:=x.den_pos;show(0:Int)<x.den;simp[*]
theorem XY(x:Rat):u4 (q2 x).1 (q2 x).2=1:=x.reduced
theorem V3(x:Rat):val (q2 x)=x:=by
 show x.num/((x.den:Int))=x;rw[<-Rat.divInt_eq_div,Rat.num_divInt_den]
theorem yZ(h:0<z):0<z.num:=by
 have:=(Rat.lt_iff 0 z).mp h
 simp_all
theorem MP(i:Int)(h:i.natAbs<=m):Bt m i:=⟨J4 Nat.lt_two_pow_self (yx f5 h)⟩
theorem CV(a:0<u.2)(b:u4 u.1 u.2=1):t2 (u.1.natAbs+u.2.natAbs) u:=⟨a,b,MP _ o9,MP _ o9⟩
theorem eF{q:Q2}(a:0<q.2)(b:u4 q.1 q.2=1):q=q2 (val q):=val_inj (CV a b) (CV (X6 _) (XY _)) (V3 _).symm
theorem XX{t:Int}(a:0<D):w9 t D=q2 ((t:Rat)/(D:Rat)):=by obtain⟨d,c,_,_⟩:=W0 a;rw[eF d c,ff a]
theorem GC(x y:Rat):bu (q2 x) (q2 y)=q2 (x+y):=by
 obtain⟨b,a,_,_⟩:=W0 (F0 (X6 x) (X6 y));have:=eF (q:=bu (q2 x) (q2 y)) b a
 rwa [ON (X6 x) (X6 y),V3,V3]at this
theorem PB(x y:Rat):eJ (q2 x) (q2 y)=q2 (x-y):=by
 obtain⟨b,a,_,_⟩:=W0 (F0 (X6 x) (X6 y));have:=eF (q:=eJ (q2 x) (q2 y)) b a
 rwa [Ah (X6 x) (X6 y),V3,V3]at this
theorem vz(x y:Rat):J9 (q2 x) (q2 y)=q2 (x*y):=by
 obtain⟨b,a,_,_⟩:=W0 (F0 (X6 x) (X6 y));have:=eF (q:=J9 (q2 x) (q2 y)) b a
 rwa [rH (X6 x) (X6 y),V3,V3]at this
theorem rQ(x:Rat):(-(q2 x).1,(q2 x).2)=q2 (-x):=rfl
theorem Mh(x:Rat):u9 (qd x) (.int 0)=sd (.int x.num):=rfl
theorem ZE(x:Rat):u9 (qd x) (.int 1)=sd (.int x.den):=rfl
structure RO(x:Rat):Prop where
 f:t2 3000 (q2 x)
structure AS(D:Int):Prop where
 pos:0<D
 bt:Bt 1000 D
structure Sz(D M:Int)(x:Rat):Prop where
 f:FD D M (q2 x)
theorem Sz.m0(h:Sz D M z):0<=M:=by
 have:=h.f.se;rcases dJ M 0 with c|c
 have:=yC c h.f.pos;lia;exact c
theorem Sz.ok(h:Sz D M z)(hD:AS D)(hM:M<=2 ^ 200):RO z:=by
 have:=h.m0;have b:Bt 201 M:=by
  have x:Bt 201 (2 ^ 200):=⟨by decide⟩;exact x.of_le j7
 exact⟨h.f.a2w hD.pos (hD.bt.mono f5) ((b.mul hD.bt).mono f5)⟩
theorem Sz.mono{N:Int}(h:Sz D M z)(hd:D∣E)(a:M<=N):Sz E N z:=⟨h.f.mono hd a⟩
theorem Sz.add(b:Sz D M z)(a:Sz D E v):Sz D (M+E) (z+v):=⟨by rw[<-GC];exact b.f.plus a.f⟩
theorem Sz.neg(a:Sz D M z):Sz D M (-z):=by
 refine⟨a.f.pos,?_,a.f.dvd,?_⟩;have:=a.f.low;rw[<-rQ];rw[Int.neg_gcd];exact this
 . have:=a.f.se;rw[<-rQ]
   simp_all
theorem Sz.sub{N:Int}(b:Sz D M z)(a:Sz D N v):Sz D (M+N) (z-v):=by rw[yp];exact b.add a.neg
theorem Sz.mul{N:Int}(a:Sz D M z)(b:Sz E N v):Sz (D*E) (M*N) (z*v):=⟨by rw[<-vz];exact a.f.times b.f⟩
def mn(x y:Rat):Rat:=if x<y then x else y
theorem Sz.int(h:(E.natAbs:Int)<=M):Sz D M (E:Rat):=by
 refine⟨by show 0<1;decide,by show u4 E 1=1;simp,by show 1∣D;simp,?_⟩;show E.natAbs<=M*1;simp[*]
theorem Sz.zero(h:0<=M):Sz D M 0:=Sz.int (by simpa using h)
theorem RO.neg(h:RO z):RO (-z):=⟨h.f.pos,by have:=h.f.low;rw[<-rQ];rw[Int.neg_gcd];exact this,by rw[<-rQ];exact h.f.bt.neg,h.f.bb⟩
theorem JZ(x y:Rat):mj (q2 x) (q2 y)=decide (x<y):=by rw[rJ (X6 x) (X6 y),V3,V3]
theorem lX:RO 0:=⟨t2.mono (m:=2) ⟨by decide,by decide,⟨by decide⟩,⟨by decide⟩⟩ f5⟩
theorem xi(h:0<z):q2 z⁻¹=((q2 z).2,(q2 z).1):=by
 have a:u4 z.den z.num=1:=by rw[xW];exact z.reduced
 have:=eF (q:=(z.den,z.num)) (yZ h) a;have e:val (z.den,z.num)=z⁻¹:=by
  have:=V3 z;have:val (q2 z)=z.num/((z.den:Int)):=rfl;show((z.den:Int))/z.num=z⁻¹;grind
 rw[e]at this;exact this.symm
theorem YX(h:0<z)(a:RO z):RO z⁻¹:=by refine⟨?_⟩;rw[xi h];exact⟨(yZ h),by rw[xW];exact a.f.low,a.f.bb,a.f.bt⟩
theorem Xg{q:Q2}(a:t2 m u)(hq:t2 e q)(h:m+e<=59999):ig [fr u,fr q]=sd (.bool (mj u q)):=by have c:Bt 60000 u.1:=a.bt.mono (p5 ph f5);have b:Bt 60000 u.2:=a.bb.mono (p5 ph f5);have d:Bt 60000 q.1:=hq.bt.mono (p5 rZ f5);have n:Bt 60000 q.2:=hq.bb.mono (p5 rZ f5);delta ig;walk_at "r";simp only[t6,c,b,d,n];rfl
theorem uE(h:t2 m u):fr u=qd (val u):=by
 show fr u=fr (q2 (val u));rw[<-eF h.pos h.low]
theorem GO(a:RO z)(b:RO v):aE [qd z,qd v]=sd (qd (z-v)):=by
 show aE [fr (q2 z),fr (q2 v)]=_;rw[LP a.f b.f f5,PB];rfl
theorem GN(a:RO z)(b:RO v):U3 [qd z,qd v]=sd (qd (z*v)):=by
 show U3 [fr (q2 z),fr (q2 v)]=_;rw[mr a.f b.f f5,vz];rfl
theorem yV(a:RO z)(b:RO v):ig [qd z,qd v]=sd (.bool (decide (z<v))):=by
 show ig [fr (q2 z),fr (q2 v)]=_;rw[Xg a.f b.f f5,JZ]
theorem YI(g:RO z)(a:RO v)(h:0<v):tV [qd z,qd v]=sd (qd (z*v⁻¹)):=by
 have d:=yZ h;have e:R4 [.int v.den,.int v.num]=sd (qd v⁻¹):=by
  rw[gd (b:=v.num) E6 (Bt.mono a.f.bt f5)];have:=XX (t:=v.den) d;rw[this];have:((v.den:Int))/v.num=v⁻¹:=by have c:=V3 v⁻¹;rw[xi h]at c;exact c
  rw[this];rfl
 delta tV;walk_at "r";rw[Mh];walk_at "r";rw[j1 (show ¬v.num=0 by exact E6)];walk_at "r";rw[ZE,Mh];walk_at "r";rw[e];walk_at "r";rw[GN g (YX h a)];walk_at "r"
theorem jT(a:RO z)(b:RO v):D6 [qd z,qd v]=sd (qd (z+v)):=by
 show D6 [fr (q2 z),fr (q2 v)]=_;rw[a2m a.f b.f f5,GC];rfl
theorem jE(a:RO z)(b:RO v):D9 [qd z,qd v]=sd (qd (z*v)):=by
 show D9 [fr (q2 z),fr (q2 v)]=_;rw[Wh a.f b.f f5,vz];rfl
theorem Br(x:Rat):F6 [qd x]=sd (qd (-x)):=by
 show U (PV.dat (fr (0-(q2 x).1,(q2 x).2)))=_;rw[Int.zero_sub,rQ];rfl
def uR(κ f t:Rat):Rat:=if κ*f-t<0 then 0 else(κ*f-t)*κ⁻¹
def Aq(κ f t:Rat):Rat:=if κ*f-t<0 then 0-(κ*f-t)else 0
theorem GF(f t:Rat)(h:0<z):z*uR z f t-Aq z f t=z*f-t:=by delta uR Aq;split<;>grind
theorem Lj(k:t2 m d.kept)(p:0<val d.kept)(s:RO z)(q:RO v)(j:RO (val d.kept))(l:RO (val d.kept*z))(g:RO (val d.kept*z-v)):
  qW [T4 d,qd z,qd v]=sd (.tuple [qd (uR (val d.kept) z v),qd (Aq (val d.kept) z v)]):=by
 have i:u9 (T4 d) (.int 4)=sd (qd (val d.kept)):=by
  show U (PV.dat (fr d.kept))=_;rw[uE k]
 have r:=GO l q;have n:=yV g lX;delta uR Aq;generalize val d.kept*z-v=a at *;refine R7 rfl ?_;refine k7 (ds1:=[sd (T4 d),sd (qd z),sd (qd v),sd (qd a)]) (m2 (pv:=.dat (qd a)) ?_ rfl) ?_;show(((((u9 (T4 d) (.int 4)).bind λx=>U [x.d,qd z]).bind U3).bind λx=>U [x.d,qd v]).bind aE)=_;rw[i,n8];show((((U3 [qd (val d.kept),qd z]).bind λx=>U [x.d,qd v]).bind aE))=_;rw[(GN j s),n8];exact r
 . have u:∀b,decide (a<0)=b->∀G,M0 (o8 (f9 ig (f6 (j4 3) (f6 (fC D5) l7)))) G E4 [sd (T4 d),sd (qd z),sd (qd v),sd (qd a)]=if b=Uf then G [sd (T4 d),sd (qd z),sd (qd v),sd (qd a)]else U (.next [sd (T4 d),sd (qd z),sd (qd v),sd (qd a)]):=λb o G=>by have e:=v7 (Fa:=j4 3) (Fb:=fC D5) (ds:=[sd (T4 d),sd (qd z),sd (qd v),sd (qd a)]) rfl rfl n;rw[o]at e;delta M0 o8;rw[e];rfl
   by_cases c:a<0;rw[j2 c,j2 c,q9,u Uf (du c),j2 rfl];rw[fY (by delta n9 m4;rw[sG rfl (v7 (Fa:=fC D5) (Fb:=j4 3) (ds:=[sd (T4 d),sd (qd z),sd (qd v),sd (qd a)]) rfl rfl (GO lX g))];rfl)];rfl;rw[j1 c,j1 c,q9,u U' (S6 c),j1 cm];exact fY (by delta n9 m4;rw[sG (v7 (Fa:=j4 3) (Fb:=j8 u9 (j4 0) (fC (.int 4))) (ds:=[sd (T4 d),sd (qd z),sd (qd v),sd (qd a)]) rfl i (YI g j p)) rfl];rfl)
structure Am(h:o6)(d:f7)(Y:List Key->Rat):Prop where
 v:∀k,k∈aB h->lg d k=U (U (qd (Y k)))
 n:∀k,k∉aB h->lg d k=U J
 o:∀k,k∉aB h->Y k=0
structure Dy where
 b:Rat
 g:Rat
 fi:Rat
 ta:Rat
 la:Rat
 wk:Nat->Rat
variable{b5:Nat->Dy}
noncomputable def P0(w:Nat)(x:Dy):f7:=.tuple [qd x.b,qd x.g,qd x.fi,qd x.ta,qd x.la,.tuple (rl w λj=>qd (x.wk j))]
def Z8(h:o6)(Y:List Key->Rat)(t:Nat):Dy:=⟨Y (k2 "bought" t),Y (k2 "given" t),uR (val h.kept) (Y (k2 "filled" t)) (Y (k2 "taken" t)),Aq (val h.kept) (Y (k2 "filled" t)) (Y (k2 "taken" t)),Y (k2 "lacked" t),λj=>Y (nR t j)⟩
section
variable{h:o6}{Y:List Key->Rat}
theorem zN(A:Am h a6 Y)(f:G r=sd a6)(e:o r=sd (G8 a9)):jI G o (fC D5) r=sd (qd (Y a9)):=by
 delta jI;rw[f,e];show((jN (a9.map aP)).bind λa9=>(lg a6 a9).bind λd=>U (PV.dat (d.getD D5)))=_;rw[mR,n8];by_cases c:a9∈aB h;rw[A.v a9 c];rfl;rw[A.n a9 c,A.o a9 c];rfl
theorem CO(A:Am h a6 Y)(e:a9∈aB h)(f:G r=sd a6)(c:o r=sd (G8 a9)):kB G o r=sd (qd (Y a9)):=by
 delta kB;rw[f,c];show((jN (a9.map aP)).bind λa9=>(lg a6 a9).bind λd=>d.bind λa6=>U (PV.dat a6))=_;rw[mR,n8,A.v a9 e];rfl
theorem Jl(a:m<h.n)(hs:B∈(["lacked","spilt","filled","taken","level"]:List Str)):k2 B m∈aB h:=by
 have:∃x∈W3 h m,x.k=k2 B m:=by
  simp only[X3,fB,dI]at hs;rcases hs with rfl|rfl|rfl|rfl|rfl
  exact⟨_,P9 _ (P9 _ v8),rfl⟩;exact⟨_,P9 _ (P9 _ (u7 _ v8)),rfl⟩;exact⟨_,F4 _ v8,rfl⟩;exact⟨_,F4 _ (u7 _ v8),rfl⟩;exact⟨_,F4 _ (u7 _ (u7 _ v8)),rfl⟩
 obtain⟨x,b,e⟩:=this;exact mem_map.mpr ⟨x,P9 _ (mem_flatMap.mpr ⟨m,mem_range.mpr a,b⟩),e⟩
theorem jL{g:FV}{Fc:DV}{x y z:PV}(c:G r=U x)(b:o r=U y)(a:Fc r=U z)(e:g [x.d,y.d,z.d]=b4):f9 g (f6 G (f6 o (f6 Fc l7))) r=b4:=by delta f9 f6;rw[c,n8,b,n8,a,n8];exact e
theorem hW{x y:PV}(b:G r=U x)(a:o r=U y):n9 (f6 G (f6 o l7)) r=sd (.tuple [x.d,y.d]):=by delta n9;rw[sG b a];rfl
structure JK(h:o6)(Y:List Key->Rat)(t:Nat):Prop where
 f:RO (Y (k2 "filled" t))
 tk:RO (Y (k2 "taken" t))
 kf:RO (val h.kept*Y (k2 "filled" t))
 m:RO (val h.kept*Y (k2 "filled" t)-Y (k2 "taken" t))
theorem Lc(A:Am h a6 Y)(H:C5 h)(b:0<val h.kept)(ok:RO (val h.kept))(a:m<h.n)(O:JK h Y m){l:List f7}(r:l.length<1000)(o i c:Option PV):
  ∃p q g,ke [sd (m7 h),sd a6,U (.own l),sd (.int (m:Int)),o,i,c]=U (.next [sd (m7 h),sd a6,U (.own (l++[P0 h.w (Z8 h Y m)])),sd (.int (m:Int)),p,q,g]):=by
 have:=H.w2;refine⟨sd (.tuple [qd (Y (k2 "bought" m)),qd (Y (k2 "given" m))]),sd (.tuple [qd (Z8 h Y m).fi,qd (Z8 h Y m).ta]),sd (.list (rl h.w λj=>qd (Y (nR m j)))),?_⟩;refine k7 (m2 (hW (zN A rfl (bV rfl)) (zN A rfl (bV rfl))) rfl) ?_;refine k7 (m2 (jL rfl (CO A (Jl a t4) rfl (bV rfl)) (CO A (Jl a t4) rfl (bV rfl)) (Lj H.k b O.f O.tk ok O.kf O.m)) rfl) ?_;refine k7 (ds1:=[sd (m7 h),sd a6,U (.own l),sd (.int m),sd (.tuple [qd (Y (k2 "bought" m)),qd (Y (k2 "given" m))]),sd (.tuple [qd (Z8 h Y m).fi,qd (Z8 h Y m).ta]),sd (.list (rl h.w λj=>qd (Y (nR m j))))]) (m2 (di (items:=Q1 0 h.w) ?_ (by rw[oX];exact ju) (qP λj _=>⟨_,zN A rfl ?_,rfl⟩)) rfl) ?_;show C9 [.int ((h.ws.map G0).length)]=_;rw[A6,O7 j7,ck];show((jN [.str "worked",.int m,.int (0+j)]).bind λk=>U (PV.dat (G8 k)))=_;rw[O1];rfl
 . rw[jF];have e:j8 p8 (j8 p8 (j4 4) (j4 5)) (n9 (f6 (kB (j4 1) (S5 (f6 (fC (.str "lacked")) (f6 (j4 3) l7)))) (f6 (f9 cW (f6 (j4 6) l7)) l7))) [sd (m7 h),sd a6,U (.own l),sd (.int m),sd (.tuple [qd (Y (k2 "bought" m)),qd (Y (k2 "given" m))]),sd (.tuple [qd (Z8 h Y m).fi,qd (Z8 h Y m).ta]),sd (.list (rl h.w λj=>qd (Y (nR m j))))]=sd (P0 h.w (Z8 h Y m)) :=
    (B2 rfl (hW (CO A (Jl a t4) rfl (bV rfl)) rfl)).trans rfl
   rw[e,qR _ rfl (p5 k8 f5)];rfl
theorem Vz(A:Am h a6 Y)(H:C5 h)(k:0<val h.kept)(ok:RO (val h.kept))(O:∀t,t<h.n->JK h Y t):oE [m7 h,a6]=sd (.tuple (rl h.n λt=>P0 h.w (Z8 h Y t))):=by
 have:=H.n4;refine R7 rfl ?_;refine k7 rfl ?_;have u:∃f b c a,D4 (x9 C9 (f6 (f9 A9 (f6 (j8 u9 (j4 0) (fC (.int 0))) l7)) l7)) (C1 3) ke [sd (m7 h),sd a6,U (.own []),J,J,J,J]=U (.next [sd (m7 h),sd a6,U (.own (rl h.n λt=>P0 h.w (Z8 h Y t))),f,b,c,a]):=by
  have o:x9 C9 (f6 (f9 A9 (f6 (j8 u9 (j4 0) (fC (.int 0))) l7)) l7) [sd (m7 h),sd a6,U (.own []),J,J,J,J]=U (Q1 0 h.n):=by
   show C9 [.int ((h.hs.map x6).length)]=_;rw[A6,O7 j7,ck]
  delta D4;rw[o,n8];obtain⟨s,r,f,b,c,a,m⟩:=dh (gt:=C1 3) (ds:=[sd (m7 h),sd a6,U (.own []),J,J,J,J])
   (λi g=>∃f b c a,g=[sd (m7 h),sd a6,U (.own (rl i λt=>P0 h.w (Z8 h Y t))),f,b,c,a]) ⟨J,J,J,J,rfl⟩ (by
    rintro i g j ⟨f,b,c,a,rfl⟩;obtain⟨q,p,v,e⟩:=Lc A H k ok j (O i j) (l:=rl i λt=>P0 h.w (Z8 h Y t)) (by rw[A7];lia) b c a;rw[show(i:Int)=0+i from(O1 _).symm]at e
    refine⟨_,_,rfl,.inl e,sd (.int (0+i)),q,p,v,?_⟩;delta rl;rw[fA,aj];rfl)
  exact⟨f,b,c,a,by rw[r,m]⟩
 obtain⟨f,b,c,a,e⟩:=u;exact k7 e rfl
end
theorem Tx{x:Tr}(d:gS m x)(hq:t2 e u)(h:m+e<=7998):cD [F5 x,fr u]=sd (F5 (ze x u)):=by delta cD;walk_at "r";rw[CL,CK,CJ];walk_at "r";rw[mr d.a hq h,mr d.b hq h,mr d.c hq h];rfl
theorem a2z{x y:Tr}(d:gS m x)(n:gS e y)(h:m+e<=7998):ql [F5 x,F5 y]=sd (F5 (DF x y)):=by delta ql;walk_at "r";rw[CL,CK,CJ,CL,CK,CJ];walk_at "r";rw[Bm d.a n.a h,Bm d.b n.b h,Bm d.c n.c h];rfl
theorem WA{gt:f7->Option (List f7)}{Fe:DV}{items:List f7}(h:∀x∈items,∃bs pv,gt x=U bs/\Fe (N8 bs++r)=U pv):∃l,L8 gt q5 Fe r items=U l:=by
 classical
 exact⟨_,Se (f:=λx=>if a:x∈items then(h x a).choose_spec.choose.d else .none) λx a=>⟨_,_,(h x a).choose_spec.choose_spec.1,(h x a).choose_spec.choose_spec.2,by rw[dif_pos a]⟩⟩
theorem xN{Fc:DV}{x y:PV}(b:G r=U x)(a:o r=U y)(c:Fc r=U l):f6 G (f6 o (f6 Fc l7)) r=U [x.d,y.d,l.d]:=by delta f6;rw[b,n8,a,n8,c,n8];rfl
theorem WN{α β γ:Type}{f:α->β->γ}{z:γ}{l:List α}{m:List β}(h:z∈pW f l m):∃a∈l,∃b∈m,z=f a b:=by
 induction l generalizing m with
 |nil=>cases h
 |cons a l j=>cases m with
  |nil=>cases h
  |cons b m =>
   rcases List.mem_cons.mp h with rfl|h
   exact⟨a,v8,b,v8,rfl⟩;obtain⟨i,d,c,g,e⟩:=j h;exact⟨i,u7 _ d,c,u7 _ g,e⟩
theorem La(H:C5 d){X:List Tr}(W:X.length<=10)(ok:∀x∈X,gS 300 x):∃h,jY [m7 d,.list (X.map F5)]=sd h:=by
 have:=H.n4;have w:Bt 60000 1000:=⟨by lia⟩
 have B:F7 (.int 2) (.int d.n)=sd (.int (2*d.n)):=t6 (w.of_le f5) (w.of_le ju);have I:∀x:Hr,t2 1 (M6 x):=λx=>by delta M6;split<;>exact⟨by decide,by decide,⟨by decide⟩,⟨by decide⟩⟩
 have v:t2 1 ((-1,1)):=⟨by decide,by decide,⟨by decide⟩,⟨by decide⟩⟩
 have t:∀{j p:Option Int} {h},h∈cutD (X.map F5) j p->∃x∈X,h=F5 x:=λ{j p h} r=>by obtain⟨x,m,e⟩:=mem_map.mp (List.mem_of_mem_drop (NK r));exact⟨x,m,e.symm⟩
 have P:∀j p:Option Int,(cutD (X.map F5) j p).length<=10:=λj p=>by delta cutD;rw[tH,EE,A6];exact p5 (ED _ _) (p5 (xQ _ _) k8)
 obtain⟨f,Q⟩:=WA (gt:=N5 2) (Fe:=gN) (items:=pW (λx y=>.tuple [x,y]) (d.hs.map x6) (X.map F5)) λz N=>by obtain⟨a,R,b,q,rfl⟩:=WN N;obtain⟨x,m,rfl⟩:=mem_map.mp q;obtain⟨y,V,rfl⟩:=mem_map.mp R;refine⟨_,.dat (F5 (ze x (M6 y))),rfl,?_⟩;exact v7 rfl (pC y) (Tx (ok x m) (I y) f5)
 have C:(pW (λx y=>nj [x,y]) (d.hs.map x6) (X.map F5)).length<=1000000:=by
  rw[NG,A6];lia
 have T:∃h,(j9 (k9 2 (f9 A9 (f6 (j8 u9 (j4 0) (fC (.int 0))) l7))) (j9 (k9 3 (p9 (x9 cq (f6 (j8 u9 (j4 0) (fC (.int 0))) (f6 (j4 1) l7))) (N5 2) q5 gN)) (j9 (O8 4 (E2 l7)) (j9 (k9 5 (fC mP)) (j9 (D4 (x9 vy (f6 (mN rN (j4 1) (Y5 (j4 2)) (Y5 (j8 F7 (fC (.int 2)) (j4 2)))) l7)) (C1 6) dP) (j9 (uA 4 DZ) (A1 (oK (n9 (f6 (f9 cW (f6 (j4 3) l7)) (f6 (f9 cW (f6 (j4 4) l7)) (f6 (f9 cW (f6 (mN rN (j4 1) (Y5 (j8 F7 (fC (.int 2)) (j4 2))) uh) l7)) l7)))))))))))) [sd (m7 d),sd (.list (X.map F5)),J,J,J,J,J]=U (.ret (.dat h)):=by
  rw[k7 (ds1:=[sd (m7 d),sd (.list (X.map F5)),sd (.int d.n),J,J,J,J]) (m2 (pv:=.dat (.int d.n)) (by
   show A9 [.tuple (d.hs.map x6)]=_
   delta A9 d1;simp) rfl) rfl]
  rw[k7 (m2 (by
   delta p9;rw[show x9 cq (f6 (j8 u9 (j4 0) (fC (.int 0))) (f6 (j4 1) l7)) [sd (m7 d),sd (.list (X.map F5)),sd (.int d.n),J,J,J,J]=U (pW (λx y=>.tuple [x,y]) (d.hs.map x6) (X.map F5))from rfl,n8,j2 C,Q]
   rfl) rfl) rfl]
  rw[k7 rfl rfl];rw[k7 (ds1:=[sd (m7 d),sd (.list (X.map F5)),sd (.int d.n),sd (.list f),U (.own []),sd (F5 jr),J]) rfl rfl];have j:∃l k g,D4 (x9 vy (f6 (mN rN (j4 1) (Y5 (j4 2)) (Y5 (j8 F7 (fC (.int 2)) (j4 2)))) l7)) (C1 6) dP [sd (m7 d),sd (.list (X.map F5)),sd (.int d.n),sd (.list f),U (.own []),sd (F5 jr),J]=U (.next [sd (m7 d),sd (.list (X.map F5)),sd (.int d.n),sd (.list f),U (.own l),k,g]):=by
   have D:x9 vy (f6 (mN rN (j4 1) (Y5 (j4 2)) (Y5 (j8 F7 (fC (.int 2)) (j4 2)))) l7) [sd (m7 d),sd (.list (X.map F5)),sd (.int d.n),sd (.list f),U (.own []),sd (F5 jr),J]=U (cutD (X.map F5) (U d.n) (U (2*d.n))).reverse:=by
    have e:mN rN (j4 1) (Y5 (j4 2)) (Y5 (j8 F7 (fC (.int 2)) (j4 2))) [sd (m7 d),sd (.list (X.map F5)),sd (.int d.n),sd (.list f),U (.own []),sd (F5 jr),J]=U (.own (cutD (X.map F5) (U d.n) (U (2*d.n)))):=by
     have o:Y5 (j8 F7 (fC (.int 2)) (j4 2)) [sd (m7 d),sd (.list (X.map F5)),sd (.int d.n),sd (.list f),U (.own []),sd (F5 jr),J]=U (U (2*(d.n:Int))):=by
      delta Y5;rw[B2 rfl rfl];show((F7 (.int 2) (.int d.n)).bind _)=_;rw[B];rfl
     delta mN;rw[o];rfl
    delta x9 f6;rw[e];rfl
   delta D4;rw[D,n8];obtain⟨M,O,l,g,b,E,_⟩:=eT (gt:=C1 6) (G:=dP) (items:=(cutD (X.map F5) (U d.n) (U (2*d.n))).reverse)
    (λi A=>∃l g b,A=[sd (m7 d),sd (.list (X.map F5)),sd (.int d.n),sd (.list f),U (.own l),sd (F5 b),g]/\l.length=i/\gS (1+302*i) b) ⟨[],J,jr,rfl,rfl,Xn f5⟩ (by
     rintro i h A r ⟨l,g,b,rfl,L,q⟩;have:i<10:=by
      have S:=(List.getElem?_eq_some_iff.mp r).1;rw[ER]at S;have:=P (U d.n) (U (2*d.n));lia
     obtain⟨x,m,rfl⟩:=t (List.mem_reverse.mp (nL r));have u:=Wd (ok x m) v;have s:=WL q u;refine⟨_,[sd (m7 d),sd (.list (X.map F5)),sd (.int d.n),sd (.list f),U (.own (l++[F5 (DF b (ze x (-1,1)))])),sd (F5 (DF b (ze x (-1,1)))),sd (F5 x)],rfl,.inl ?_,_,_,_,rfl,by simp[L],⟨s.a.mono j7,s.b.mono j7,s.c.mono j7⟩⟩
     refine k7 (m2 (v7 rfl (v7 (y:=.dat (fr (-1,1))) rfl rfl (Tx (ok x m) v f5)) (a2z q u j7)) rfl) ?_;rw[jF];exact qR (.dat (F5 (DF b (ze x (-1,1))))) rfl j7)
   exact⟨l,sd (F5 b),g,by rw[O,E]⟩
  obtain⟨l,k,g,e⟩:=j;rw[k7 e rfl];rw[k7 (ds1:=[sd (m7 d),sd (.list (X.map F5)),sd (.int d.n),sd (.list f),U (.own l.reverse),k,g]) rfl rfl];have o:Y5 (j8 F7 (fC (.int 2)) (j4 2)) (dG [sd (m7 d),sd (.list (X.map F5)),sd (.int d.n),sd (.list f),U (.own l.reverse),k,g])=U (U (2*(d.n:Int))):=by
   delta Y5;rw[B2 rfl rfl];show((F7 (.int 2) (.int d.n)).bind _)=_;rw[B];rfl
  have F:mN rN (j4 1) (Y5 (j8 F7 (fC (.int 2)) (j4 2))) uh (dG [sd (m7 d),sd (.list (X.map F5)),sd (.int d.n),sd (.list f),U (.own l.reverse),k,g])=U (.own (cutD (X.map F5) (U (2*d.n)) J)):=by delta mN;rw[o];rfl
  refine⟨_,fY (pv:=.dat (.tuple [.tuple f,.tuple l.reverse,.tuple (cutD (X.map F5) (U (2*d.n)) J)])) ?_⟩;have K:f9 cW (f6 (mN rN (j4 1) (Y5 (j8 F7 (fC (.int 2)) (j4 2))) uh) l7) (dG [sd (m7 d),sd (.list (X.map F5)),sd (.int d.n),sd (.list f),U (.own l.reverse),k,g])=sd (.tuple (cutD (X.map F5) (U (2*d.n)) J)):=by delta f9 f6;rw[F];rfl
  delta oK n9;rw[xN rfl rfl K];rfl
 obtain⟨h,e⟩:=T;exact⟨h,R7 rfl e⟩
section
variable{T:Sx.Tb}
theorem Zf(H:A4 f D E M)(G:je f m)(K:Sx.Ok f.pb T)(a:e<f.n):0<=val (T5 f T e):=by
 rcases qC K a with ⟨k,d,rfl,b,F⟩|⟨I,⟨b,q,hq,F⟩|⟨b,F⟩⟩
 have p:=F0 K.C7.pos H.un.1;rw[F,ff p,DP];exact gy (by exact_mod_cast gz (K.lo k d) (O3 (H.sc a).1)) (kM (Rat.inv_pos.mpr (N9 p)));rw[F];exact(rY (H.tp e q a hq).1.pos).mp (G.t0 e q a hq);rw[F,aI];rfl
theorem We(H:A4 f D E M)(G:je f m)(K:Sx.Ok f.pb T)(a:e<f.n)(hq:f.tp e=U u):val (T5 f T e)<=val u:=by
 have:=zq H K a;have:=(ua H a hq).1;have:=(rY (H.tp e u a hq).1.pos).mp (G.t0 e u a hq);obtain⟨v,j,o⟩:=(ua H a hq).2;refine Rat.not_lt.mp λlt=>?_
 rcases qC K a with ⟨k,h,g,I,c⟩|⟨F,⟨I,l,b,c⟩|⟨I,c⟩⟩
 . have:yv f.pb T e=T.am f.pb k:=by delta yv;rw[j1 (by rw[I];decide),<-g,yU K.C7 _ h,O1]
   have d:((T.am f.pb k):Rat)<=v*T.size:=by exact_mod_cast (K.hi k v h (by rw[g];exact j))
   have:=Ox lt (dk (N9 K.C7.pos) (N9 H.un.1));have:=Rat.mul_le_mul_of_nonneg_left d (kM (N9 (H.sc a).1));have:(f.sc e)*(v*T.size)=val u*(T.size*f.un):=by grind
   grind
 . simp_all
 rw[c,aI]at lt;grind
end
open Classical in
def yK(h:o6)(T:Sx.Tb)(k:List Key):Rat:=if k∈aB h then val (T5 (o1 h) T (jv h k))else 0
section
variable{T:Sx.Tb}
theorem LO(H:C5 d)(K:Sx.Ok (o1 d).pb T)(f:m<(m9 d).length):t2 310 (T5 (o1 d) T m)/\(T5 (o1 d) T m).2∣T.size*(o1 d).un:=by
 have O:=iG H;obtain⟨l,s⟩:=sx H;obtain⟨r,p,_⟩:=zJ H K;have:=fz l O.un.2.1;have j:=O.sc f;have:=fz l j.2.1;have g:=F0 K.C7.pos O.un.1;rcases qC K f with ⟨k,o,rfl,i,e⟩|⟨t,⟨i,q,hq,e⟩|⟨i,e⟩⟩
 rw[e];refine⟨eN g (((p k o).mul (n:=8) (uL (b:=225) ⟨by decide⟩ j7 (Q8 k8 k8))).mono f5) ((r.mul (n:=8) (uL (b:=225) ⟨by decide⟩ (by have:=O.un.1;lia) (Q8 k8 k8))).mono f5),(W0 g).2.2.2⟩;obtain⟨a,b,c,h⟩:=wy H f hq;rw[e,a];exact⟨h.mono f5,⟨_,(Z1 _).symm⟩⟩;rw[e];exact⟨pI f5,⟨_,(Z1 _).symm⟩⟩
theorem HR{x:Ch}(a:x∈m9 d):yK d T x.k=val (T5 (o1 d) T (jv d x.k)):=by delta yK;rw[j2 (mem_map.mpr ⟨x,a,rfl⟩)]
theorem SO(a:m<(m9 d).length):yK d T (bB d m).k=val (T5 (o1 d) T m):=by rw[HR (fo a),Me a]
theorem we(a:a9∉aB d):yK d T a9=0:=by delta yK;rw[j1 a]
theorem WU(H:C5 d)(K:Sx.Ok (o1 d).pb T){x:Ch}(c:x∈m9 d):0<=yK d T x.k/\∀q,x.t=U q->yK d T x.k<=val q:=by obtain⟨a,b⟩:=xH c;rw[HR c];exact⟨Zf (iG H) (xk H) K a,λq hq=>We (iG H) (xk H) K a (by show(bB d _).t=_;rw[b];exact hq)⟩
open Classical in
theorem Df(f:Nat->f7)(k:List Key):∀(ks:List (List Key)) (b:Nat),ks.Nodup->((ks.zip ((List.range' b ks.length).map f)).find? λp=>decide (p.1=k)).map (·.2)=if k∈ks then U (f (b+ks.findIdx λa=>decide (a=k)))else J
 | [],_,_=>(j1 t7).symm
 |a::ks,b,hn=>by
  rw[ao,Nm,v5,jW,Na,List.findIdx_cons];by_cases e:a=k;subst e;simp
  . simp only[S6 e,X3];rw[(Df f k ks (b+1) (List.nodup_cons.mp hn).2)];by_cases c:k∈ks
    . rw[j2 c,j2 (.inr c)];congr 2;exact EM _ _ _
    rw[j1 c,j1 (λz=>z.elim (λz=>e z.symm) c)]
open Classical in
theorem WI(H:C5 d)(K:Sx.Ok (o1 d).pb T):Am d (vT (aB d) (rl (m9 d).length λj=>fr (T5 (o1 d) T j))) (yK d T):=by
 have c:(aB d).length=(m9 d).length:=(A6 ..);have b:∀k,lg (vT (aB d) (rl (m9 d).length λj=>fr (T5 (o1 d) T j))) k=U (if k∈aB d then U (fr (T5 (o1 d) T (jv d k)))else J):=λk=>by
  show((sF ((aB d).map λk=>.tuple (k.map aP))).bind λh=>U (((h.zip (rl (m9 d).length λj=>fr (T5 (o1 d) T j))).find? λp=>decide (p.1=k)).map (·.2)))=_;rw[xI,n8];have:=Df (λj=>fr (T5 (o1 d) T j)) k (aB d) 0 (og d);rw[pU,<-NM,c]at this;exact r9 U this
 refine⟨λk a=>?_,λk a=>?_,λk a=>we a⟩;rw[b,j2 a];delta yK;rw[j2 a,uE (LO H K (CI a).1).1];rw[b,j1 a]
end
theorem HL{b:Type}{g:b->f7}(a:∀x,LF (g x)=Uf):∀l:List b,kG (l.map g)=Uf
 | []=>by simp[kG]
 |x::l=>by simp[kG,a x,HL a l]
theorem xJ:∀ks:List (List Key),kF (ks.map G8)=U ks
 | []=>rfl
 |k::ks=>by
  show((jN (k.map aP)).bind λk=>(kF (ks.map G8)).bind λks=>U (k::ks))=_;rw[mR,xJ ks];rfl
theorem Jr(H:C5 d):∀k∈R8 d,k∈aB d:=λk c=>by
 obtain⟨i,a,rfl⟩:=List.mem_iff_getElem.mp c;have:(R8 d).length=hM d:=by delta R8 hM;simp;lia
 obtain⟨x,b,e,_⟩:=vO H (k:=i) (NC k8 k8);rw[oA,F2 a]at e;exact mem_map.mpr ⟨x,b,e⟩
theorem So{g:FV}{Fa f Fe:DV}{c d e:PV}(a:Fa r=U l)(i:G r=U P)(k:o r=U c)(hd:f r=U d)(h:Fe r=U e)(j:g [l.d,P.d,c.d,d.d,e.d]=b4):f9 g (f6 Fa (f6 G (f6 o (f6 f (f6 Fe l7))))) r=b4:=by delta f9 f6;rw[a,n8,i,n8,k,n8,hd,n8,h,n8];exact j
theorem a1a(m n:Nat)(M:Nat->Nat->f7):(dS m n M).d=.list (rl m λp=>.list (rl n (M p))):=by
 show nc ((dW ((A3 m).map λp=>PF.own (rl n (M p)))).map λf=>f.2.d)=_;delta dW rl;rw[ei,ei];rfl
theorem WE(H:C5 d):∃T h,Sx.Ok (o1 d).pb T/\(∀j,j<(o1 d).n->¬Sx.N0 (o1 d).pb T j) /\
  ((∀t,t<d.n->JK d (yK d T) t)->RO (val d.kept)->0<val d.kept->gD [m7 d]=sd (.tuple [.tuple (rl d.n λt=>P0 d.w (Z8 d (yK d T) t)),h])):=by
 have O:=iG H;have:=H.n4;have:=H.w2;have:(m9 d).length<=1000:=O.n1;have hl:(aB d).length=(m9 d).length:=(A6 ..);have r:(G5 d).length=hM d:=by delta G5 hM;simp;lia
 have l:(R8 d).length=hM d:=by delta R8 hM;simp;lia
 obtain⟨sd,es,R⟩:=Kr O (xk H);have best:∃T,Sx.Ok (o1 d).pb T/\(∀j,j<(o1 d).n->¬Sx.N0 (o1 d).pb T j)/\sd=.tuple [.str "best",.list (rl (m9 d).length λj=>fr (T5 (o1 d) T j)),.list (rl (hM d) λp=>F5 (Z9 (o1 d).E9 T p))]:=by
  cases R with
  |best K ne=>exact⟨_,K,ne,rfl⟩
  |endless K Y e=>exact(FW O K Y e λj A Z=>((qQ H _ (fo A)).fr Z).1).elim
 obtain⟨T,K,ne,rfl⟩:=best;obtain⟨M,N⟩:=La H (X:=(A3 (hM d)).map λp=>Z9 (o1 d).E9 T p) (by simp;show 2*d.n+d.w<=10;lia) λx L=>by
  obtain⟨p,P,rfl⟩:=mem_map.mp L;obtain⟨W,_,z4⟩:=zJ H K;have mu:∀t,t<3->Bt 1 ((o1 d).mu t)/\0<(o1 d).mu t:=λt q=>by have:=fz f5 (O.mu q).2.1;have:=(O.mu q).1;exact⟨uL (b:=1) ⟨by decide⟩ j7 j7,this⟩
  have one:∀t,t<3->t2 300 (w9 (T.pr t p) (T.size*(o1 d).mu t)):=λt q=>eN (F0 K.C7.pos (mu t q).2) ((z4 t p q (mem_range.mp P)).mono f5) ((W.mul (mu t q).1).mono f5);exact⟨one 0 f5,one 1 f5,one 2 f5⟩
 rw[ei]at N;refine⟨T,M,K,ne,λpk ok k0=>?_⟩;have ap:=Vz (WI H K) H k0 ok pk;have v:=Jz d H.s;have E:=Kz d H.s;have C:=Rh d H.s;have G:((m9 d).map λx=>F5 x.c)=rl (m9 d).length λj=>F5 ((o1 d).cost j):=pj (λx=>F5 x.c) vg _;have z:((m9 d).map λx=>T1 x.t)=rl (m9 d).length λj=>T1 ((o1 d).tp j):=pj (λx=>T1 x.t) vg _
 have D:((G5 d).map fr)=rl (hM d) λp=>fr ((o1 d).rg p):=by rw[<-r];exact pj fr q0 _
 have I:((R8 d).map λk=>V0 (jv d k))=rl (hM d) λk=>.int ((o1 d).fs k):=by rw[<-l];exact pj (λk=>V0 (jv d k)) [] _
 have u:(dS (hM d) (m9 d).length (allM (m9 d) (m9 d).length)).d=(o1 d).W7:=by
  rw[a1a];refine r9 nc (tP λp _=>r9 nc (tP λj A=>?_));rw[WK,j2 (mem_range.mp A)];exact VY p _ q0
 generalize m7 d=m at *;refine R7 rfl ?_;have o:∀g:Ch->f7,∀F:DV,(∀x i,F (sd (M3 x)::i)=sd (g x))->∀i:Ds,i[1]? = U (sd (.list ((m9 d).map M3)))->p9 (M7 (j4 1)) p6 q5 F i=U (.own ((m9 d).map g)):=λg F V i h1=>by
  refine di ?_ (by rw[A6];lia) (comp_map λx _=>⟨_,V x _,rfl⟩);delta M7 j4;rw[h1];rfl
 refine k7 (m2 v rfl) ?_;refine k7 (ds1:=[sd m,sd (.list ((m9 d).map M3)),sd (.list ((aB d).map G8)),J,J,J,J,J]) (m2 (o (λx=>G8 x.k) _ (λx i=>rfl) _ rfl) (by rw[ei];rfl)) ?_;refine k7 (ds1:=[sd m,sd (.list ((m9 d).map M3)),sd (.list ((aB d).map G8)),U (.dat (o1 d).C2),J,J,J,J]) (m2 (o (λx=>F5 x.c) _ (λx i=>rfl) _ rfl) (by rw[G];rfl)) ?_;refine k7 (ds1:=[sd m,sd (.list ((m9 d).map M3)),sd (.list ((aB d).map G8)),U (.dat (o1 d).C2),U (.dat (o1 d).G6),J,J,J]) (m2 (o (λx=>T1 x.t) _ (λx i=>rfl) _ rfl) (by rw[z];rfl)) ?_;refine k7 (ds1:=[sd m,sd (.list ((m9 d).map M3)),sd (.list ((aB d).map G8)),U (.dat (o1 d).C2),U (.dat (o1 d).G6),U (.dat (o1 d).A8),J,J]) (m2 E (by rw[D];rfl)) ?_;refine k7 (ds1:=[sd m,sd (.list ((m9 d).map M3)),sd (.list ((aB d).map G8)),U (.dat (o1 d).C2),U (.dat (o1 d).G6),U (.dat (o1 d).A8),U (.dat (o1 d).Q3),J]) (m2 (pv:=.own ((R8 d).map λk=>.int (jv d k))) (di (items:=(R8 d).map G8) ?_ (by rw[A6,l];show 2*d.n+d.w<=_;lia) (comp_map λk hk=>⟨.dat (.int (jv d k)),?_,rfl⟩)) (by rw[I];rfl)) ?_;show((dO [m]).bind λx=>lE x.d)=_;rw[C];rfl;show ma (.list ((aB d).map G8)) [G8 k]=sd (.int (jv d k));obtain⟨a,b⟩:=CI (Jr H k hk);refine Mm (Wn d) j7 ?_ (og d);rw[L1,F2 a,<-sE a];exact r9 U b
 . have S:f9 A9 (f6 (j4 5) l7) [sd m,sd (.list ((m9 d).map M3)),sd (.list ((aB d).map G8)),U (.dat (o1 d).C2),U (.dat (o1 d).G6),U (.dat (o1 d).A8),U (.dat (o1 d).Q3),J]=sd (.int ((hM d))):=by
     show A9 [(o1 d).A8]=_;delta A9 d1;simp only[A7];rfl
   refine k7 (m2 (pv:=.dat (.tuple [.str "best",.list (rl (m9 d).length λj=>fr (T5 (o1 d) T j)),.list (rl (hM d) λp=>F5 (Z9 (o1 d).E9 T p))])) ?_ rfl) ?_;refine So rfl (v7 (Fa:=j4 1) (x:=.dat (.list ((m9 d).map M3))) rfl S (UX (by show 2*d.n+d.w<=_;lia) j7 λx L e Q=>((qQ H x L).ns e Q).1)) rfl rfl rfl ?_;rw[u];exact es;refine fY (hW (x:=.dat _) (y:=.dat M) (v7 (y:=.dat (vT (aB d) (rl (m9 d).length λj=>fr (T5 (o1 d) T j)))) rfl ?_ ap) (v7 rfl rfl N));show((kF ((aB d).map G8)).bind λB=>if B.Nodup/\(rl (m9 d).length λj=>fr (T5 (o1 d) T j)).length=B.length/\kG (rl (m9 d).length λj=>fr (T5 (o1 d) T j))=Uf then U (PV.dat (vT B (rl (m9 d).length λj=>fr (T5 (o1 d) T j))))else J)=_;rw[xJ,n8,j2 ⟨og d,by rw[A7,hl],HL (λ_=>rfl) _⟩]
abbrev cB:Int:=2 ^ 60
structure Fz(h:o6)(D:Int)(x:Dy):Prop where
 b:Sz D (2 ^ 39) x.b
 g:Sz D (2 ^ 39) x.g
 fi:RO x.fi
 kf:RO (val h.kept*x.fi)
 ta:RO x.ta
 lv:Sz D cB (val h.kept*x.fi-x.ta)
 la:Sz D cB x.la
 wk:∀j,j<h.ws.length->Sz D cB (x.wk j)
theorem eu{D:Int}{f:Nat->Rat}:∀n,(∀i,i<n->Sz D cB (f i))->Sz D (cB*n) (l9 f n)
 | 0,_=>Sz.zero f5
 |n+1,hf=>by
  have:=Sz.add (eu n λi a=>hf i cO) (hf n o9);exact this
def P2(h:o6)(j:Nat):Rat:=((h.ws.getD j V2).K5:Rat)
def AB(X:Nat->Dy)(t:Nat):Rat:=l9 (λi=>(X i).la) t
def fN(h:o6)(X:Nat->Dy)(t:Nat):Rat:=l9 (P2 h) h.ws.length-l9 (λi=>l9 (X i).wk h.ws.length) t
noncomputable def js(h:o6)(X:Nat->Dy)(t:Nat):Rat:=l9 (λi=>(eO (h.hs.getD i G9):Rat)*(X i).b+((0-dZ (h.hs.getD i G9):Int):Rat)*(X i).g) t
def fZ(h:o6)(X:Nat->Dy)(t:Nat):Rat:=(h.start:Rat)+l9 (λi=>val h.kept*(X i).fi-(X i).ta) t
noncomputable abbrev cS(a p:f7)(l u q v:Rat)(y6 y7 y8 y9 y10:Option PV):Ds:=[U (.dat a),U (.dat p),U (.dat (qd l)),U (.dat (qd u)),U (.dat (qd q)),U (.dat (qd v)),y6,y7,y8,y9,y10]
theorem ko(hD:AS D)(h:Sz D (cB*m) z)(a:m<=1000):RO z:=h.ok hD (Q8 (fF (show(m:Int)<=1000 by lia) f5) f5)
theorem nV(h:Sz D cB z):Sz D (cB*(1:Nat)) z:=by assumption
theorem bw{n:Int}(a : -1000000<=n)(b:n<=1000000):Sz D (2 ^ 20) (n:Rat):=Sz.int j7
theorem gG(h:Sz D M z)(hM:M<=cB):Sz D cB z:=h.mono (gu _) hM
theorem OP(hD:AS D)(A:m<=2)(s:∀j,j<m->Sz D cB (C j))(x:Sz D (cB*(50:Nat)) z)(a p:f7)(l q v:Rat)(h g f k c:Option PV):
  ∃b,X7 (C1 10) kj (rl m λj=>qd (C j)) (cS a p l z q v h g f k c)=U (.next (cS a p l (z-l9 C m) q v h g f k b)):=by
 obtain⟨w,t,b,e⟩:=eT (gt:=C1 10) (G:=kj)
  (λi o=>∃b,o=cS a p l (z-l9 C i) q v h g f k b) ⟨c,by rw[show z-l9 C 0=z by show z-0=z;grind]⟩ (by
   rintro i d o n ⟨b,rfl⟩;have r:i<m:=by
    have:=(List.getElem?_eq_some_iff.mp n).1
    rwa [A7]at this
   have y:d=qd (C i):=by rw[L1,nI r]at n;exact(R1 n).symm
   subst y;refine⟨_,_,rfl,.inl (m2 (v7 rfl (Br (C i)) (jT (ko hD (by have:=x.sub (eu i λj B=>s j (kN k8 k8));rw[<-cC]at this;exact this) j7) (ko hD (nV (s i r)) f5).neg)) rfl),sd (qd (C i)),?_⟩;show _=cS a p l (z-(l9 C i+C i)) q v h g f k _;rw[show z-(l9 C i+C i)=z-l9 C i + - C i by grind]
   rfl)
 rw[A7]at e;exact⟨b,by rw[t,e]⟩
noncomputable def rj(x:Hr):f7:=match x.line with
 |none=>.tuple [.int 0,.int 0,.int 0,.int 0]
 |some (a,b,c,d)=>.tuple [.int a,.int b,.int c,.int d]
theorem Wm(x:Hr):gY [x6 x]=sd (rj x)/\u9 (rj x) (.int 0)=sd (.int (eO x))/\u9 (rj x) (.int 2)=sd (.int (dZ x)):=by
 obtain⟨s,n,l⟩:=x;cases l with
 |none=>exact⟨rfl,rfl,rfl⟩
 |some l=>exact⟨rfl,rfl,rfl⟩
theorem Rq(H:C5 d)(f:m<d.n):(-1000000<=eO (d.hr m)/\eO (d.hr m)<=1000000)/\-1000000<=dZ (d.hr m)/\dZ (d.hr m)<=1000000:=by
 delta eO dZ;cases e:(d.hr m).line with
 |none=>decide
 |some l =>
  obtain⟨a,b,c,h⟩:=l;have:=H.ln m a b c h f e;exact⟨this.1,this.2.2.1⟩
theorem Ka(H:C5 d)(P:∀m,m<d.n->Fz d D (b5 m))(g:m<=d.n):Sz D (cB*(50:Nat)) (fN d b5 m):=by
 have:=H.n4;have:=H.w2;have f:∀i,i<d.n->Sz D (cB*2) (l9 (b5 i).wk d.w):=λi b=>(eu d.w λj a=>(P i b).wk j a).mono (gu _) (fF j7 f5);have h:Sz D (cB*d.w) (l9 (P2 d) d.w):=eu _ λj a=>gG (bw (by have:=H.wk j a;lia) (by have:=H.wk j a;simp only[*];done)) f5
 have e:∀i,i<=m->Sz D (cB*(2*i)) (l9 (λi=>l9 (b5 i).wk d.w) i):=λi=>by
  induction i with
  |zero=>intro _;exact Sz.zero f5
  |succ i c =>
   intro b;have:=(c cw).add (f i (p5 k8 k8));rw[<-cC]at this;exact this.mono (gu _) (fF j7 f5)
 have:=h.sub (e m y4);rw[<-cC]at this;exact this.mono (gu _) (fF j7 f5)
theorem MH(hD:AS D)(H:C5 d)(ok:RO (val d.kept))(P:∀m,m<d.n->Fz d D (b5 m))(f:m<d.n)(W:u9 a6 (.int (m:Int))=sd (P0 d.w (b5 m)))(h V E e:Option PV):
  ∃L Y c,oR (cS (m7 d) a6 (AB b5 m) (fN d b5 m) (js d b5 m) (fZ d b5 m) h (sd (.int (m:Int))) V E e)=U (.next (cS (m7 d) a6 (AB b5 (m+1)) (fN d b5 (m+1)) (js d b5 (m+1)) (fZ d b5 (m+1)) h (sd (.int (m:Int))) L Y c)):=by
 have:=H.n4;have Q:=P m f;obtain⟨⟨G,I⟩,z,F⟩:=Rq H f;obtain⟨S,O,B⟩:=Wm (d.hr m);have q:Sz D cB ((eO (d.hr m))*(b5 m).b):=by have:=(bw (D:=1) (n:=eO (d.hr m)) j7 (Q8 k8 f5)).mul Q.b;rw[Z1]at this;exact gG this f5
 have v:Sz D cB (((0-dZ (d.hr m):Int))*(b5 m).g):=by have:=(bw (D:=1) (n:=0-dZ (d.hr m)) j7 j7).mul Q.g;rw[Z1]at this;exact gG this f5
 have u:∀i,i<=d.n->Sz D (cB*i) (js d b5 i):=λi r=>eu i λk hk=>by
  obtain⟨⟨G,I⟩,z,F⟩:=Rq H (show k<d.n by exact p5 k8 k8);have K:=P k (p5 k8 k8);have a:=(bw (D:=1) (n:=eO (d.hr k)) j7 (Q8 k8 f5)).mul K.b;have o:=(bw (D:=1) (n:=0-dZ (d.hr k)) j7 j7).mul K.g;rw[Z1]at a o;exact gG (a.add o) f5
 have C:Sz D (cB*(1+m)) (fZ d b5 m):=by
  have:=(nV (gG (bw (n:=d.start) (by have:=H.st;lia) (by have:=H.st;lia)) f5)).add (eu m λi r=>(P i (kN k8 k8)).lv);rw[<-cC]at this;exact this
 have M:fN d b5 (m+1)=fN d b5 m-l9 (b5 m).wk d.w:=by
  show l9 (P2 d) d.w-(l9 (λi=>l9 (b5 i).wk d.w) m+l9 (b5 m).wk d.w)=_;delta fN;grind
 obtain⟨c,T⟩:=OP hD H.w2 (λj hj=>Q.wk j hj) (Ka H P (bF f)) (m7 d) a6 (AB b5 (m+1)) (js d b5 (m+1)) (fZ d b5 (m+1)) h (sd (.int m)) (sd (P0 d.w (b5 m))) (sd (rj (d.hr m))) e;refine⟨sd (P0 d.w (b5 m)),sd (rj (d.hr m)),c,?_⟩;rw[M,<-T];have R:RO (eO (d.hr m)):=ko hD (nV (gG (bw j7 (Q8 k8 f5)) f5)) f5;have Z:RO ((0-dZ (d.hr m):Int)):=ko hD (nV (gG (bw j7 j7) f5)) f5;have s:∀{x:Rat},Sz D (2 ^ 39) x->RO x:=λl=>ko hD (nV (gG l f5)) f5;have a:∀{x:Rat},Sz D cB x->RO x:=λl=>ko hD (nV l) f5;refine k7 (m2 W rfl) ?_;refine k7 (m2 (pv:=.dat (rj (d.hr m))) ?_ rfl) ?_;show(((u9 (.tuple (d.hs.map x6)) (.int m)).bind λx=>U [x.d]).bind gY)=_;rw[(zK d f)];exact S;refine k7 (m2 (v7 rfl rfl (jT (ko hD (eu m λi r=>(P i (kN k8 k8)).la) j7) (a Q.la))) rfl) ?_
 refine k7
  (m2 (v7 rfl (v7 (x:=.dat (qd (eO (d.hr m)))) (hW (y:=.dat (.int 1)) (B2 (x:=.dat (rj (d.hr m))) (y:=.dat (.int 0)) rfl rfl |>.trans O) rfl) rfl (jE R (s Q.b))) (jT (ko hD (u m cw) j7) (a q))) rfl) ?_
 refine k7
  (m2 (pv:=.dat (qd (js d b5 (m+1)))) ?_ rfl) ?_
 . have N:js d b5 (m+1)=js d b5 m+(eO (d.hr m))*(b5 m).b+((0-dZ (d.hr m):Int))*(b5 m).g:=by
     show js d b5 m+((eO (d.hr m))*(b5 m).b+((0-dZ (d.hr m):Int))*(b5 m).g)=_;grind
   rw[N];refine v7 rfl (v7 (x:=.dat (qd ((0-dZ (d.hr m):Int)))) (hW (x:=.dat (.int (0-dZ (d.hr m)))) (y:=.dat (.int 1)) (B2 (x:=.dat (.int 0)) rfl ((B2 (x:=.dat (rj (d.hr m))) (y:=.dat (.int 2)) rfl rfl).trans B)) rfl) rfl (jE Z (s Q.g))) (jT (ko hD (by have:=(u m cw).add (nV q);rw[<-cC]at this;exact this) j7) (a v))
 refine k7
  (m2 (pv:=.dat (qd (fZ d b5 (m+1)))) ?_ rfl) ?_
 . have A:fZ d b5 (m+1)=fZ d b5 m+(val d.kept*(b5 m).fi + - (b5 m).ta):=by
     show d.start+(l9 (λi=>val d.kept*(b5 i).fi-(b5 i).ta) m+(val d.kept*(b5 m).fi-(b5 m).ta))=_;delta fZ;grind
   rw[A];refine v7 rfl (v7 (x:=.dat (qd (val d.kept*(b5 m).fi))) (v7 rfl rfl ?_) (Br (b5 m).ta) (jT Q.kf Q.ta.neg)) (jT (ko hD C j7) ?_);show D9 [fr d.kept,qd (b5 m).fi]=_;rw[(uE H.k)];exact jE ok Q.fi;rw[<-yp];exact a Q.lv
 rfl
theorem Dp(hD:AS D)(H:C5 d)(ok:RO (val d.kept))(P:∀t,t<d.n->Fz d D (b5 t)):
  bI [m7 d,.tuple (rl d.n λt=>P0 d.w (b5 t))]=sd (.tuple [qd (AB b5 d.n),qd (fN d b5 d.n),qd (js d b5 d.n+((0-d.rest:Int):Rat)*fZ d b5 d.n)]) /\
   RO (AB b5 d.n)/\RO (fN d b5 d.n)/\RO (js d b5 d.n+((0-d.rest:Int):Rat)*fZ d b5 d.n):=by
 have:=H.n4;have:=H.w2;have:=H.re;have M:∀j,j<d.w->Sz D cB (P2 d j):=λj l=>gG (bw (by have:=H.wk j l;lia) (by have:=H.wk j l;simp only[*];done)) f5;generalize K:nj (rl d.n λt=>P0 d.w (b5 t))=p
 have v:∀t,t<d.n->u9 p (.int t)=sd (P0 d.w (b5 t)):=λt r=>by
  rw[<-K,pz,G7 (λt=>P0 d.w (b5 t)) r];rfl
 have T:fZ d b5 0=d.start:=by show(d.start:Rat)+0=_;grind
 obtain⟨m,S,a,E⟩:=eT (gt:=C1 6) (G:=oS)
  (λj e=>∃a,e=cS (m7 d) p 0 (l9 (P2 d) j) 0 d.start a J J J J) ⟨J,rfl⟩ (by
   rintro j h e u ⟨a,rfl⟩;have l:j<d.w:=by
    have:=(List.getElem?_eq_some_iff.mp u).1
    rwa [A6]at this
   have V:h=G0 (d.wk j):=by rw[L1,SQ l]at u;exact(R1 u).symm
   subst V;exact⟨_,_,rfl,.inl (m2 (v7 (y:=.dat (qd (P2 d j))) rfl rfl (jT (ko hD (eu j λi q=>M i (kN k8 k8)) j7) (ko hD (nV (M j l)) f5))) rfl),sd (G0 (d.wk j)),rfl⟩)
 rw[A6]at E;obtain⟨W,h2,A,s,o,f,c,R⟩:=dh (gt:=C1 7) (ds:=cS (m7 d) p 0 (l9 (P2 d) d.w) 0 d.start a J J J J)
  (λt e=>∃a s o f c,e=cS (m7 d) p (AB b5 t) (fN d b5 t) (js d b5 t) (fZ d b5 t) a s o f c) ⟨a,J,J,J,J,by
   rw[T,show fN d b5 0=l9 (P2 d) d.w by show l9 (P2 d) d.w-0=_;grind]
   rfl⟩ (by rintro t e r ⟨a,s,o,f,c,rfl⟩;obtain⟨z8,z9,z10,B⟩:=MH hD H ok P r (v t r) a o f c;exact⟨_,_,rfl,.inl (by rw[O1];exact B),_,_,_,_,_,rfl⟩)
 have N:Sz D (cB*(1+d.n)) (fZ d b5 d.n):=by
  have:=(nV (gG (bw (n:=d.start) (by have:=H.st;lia) (by have:=H.st;lia)) f5)).add (eu d.n λi q=>(P i q).lv);rw[<-cC]at this;exact this
 have C:Sz D (2 ^ 20*(cB*(1+d.n))) (((0-d.rest:Int))*fZ d b5 d.n):=by have:=(bw (D:=1) (n:=0-d.rest) j7 j7).mul N;rw[Z1]at this;exact this
 have F:=eu d.n λk z=>by obtain⟨⟨a0,a1⟩,c0,c1⟩:=Rq H z;have I:=(bw (D:=1) (n:=eO (d.hr k)) j7 (Q8 k8 f5)).mul (P k z).b;have L:=(bw (D:=1) (n:=0-dZ (d.hr k)) j7 j7).mul (P k z).g;rw[Z1]at I L;exact gG (I.add L) f5
 have Y:RO ((0-d.rest:Int)):=ko hD (nV (gG (bw j7 j7) f5)) f5;have Z:((1+d.n):Int)<=5:=by lia
 have O:(2 ^ 20*(cB*(1+d.n)))<=2 ^ 90:=Q8 (fF (fF Z f5) f5) f5;have Q:(cB*d.n)<=2 ^ 90:=Q8 (fF (show(d.n:Int)<=5 by lia) f5) f5;refine⟨?_,ko hD (eu d.n λi q=>(P i q).la) (p5 k8 f5),ko hD (Ka H P y4) f5,(F.add C).ok hD (Q8 (Int.add_le_add Q O) f5)⟩;refine R7 rfl ?_;refine k7 rfl ?_;refine k7 rfl ?_;refine k7 rfl ?_;refine k7 rfl ?_;refine k7 (ds1:=cS (m7 d) p 0 (l9 (P2 d) d.w) 0 d.start a J J J J) (by rw[<-E];exact S) ?_;refine k7 (ds1:=cS (m7 d) p (AB b5 d.n) (fN d b5 d.n) (js d b5 d.n) (fZ d b5 d.n) A s o f c) ?_ ?_
 . delta D4;rw[show x9 C9 (f6 (f9 A9 (f6 (j4 1) l7)) l7) (cS (m7 d) p 0 (l9 (P2 d) d.w) 0 d.start a J J J J)=U (Q1 0 d.n)from by
    show(((A9 [p]).bind λx=>U [x.d]).bind C9)=_;rw[<-K,qG,A7];show C9 [.int d.n]=_
    rw[O7 j7,ck],n8,h2,R]
 refine fY ?_;delta n9 M9;rw[xN rfl rfl (v7 (x:=.dat (qd (js d b5 d.n))) rfl (v7 (x:=.dat (qd ((0-d.rest:Int)))) (y:=.dat (qd (fZ d b5 d.n))) rfl rfl (jE Y (ko hD N j7))) (jT (ko hD F (p5 k8 f5)) (C.ok hD (Q8 (fF (fF (show((1+d.n):Int)<=5 by omega) f5) f5) f5))))];rfl
structure vk(h:o6)(P:Pl):Prop where
 lk:∀t,t<h.hs.length->0<=P.lk t/\P.lk t<=((h.hs.getD t G9).need:Rat)
 sp:∀t,t<h.hs.length->0<=P.sp t
 bo:∀t a b c d,t<h.hs.length->(h.hs.getD t G9).line=U (a,b,c,d)->(0<=P.bo t/\P.bo t<=(b:Rat))/\0<=P.gv t/\P.gv t<=(d:Rat)
 nl:∀t,(h.hs.getD t G9).line=J->P.bo t=0/\P.gv t=0
 fl:∀t,t<h.hs.length->0<=P.fl t/\P.fl t<=(h.fill:Rat)
 tk:∀t,t<h.hs.length->0<=P.tk t/\P.tk t<=(h.take:Rat)
 lv:∀t,t<h.hs.length->0<=P.lv t/\P.lv t<=(h.size:Rat)
 un:∀j,j<h.ws.length->0<=P.un j/\P.un j<=((h.ws.getD j V2).K5:Rat)
 wk:∀j i,j<h.ws.length->i<dD h j->0<=P.wk (N2 h j+i) j/\P.wk (N2 h j+i) j<=((h.ws.getD j V2).most:Rat)
 r1:∀s,s<h.hs.length->P.lk s+P.bo s+val h.left*P.tk s-P.sp s-P.gv s-P.fl s-JR h P s=((h.hs.getD s G9).need:Rat)-((h.hs.getD s G9).Y1:Rat)
 r2:∀s,s<h.hs.length->P.lv s=(h.start:Rat)+l9 (λt=>val h.kept*P.fl t-P.tk t) (s+1)
 r3:∀j,j<h.ws.length->P.un j+l9 (λi=>P.wk (N2 h j+i) j) (dD h j)=((h.ws.getD j V2).K5:Rat)
def YB(Y:List Key->Rat)(x:Ch):Prop:=0<=Y x.k/\∀q,x.t=U q->Y x.k<=val q
theorem fM{c:Tr}{ns:List (Nat×Q2)}(e:X a9=z):YB X ⟨a9,c,U (D,1),ns⟩↔0<=z/\z<=(D:Rat):=by rw[<-e,<-bU D];exact⟨λa=>⟨a.1,a.2 _ rfl⟩,λa=>⟨a.1,λq Y=>by cases Y;exact a.2⟩⟩
theorem a1f(A:Ag d X R)(F:vk d R):∀x∈m9 d,YB X x:=by
 intro x e;rcases List.mem_append.mp e with e|e
 . obtain⟨t,g,e⟩:=mem_flatMap.mp e;have g:=mem_range.mp g;rcases List.mem_append.mp e with e|e
   . rcases List.mem_append.mp e with e|e
     . simp only[X3,fB,dI]at e;rcases e with rfl|rfl
       exact(fM (A.lk t)).mpr (F.lk t g);exact⟨by show 0<=X (k2 "spilt" t);rw[A.sp];exact F.sp t g,λq z=>by exact nE z⟩
     . unfold cx at e;cases hl:(d.hr t).line with
       |none=>rw[hl]at e;cases e
       |some l =>
        obtain⟨a,b,c,h⟩:=l;rw[hl]at e;obtain⟨n,o⟩:=A.bo t (by rw[hl];simp)
        have f:=F.bo t a b c h g hl;simp only[X3,fB,dI]at e;rcases e with rfl|rfl
        exact(fM n).mpr f.1;exact(fM o).mpr f.2
   . unfold bh at e;simp only[X3,fB,dI]at e;rcases e with rfl|rfl|rfl
     exact(fM (A.fl t)).mpr (F.fl t g);exact(fM (A.tk t)).mpr (F.tk t g);exact(fM (A.lv t)).mpr (F.lv t g)
 . obtain⟨j,k,e⟩:=mem_flatMap.mp e;have k:=mem_range.mp k;rcases List.mem_cons.mp e with rfl|e
   exact(fM (A.un j)).mpr (F.un j k);obtain⟨i,m,rfl⟩:=mem_map.mp e;exact(fM (A.wk _ j)).mpr (F.wk j i k (mem_range.mp m))
theorem GX(x:Hr):val (jS x)=iA x*((x.need:Rat)-(x.Y1:Rat)):=by
 delta jS iA;rw[bU];by_cases c:x.Y1<=x.need;rw[j1 o9,j2 c,tE];grind;rw[j2 j7,j1 c,Em,tE];grind
theorem a0D(x:Hr):iA x*iA x=1:=by delta iA;split<;>grind
theorem a1e(A:Ag d X R)(H:C5 d)(F:vk d R)(c:m<hM d):ls (gP X m) (m9 d)=val ((G5 d).getD m q0):=by
 rcases yW c with a|⟨s,a,rfl⟩|⟨j,b,rfl⟩
 rw[XI A H.s a,F.r1 m a,Tp a,GX];rw[XH A H.s a,F.r2 s a,To a,bU];grind;rw[XG A H.s b,F.r3 j b,Tn b,bU]
theorem ZS(A:Ag d X R)(H:C5 d)(B:∀x∈m9 d,YB X x)(Y:∀p,p<hM d->ls (gP X p) (m9 d)=val ((G5 d).getD p q0)):vk d R:=by
 have f:∀{t:Nat},t<d.n->∀{x:Ch},x∈W3 d t->YB X x:=λe x m=>B x (P9 _ (mem_flatMap.mpr ⟨_,mem_range.mpr e,m⟩))
 refine⟨λt e=>(fM (A.lk t)).mp (f e (P9 _ (P9 _ v8))),λt e=>?_,λt a b c h e o=>?_,A.nl,λt e=>(fM (A.fl t)).mp (f e (F4 _ v8)),
  λt e=>(fM (A.tk t)).mp (f e (F4 _ (u7 _ v8))),λt e=>(fM (A.lv t)).mp (f e (F4 _ (u7 _ (u7 _ v8)))),
  λj g=>(fM (A.un j)).mp (B _ (F4 _ (mem_flatMap.mpr ⟨j,mem_range.mpr g,v8⟩))),λj i g q=>(fM (A.wk _ j)).mp (B _ (F4 _ (mem_flatMap.mpr ⟨j,mem_range.mpr g,u7 _ (mem_map.mpr ⟨i,mem_range.mpr q,rfl⟩)⟩))),λs k=>?_,λs k=>?_,λj g=>?_⟩
 rw[<-A.sp];exact(f e (P9 _ (P9 _ (u7 _ v8)))).1;obtain⟨r,u⟩:=A.bo t (by rw[o];simp);have l:∀x∈cx t (d.hr t),YB X x:=λx m=>f e (P9 _ (F4 _ m));unfold cx at l;rw[o]at l;exact⟨(fM r).mp (l _ v8),(fM u).mp (l _ (u7 _ v8))⟩;have:=Y s j7;rw[XI A H.s k,Tp k,GX]at this;have:=a0D (d.hr s);grind;have:=Y (d.n+s) j7;rw[XH A H.s k,To k,bU]at this;grind;have:=Y (2*d.n+j) o9;rw[XG A H.s g,Tn g,bU]at this;exact this
noncomputable def mD(Y:List Key->Rat):Pl:=⟨λt=>Y (k2 "lacked" t),λt=>Y (k2 "spilt" t),λt=>Y (k2 "bought" t),λt=>Y (k2 "given" t),λt=>Y (k2 "filled" t),λt=>Y (k2 "taken" t),λt=>Y (k2 "level" t),λj=>Y (k2 "undone" j),λt j=>Y (nR t j)⟩
section
variable{T:Sx.Tb}
theorem GW(c:(d.hr m).line=J)(hs:B = "bought"\/B = "given"):k2 B m∉aB d:=λf=>by
 obtain⟨x,a,e⟩:=mem_map.mp f;rcases List.mem_append.mp a with a|a
 . obtain⟨h,_,a⟩:=mem_flatMap.mp a;obtain⟨g,_,b⟩:=pF d h a;have:=(ky (e.symm.trans b)).2;subst this;unfold W3 dF cx bh at a;rw[c]at a;simp only[ak,aW,X3,fB,dI]at a;rcases hs with rfl|rfl<;>rcases a with rfl|rfl|rfl|rfl|rfl<;>exact absurd (ky e).1 t4
 . obtain⟨j,_,a⟩:=mem_flatMap.mp a;rcases rG d j a with b|⟨i,b⟩<;>rw[b]at e
   . rcases hs with rfl|rfl<;>exact absurd (ky e).1 t4
   have:=r9 iY e;simp[k2]at this
theorem Wa(c:¬(N2 d e<=m/\m<N2 d e+dD d e)):nR m e∉aB d:=λl=>by
 obtain⟨x,a,j⟩:=mem_map.mp l;rcases List.mem_append.mp a with a|a
 obtain⟨f,_,a⟩:=mem_flatMap.mp a;obtain⟨t,_,k⟩:=pF d f a;rw[k]at j;have:=r9 iY j;simp[k2,nR]at this
 . obtain⟨b,_,a⟩:=mem_flatMap.mp a;rcases List.mem_cons.mp a with rfl|a
   have:=r9 iY j;simp[aT,k2,nR]at this
   . obtain⟨i,h,rfl⟩:=mem_map.mp a;simp only[rF,nR,MZ]at j;have g:b=e:=by lia
     subst g;exact c ⟨by show N2 d b<=m;have:=j.1;lia,by have:=j.1;have:=(mem_range.mp h);lia⟩
theorem Uc:Ag d (yK d T) (mD (yK d T)):=⟨λ_=>rfl,λ_=>rfl,λ_ _=>⟨rfl,rfl⟩,λt a=>⟨we (GW a (.inl rfl)),we (GW a (.inr rfl))⟩,λ_=>rfl,λ_=>rfl,λ_=>rfl,λ_=>rfl,λ_ _=>rfl⟩
theorem Cv(f:Ch->Rat):l9 (λj=>f (bB d j)) (m9 d).length=ls f (m9 d):=by rw[Zl f _ _ y4,Nl]
theorem ZR(H:C5 d)(K:Sx.Ok (o1 d).pb T):vk d (mD (yK d T)):=by
 refine ZS Uc H (λx a=>WU H K a) λp b=>?_;have:=Rl (iG H) K b;rw[<-Cv];refine(t5 _ λj c=>?_).trans this;show val (eH (bB d j).ns q0 p)*yK d T (bB d j).k=_;rw[SO c];rfl
noncomputable def Pl.at(P:Pl):List Key->Rat
 | [.inr s,.inl t]=>if s = "lacked" then P.lk t.toNat else if s = "spilt" then P.sp t.toNat else if s = "bought" then P.bo t.toNat else if s = "given" then P.gv t.toNat else if s = "filled" then P.fl t.toNat else if s = "taken" then P.tk t.toNat else if s = "level" then P.lv t.toNat else P.un t.toNat
 | [.inr _,.inl t,.inl j]=>P.wk t.toNat j.toNat
 |_=>0
theorem JF(F:vk d R):Ag d R.at R:=by
 have e:∀s t,R.at (k2 s t)=if s = "lacked" then R.lk t else if s = "spilt" then R.sp t else if s = "bought" then R.bo t else if s = "given" then R.gv t else if s = "filled" then R.fl t else if s = "taken" then R.tk t else if s = "level" then R.lv t else R.un t:=λs t=>rfl;have n:∀{a b:Str},decide (a=b)=U'->¬a=b:=λd=>of_decide_eq_false d
 refine⟨λt=>?_,λt=>?_,λt _=>⟨?_,?_⟩,F.nl,λt=>?_,λt=>?_,λt=>?_,λt=>?_,λt j=>rfl⟩<;>rw[e]
 simp;rw[j1 (n t4),j2 rfl];rw[j1 (n t4),j1 (n t4),j2 rfl];rw[j1 (n t4),j1 (n t4),j1 (n t4),j2 rfl];rw[j1 (n t4),j1 (n t4),j1 (n t4),j1 (n t4),j2 rfl];rw[j1 (n t4),j1 (n t4),j1 (n t4),j1 (n t4),j1 (n t4),j2 rfl];rw[j1 (n t4),j1 (n t4),j1 (n t4),j1 (n t4),j1 (n t4),j1 (n t4),j2 rfl];rw[j1 (n t4),j1 (n t4),j1 (n t4),j1 (n t4),j1 (n t4),j1 (n t4),j1 (n t4)]
theorem Dq(H:C5 d)(A:Ag d X R)(e:∀j,j<(m9 d).length->C j=X (bB d j).k)(a:m<3):l9 (λj=>val (N7 ((o1 d).cost j) m)*C j) (o1 d).n=cV d R m:=by rw[<-Sb A H.n1 a,<-Cv];exact t5 _ λj b=>by rw[e j b];rfl
theorem least(H:C5 d)(K:Sx.Ok (o1 d).pb T)(ne:∀j,j<(o1 d).n->¬Sx.N0 (o1 d).pb T j)(F:vk d R):
  NN (cV d R 0-cV d (mD (yK d T)) 0) (cV d R 1-cV d (mD (yK d T)) 1) (cV d R 2-cV d (mD (yK d T)) 2):=by
 have B:=a1f (JF F) F;refine JD (iG H) K ne (λj a=>(B _ (fo a)).1) (λj q a hq=>(B _ (fo a)).2 q hq) (λp c=>?_) (Δ:=λi=>if i<3 then cV d R i-cV d (mD (yK d T)) i else l9 (λj=>val (N7 ((o1 d).cost j) i)*R.at (bB d j).k) (o1 d).n-l9 (λj=>val (N7 ((o1 d).cost j) i)*val (T5 (o1 d) T j)) (o1 d).n) λi=>?_;have:=a1e (JF F) H F c;rw[<-Cv]at this;exact this;by_cases b:i<3;rw[j2 b,Dq H (JF F) (λ_ _=>rfl) b,Dq H Uc (λj a=>(SO a).symm) b];rw[j1 b]
end
section
variable{h:o6}{T:Sx.Tb}
theorem Th{q:Q2}(hq:t2 m q)(hd:q.2∣D)(a:0<=val q)(c:val q<=(M:Rat)):Sz D M (val q):=by
 refine⟨?_⟩;rw[<-eF hq.pos hq.low];refine⟨hq.pos,hq.low,hd,?_⟩;have:=(rY hq.pos).mpr a;have b:=rJ (p:=(M,1)) t7 hq.pos;rw[bU,S6 (Rat.not_lt.mpr c)]at b;have:=of_decide_eq_false b;lia
abbrev dY(h:o6)(T:Sx.Tb):Int:=h.kept.2*(T.size*(o1 h).un)*h.kept.1
theorem OI(H:C5 h)(K:Sx.Ok (o1 h).pb T)(g:∀t,a9≠k2 "spilt" t):Sz (T.size*(o1 h).un) 1000000 (yK h T a9):=by
 by_cases c:a9∈aB h
 . obtain⟨x,d,rfl⟩:=mem_map.mp c;have C:=qQ H x d;obtain⟨a,b⟩:=xH d;have B:=WU H K d;cases ht:x.t with
   |none=>obtain⟨_,t,e⟩:=C.fr ht;exact absurd e (g t)
   |some q =>
    obtain⟨j,m,l⟩:=C.tp q ht;have f:=B.2 q ht;have i:val q<=1000000:=by obtain⟨u,v⟩:=q;subst j;rw[bU];exact Rat.intCast_le_intCast.mpr l
    rw[HR d]at B f ⊢;have:=LO H K a;exact Th this.1 this.2 B.1 (Rat.le_trans f i)
 rw[we c];exact Sz.zero f5
theorem TU(H:C5 h)(K:Sx.Ok (o1 h).pb T):AS (dY h T):=by obtain⟨a,c⟩:=sx H;have O:=iG H;have:=fz a O.un.2.1;refine⟨F0 (F0 H.k.pos (F0 K.C7.pos O.un.1)) H.k0.1,?_⟩;exact(((H.k.bb.mul ((zJ H K).1.mul (n:=8) (uL (b:=225) ⟨by decide⟩ (by have:=O.un.1;lia) (Q8 k8 k8)))).mul H.k.bt)).mono f5
theorem kv(H:C5 h):0<val h.kept/\Sz h.kept.2 1 (val h.kept)/\Sz h.kept.1 15 (val h.kept)⁻¹:=by
 have a:=H.k.pos;have e:val h.kept=h.kept.1/h.kept.2:=rfl;have b:0<val h.kept:=by rw[e,DP];exact dk (N9 H.k0.1) (Rat.inv_pos.mpr (N9 a))
 have q:=eF H.k.pos H.k.low;refine⟨b,⟨?_⟩,⟨?_⟩⟩;rw[<-q];exact⟨a,H.k.low,gu _,by have:=H.k0;omega⟩;rw[xi b,<-q];exact⟨H.k0.1,by show u4 h.kept.2 h.kept.1=1;rw[xW];exact H.k.low,gu _,by show h.kept.2.natAbs<=15*h.kept.1;have:=H.k.bb.lt;have:=H.k0;lia⟩
theorem ME(H:C5 h)(K:Sx.Ok (o1 h).pb T)(t:Nat):JK h (yK h T) t/\Fz h (dY h T) (Z8 h (yK h T) t):=by
 obtain⟨n,o,g⟩:=kv H;have hD:=TU H K;have ne:∀{s:Str},s ≠ "spilt"->∀t',k2 s t≠k2 "spilt" t':=λq t' e=>q (ky e).1;have p:T.size*(o1 h).un∣dY h T:=⟨h.kept.2*h.kept.1,by show h.kept.2*(T.size*(o1 h).un)*h.kept.1=_;rw[F1 h.kept.2,L9]⟩;have d:h.kept.2*(T.size*(o1 h).un)∣dY h T:=⟨h.kept.1,rfl⟩;have big:∀{k:List Key},(∀t,k≠k2 "spilt" t)->∀{M:Int},1000000<=M->Sz (dY h T) M (yK h T k):=λc _ hM=>(OI H K c).mono p hM;have ok:∀{k:List Key},(∀t,k≠k2 "spilt" t)->RO (yK h T k):=λc=>(big c (pR _)).ok hD f5
 have l:∀t',k2 "filled" t≠k2 "spilt" t':=ne t4;have m:∀t',k2 "taken" t≠k2 "spilt" t':=ne t4;have i:Sz (h.kept.2*(T.size*(o1 h).un)) 1000000 (val h.kept*yK h T (k2 "filled" t)):=by have:=o.mul (OI H K l);exact this
 have f:=i.sub ((OI H K m).mono ⟨h.kept.2,by rw[F1]⟩ (pR _));have b:=(f.mono d (pR _)).ok hD f5;refine⟨⟨ok l,ok m,(i.mono d (pR _)).ok hD f5,b⟩,big (ne t4) f5,big (ne t4) f5,?_,?_,?_,?_,big (ne t4) f5,λj _=>big (λt' e=>by have:=r9 iY e;simp[k2,nR]at this) f5⟩;show RO (uR _ _ _);delta uR;split;exact lX;exact(f.mul g).ok hD f5;show RO (val h.kept*uR _ _ _);delta uR;split;rw[Rat.mul_zero];exact lX;rw[show val h.kept*((val h.kept*yK h T (k2 "filled" t)-yK h T (k2 "taken" t))*(val h.kept)⁻¹)=val h.kept*yK h T (k2 "filled" t)-yK h T (k2 "taken" t) by grind];exact b;show RO (Aq _ _ _);delta Aq;split;rw[show 0-(val h.kept*yK h T (k2 "filled" t)-yK h T (k2 "taken" t)) = - (val h.kept*yK h T (k2 "filled" t)-yK h T (k2 "taken" t)) by grind];exact b.neg;exact lX;show Sz _ _ (val h.kept*uR _ _ _-Aq _ _ _);rw[(GF (yK h T (k2 "filled" t)) (yK h T (k2 "taken" t)) n)];exact f.mono d f5
theorem qw(f:Nat->Rat)(a:Nat):∀m,l9 f (a+m)=l9 f a+l9 (λi=>f (a+i)) m
 | 0=>by show l9 f a=l9 f a+0;grind
 |m+1=>by
  show l9 f (a+m)+f (a+m)=_+(_+f (a+m));rw[qw f a m];grind
theorem BI{g:Nat->Rat}{a n:Nat}(h:a+n<=N):l9 (λt=>if a<=t/\t<a+n then g t else 0) N=l9 (λi=>g (a+i)) n:=by
 rw[show N=a+(n+(N-a-n)) by omega,qw,qw,T3 λi b=>j1 j7,t5 n λi b=>j2 (show a<=a+i/\a+i<a+n by simp[*]),T3 λi b=>j1 o9];grind
structure IsB(h:o6)(c:Nat->Rat):Prop where
 ex:∃P,vk h P/\∀i,i<3->cV h P i=c i
 le:∀P,vk h P->NN (cV h P 0-c 0) (cV h P 1-c 1) (cV h P 2-c 2)
end
abbrev ry(i:Int):Prop:=0<=i/\i<=1000000
abbrev PrB(i:Int):Prop:=-1000000<=i/\i<=1000000
structure Fy(h:Hr):Prop where
 Y1:ry h.Y1
 need:ry h.need
 line:∀a b c d,h.line=U (a,b,c,d)->PrB a/\ry b/\PrB c/\ry d
structure JH(n:Int)(w:Wk):Prop where
 K5:ry w.K5
 first:0<=w.first
 fl:w.first<=w.last
 last:w.last<n
 most:ry w.most
structure HM(h:o6):Prop where
 hs:∀x∈h.hs,Fy x
 h1:1<=h.hs.length
 hl:h.hs.length<=4
 size:ry h.size
 start:ry h.start
 full:h.start<=h.size
 fill:ry h.fill
 take:ry h.take
 kept:t2 4 h.kept
 left:t2 4 h.left
 kp:0<h.kept.1/\h.kept.1<=h.kept.2
 lf:0<h.left.1/\h.left.1<=h.left.2
 rest:0<=h.rest/\h.rest<=1000
 ws:∀w∈h.ws,JH h.hs.length w
 wl:h.ws.length<=2
theorem mO{Fk Fm:DV}(u:r[0]? = U (sd (F9 K)))(v:Fk r=sd (.int D))(w:Fm r=sd (.int E))(e:D2 [F9 K,.int D,.int E]=sd (.int M)):f9 D2 (f6 (j4 0) (f6 Fk (f6 Fm l7))) r=sd (.int M):=jL (x:=.dat (F9 K)) (by delta j4;rw[u]) v w e
theorem aU(p:G r=sd (.int D))(q:o r=sd (.int E)):j8 p8 G o r=sd (.int (D+E)):=(B2 p q).trans rfl
theorem Bj(p:G r=sd (.int D))(q:o r=sd (.int E)):j8 dR G o r=sd (.int (D-E)):=(B2 p q).trans rfl
theorem Bo(p:G r=sd (.int D))(q:o r=sd (.int E))(e:F7 (.int D) (.int E)=sd (.int M)):j8 F7 G o r=sd (.int M):=(B2 p q).trans e
theorem ZU(p:G r=sd (.int D)):o8 (j8 Z7 G (fC (.int 0))) r=U (decide (D=0)):=by delta o8;rw[B2 (y:=.dat (.int 0)) p rfl];rfl
theorem Zx{x:PV}(h:V4 A D=U x.d):u9 (.list A) (.int D)=sd x.d:=by rw[qH,h];rfl
theorem wY(u:r[0]? = U (sd (F9 K)))(v:G r=sd (.int D))(w:o r=sd (.int E))(e:I0 [F9 K,.int D,.int E]=sd (.int M)):f9 I0 (f6 (j4 0) (f6 G (f6 o l7))) r=sd (.int M):=jL (x:=.dat (F9 K)) (by delta j4;rw[u]) v w e
theorem ZL(p:G r=sd (.int D)):o8 (j8 uY G (fC (.int 0))) r=U (decide (0<D)):=by delta o8;rw[B2 (y:=.dat (.int 0)) p rfl];rfl
theorem Xl{Fc:DV}{x y:PV}(p:G r=U x)(q:o r=U y)(e:Fc r=U l):n9 (f6 G (f6 o (f6 Fc l7))) r=sd (.tuple [x.d,y.d,l.d]):=by delta n9;rw[xN p q e];rfl
theorem Ub{ds1:Ds}{pv:PV}(h:G r=U pv)(u:r[m]? = U (U (.own A)))(v:A.length<1000)(w:r.set m (U (.own (A++[pv.d])))=ds1):cy m G r=U (.next ds1):=by rw[jF,h,cQ pv u (kN v f5),w]
theorem MT{Fa Fb Fc a:Ds->Option PV}{x z:PV}(c:Fa r=U x)(e:Fb r=U l)(b:Fc r=U z)(hd:a r=U P):f6 Fa (f6 Fb (f6 Fc (f6 a l7))) r=U [x.d,l.d,z.d,P.d]:=by unfold f6;rw[c,n8,e,n8,b,n8,hd,n8];rfl
theorem a0h{Fa Fb Fc f Fe:Ds->Option PV}{c d e:PV}(g:Fa r=U l)(j:Fb r=U P)(i:Fc r=U c)(hd:f r=U d)(h:Fe r=U e):f6 Fa (f6 Fb (f6 Fc (f6 f (f6 Fe l7)))) r=U [l.d,P.d,c.d,d.d,e.d]:=by unfold f6;rw[g,n8,j,n8,i,n8,hd,n8,h,n8];rfl
theorem iI{T:Ds->Option Bool}{A B:Ds->Option Out}{b:Bool}{a:Option Out}(h:T r=U b)(hr:(if b=Uf then A r else B r)=a):M0 T A B r=a:=by unfold M0;rw[h];exact hr
theorem hJ{k most:Int}(f:K.length<=63)(o:0<=k)(n:k<=100000)(m0:0<=most)(m1:most<=12):∃r:Int,I0 [F9 K,.int k,.int most]=sd (.int r)/\ry r:=by
 obtain⟨a,g,q,h⟩:=U2 (k:=1) (m:=6) f f5 f5 f5;obtain⟨b,p,j,i⟩:∃b:Int,V4 [V0 1,.int 1,.int 1,.int 1,.int 1,.int 1000] a=U (.int b)/\0<=b/\b<=83333:=by
  have:a=0\/a=1\/a=2\/a=3\/a=4\/a=5:=by lia
  rcases this with rfl|rfl|rfl|rfl|rfl|rfl<;>exact⟨_,rfl,by decide,by decide⟩
 obtain⟨u,v,_,_⟩:=U2 (k:=k+2900) (m:=8) f j7 j7 f5;obtain⟨d,l,e,s⟩:=U2 (k:=k) (m:=most+1) f jM (Q8 k8 f5) (Int.add_le_add_right k8 _);have c:∀b:Int,0<=b->b<=83333->F7 (.int b) (.int d)=sd (.int (b*d))/\ry (b*d):=λb j i=>by refine⟨t6 (Bt.nX j7 (yq k8 f5)) (Bt.nX j7 j7),gz j e,?_⟩;exact Q8 (tw i (show d<=12 by lia) e f5) f5
 have go:∀z:Int,0<=z->z<=83333->(if decide (u=0)=Uf then k9 3 (fC (.int 83333)) [sd (F9 K),iD k,iD most,iD b]else E4 [sd (F9 K),iD k,iD most,iD b])=U (.next [sd (F9 K),iD k,iD most,iD z])->I0 [F9 K,.int k,.int most]=sd (.int (z*d)):=λz z0 z1 t=>R7 rfl (k7 (ds1:=[sd (F9 K),iD k,iD most,iD b]) (m2 ((B2 (x:=.own [.int 1,.int 1,.int 1,.int 1,.int 1,.int 1000]) (y:=.dat (.int a)) rfl (mO rfl rfl rfl g)).trans (Zx (x:=.dat (.int b)) p)) rfl) (k7 (iI (ZU (mO rfl (aU rfl rfl) rfl v)) t) (fY (Bo rfl (mO rfl rfl (aU rfl rfl) l) (c z z0 z1).1))));by_cases z:u=0;exact⟨_,go 83333 f5 f5 ((j2 (du z)).trans rfl),(c 83333 f5 f5).2⟩;exact⟨_,go b j i ((j1 (by rw[S6 z];decide)).trans rfl),(c b j i).2⟩
theorem LS{t b:Int}(d:1<=t)(c:t<=b):0<(w9 t b).1/\(w9 t b).1<=(w9 t b).2:=by
 have:0<u4 t b:=qU t j7;have a:0<gc t b:=by lia
 have e:w9 t b=(t/gc t b,b/gc t b):=by delta w9;rw[j1 j7,aq _ o9,aq _ o9]
 rw[e];exact⟨Fs k8 o9 (jc ..),Int.ediv_le_ediv a c⟩
theorem BM{k:Int}(a:K.length<=63)(i:0<=k)(h:k<=10000):∃q:Q2,ik [F9 K,.int k]=sd (fr q)/\t2 4 q/\0<q.1/\q.1<=q.2:=by
 obtain⟨b,e,r,j⟩:=U2 (k:=k+1) (m:=12) a j7 (yq k8 f5) f5;obtain⟨t,d,p,l⟩:=U2 (k:=k+2) (m:=1+b) a j7 j7 (yH k8);obtain⟨v,g,o,n⟩:=U2 (k:=k) (m:=5) a jM (Q8 k8 f5) f5;have L:t2 4 (w9 (1+t) (1+b)):=eN (yH k8) ⟨by omega⟩ ⟨by omega⟩
 obtain⟨q,hq,c,f⟩:∃q:Q2,V4 [.tuple [.int 1,.int 1],.tuple [.int 1,.int 2],.tuple [.int 9,.int 10],.tuple [.int 2,.int 3],fr (w9 (1+t) (1+b))] v=U (fr q)/\t2 4 q/\0<q.1/\q.1<=q.2:=by
  have:v=0\/v=1\/v=2\/v=3\/v=4:=by lia
  rcases this with rfl|rfl|rfl|rfl|rfl
  exact⟨(1,1),rfl,⟨by decide,by decide,⟨by decide⟩,⟨by decide⟩⟩,by decide⟩;exact⟨(1,2),rfl,⟨by decide,by decide,⟨by decide⟩,⟨by decide⟩⟩,by decide⟩;exact⟨(9,10),rfl,⟨by decide,by decide,⟨by decide⟩,⟨by decide⟩⟩,by decide⟩;exact⟨(2,3),rfl,⟨by decide,by decide,⟨by decide⟩,⟨by decide⟩⟩,by decide⟩;exact⟨_,rfl,L,(LS (t:=1+t) (b:=1+b) (yH k8) j7)⟩
 delta ik;walk_at "r";rw[e];walk_at "r";rw[d];walk_at "r";rw[norm_eq j7 (Bt.nX j7 j7)];rw[cQ _ rfl t7];walk_at "r";rw[g];walk_at "r";rw[hq];exact⟨q,rfl,c,f⟩
theorem Jn{t:Int}(b:K.length<=63)(T:0<=t)(X:t<4)(n:Option PV)(L:List f7)(W:L.length<1000)(A H I x7:Option PV)(r:Ds):
  ∃h:Hr,Fy h/\∃B q P z,gE (sd (F9 K)::n::U (.own L)::iD t::A::H::I::x7::r)=U (.next (sd (F9 K)::n::U (.own (L++[x6 h]))::iD t::B::q::P::z::r)):=by
 have D:=λ(j m) (w:0<=j) (C:j<100) (u:0<m)=>U2 (k:=100+20*t+j) b j7 j7 u;have N:=λj (w:0<=j) (C:j<100)=>hJ (k:=100+20*t+j) (most:=12) b j7 j7 f5 f5;obtain⟨d,F,Z,q0⟩:=U2 (k:=100+20*t) (m:=4) b j7 j7 f5;obtain⟨x,O,Y,q1⟩:=D 1 27 f5 f5 f5;obtain⟨G,E,V,S⟩:=D 3 27 f5 f5 f5;obtain⟨k,e7,_,_⟩:=D 7 8 f5 f5 f5;obtain⟨w,e8,w0,w1⟩:=D 8 (2*10 ^ 6+1) f5 f5 f5;obtain⟨y,R,v⟩:=N 2 f5 f5;obtain⟨s,Q,M⟩:=N 4 f5 f5;obtain⟨p,i,e⟩:=N 5 f5 f5;obtain⟨l,o,f⟩:=N 6 f5 f5;have g:∀pv a,a[2]? = U (U (.own L))->Aa (U pv) 2 a=U (.next (a.set 2 (U (.own (L++[pv.d]))))):=λpv a h=>cQ pv h ju;have pw:qA (.int 10) (.int 6)=sd (.int (10 ^ 6)):=Cd ⟨by decide,by decide,by decide⟩
 have mu:F7 (.int 20) (.int t)=sd (.int (20*t)):=t6 Bt.lit (Bt.nX j7 (Q8 k8 f5));have go:∀(q:Option (Int×Int×Int×Int)) (C Y z:Option PV) (G:DO),C=sd (Bq q)->G (sd (F9 K)::n::U (.own L)::iD t::iD (100+20*t)::sd .none::I::x7::r)=U (.next (sd (F9 K)::n::U (.own L)::iD t::iD (100+20*t)::C::Y::z::r)) ->
   j9 (k9 4 (j8 p8 (fC (.int 100)) (j8 F7 (fC (.int 20)) (j4 3)))) (j9 (k9 5 (fC .none)) (j9 G (cy 2 (n9 (f6 (f9 I0 (f6 (j4 0) (f6 (j8 p8 (j4 4) (fC (.int 5))) (f6 (fC (.int 12)) l7)))) (f6 (f9 I0 (f6 (j4 0) (f6 (j8 p8 (j4 4) (fC (.int 6))) (f6 (fC (.int 12)) l7)))) (f6 (j4 5) l7))))))) (sd (F9 K)::n::U (.own L)::iD t::A::H::I::x7::r)=U (.next (sd (F9 K)::n::U (.own (L++[x6 ⟨p,l,q⟩]))::iD t::iD (100+20*t)::C::Y::z::r)):=λq C Y z G hq hG=>by subst hq;exact k7 (m2 (aU rfl (Bo rfl rfl mu)) rfl) (k7 (m2 (pv:=.dat .none) rfl rfl) (k7 hG (Ub (Xl (wY rfl (aU rfl rfl) rfl i) (wY rfl (aU rfl rfl) rfl o) rfl) rfl W rfl)))
 by_cases c:0<d
 . have line : ∀a : Int, (if decide (k = 0) = Uf then k9 6 (j8 dR (f9 D2 (f6 (j4 0) (f6 (j8 p8 (j4 4) (fC (.int 8))) (f6 (j8 p8 (j8 F7 (fC (.int 2)) (j8 qA (fC (.int 10)) (fC (.int 6)))) (fC (.int 1))) l7)))) (j8 qA (fC (.int 10)) (fC (.int 6)))) (sd (F9 K) :: n :: U (.own L) :: iD t :: iD (100 + 20 * t) :: sd .none :: iD (x - 6) :: iD (G - 6) :: r) else E4 (sd (F9 K) :: n :: U (.own L) :: iD t :: iD (100 + 20 * t) :: sd .none :: iD (x - 6) :: iD (G - 6) :: r)) = U (.next (sd (F9 K) :: n :: U (.own L) :: iD t :: iD (100 + 20 * t) :: sd .none :: iD a :: iD (G - 6) :: r)) -> (-1000000 <= a /\ a <= 1000000) ->
       ∃h:Hr,Fy h/\∃B q P z,gE (sd (F9 K)::n::U (.own L)::iD t::A::H::I::x7::r)=U (.next (sd (F9 K)::n::U (.own (L++[x6 h]))::iD t::B::q::P::z::r)):=λa ea ba=>by
     refine⟨⟨p,l,U (a,y,G-6,s)⟩,⟨e,f,λ_ _ _ _ h=>by cases h;exact⟨ba,v,by omega,M⟩⟩,_,_,_,_,go _ _ (iD a) (iD (G-6)) _ rfl (iI (ZL (mO rfl rfl rfl F)) ((j2 (du c)).trans (k7 (m2 (Bj (mO rfl (aU rfl rfl) rfl O) rfl) rfl) (k7 (m2 (Bj (mO rfl (aU rfl rfl) rfl E) rfl) rfl) (k7 (iI (ZU (mO rfl (aU rfl rfl) rfl e7)) ea) (m2 (pv:=.dat (Bq (U (a,y,G-6,s)))) ?_ rfl))))))⟩;delta n9 mS;rw[MT (x:=.dat (.int a)) (z:=.dat (.int (G-6))) rfl (wY rfl (aU rfl rfl) rfl R) rfl (wY rfl (aU rfl rfl) rfl Q)];rfl
   by_cases z:k=0;refine line (w-10 ^ 6) ((j2 (du z)).trans (m2 (Bj (mO rfl (aU rfl rfl) (aU (Bo rfl ((B2 (x:=.dat (.int 10)) (y:=.dat (.int 6)) rfl rfl).trans pw) (t6 Bt.lit (by exact Bt.lit))) rfl) e8) ((B2 (x:=.dat (.int 10)) (y:=.dat (.int 6)) rfl rfl).trans pw)) rfl)) (by omega);exact line (x-6) ((j1 (by rw[S6 z];decide)).trans rfl) (by omega)
 refine⟨⟨p,l,J⟩,⟨e,f,λ_ _ _ _ h=>by cases h⟩,_,_,_,_,go J _ I x7 _ rfl (iI (ZL (mO rfl rfl rfl F)) ((j1 (by rw[S6 c];decide)).trans rfl))⟩
theorem Jm{t n:Int}(b:K.length<=63)(G:1<=n)(H:n<=4)(F:0<=t)(O:t<2)(j x3 v h i x7 x8 l e c:Option PV)(L:List f7)(I:L.length<1000):
  ∃w:Wk,JH n w/\∃x g d,ki [sd (F9 K),iD n,j,x3,v,h,i,x7,x8,l,U (.own L),iD t,e,c]=U (.next [sd (F9 K),iD n,j,x3,x,h,i,x7,x8,l,U (.own (L++[G0 w])),iD t,g,d]):=by
 obtain⟨a,y,E,q0⟩:=U2 (k:=200+10*t) (m:=n) b j7 j7 k8;obtain⟨f,C,M,N⟩:=U2 (k:=200+10*t+1) (m:=n-a) b j7 j7 o9;obtain⟨r,D,p⟩:=hJ (k:=200+10*t+2) (most:=12) b j7 j7 f5 f5;obtain⟨q,B,A⟩:=hJ (k:=200+10*t+3) (most:=8) b j7 j7 f5 f5;have u:∃z,u9 (.str "ab") (.int t)=sd (.str ⟨.mk [z]⟩):=by
  have:t=0\/t=1:=by lia
  rcases this with rfl|rfl<;>exact⟨_,rfl⟩
 obtain⟨z,s⟩:=u;have o:p8 (.str "work") (.str ⟨.mk [z]⟩)=sd (.str ("work"++⟨.mk [z]⟩)):=Sv (by show 4+1<=1000000;decide);have mu:F7 (.int 10) (.int t)=sd (.int (10*t)):=t6 Bt.lit (Bt.nX j7 (Q8 k8 f5));refine⟨⟨"work"++⟨.mk [z]⟩,r,a,a+f,q⟩,⟨p,E,by show a<=a+f;exact yH k8,by show a+f<n;lia,A⟩,_,_,_,k7 (m2 (aU rfl (Bo rfl rfl mu)) rfl) (k7 (m2 (mO rfl rfl rfl y) rfl) (k7 (m2 (aU rfl (mO rfl (aU rfl rfl) (Bj rfl rfl) C)) rfl) (Ub (pv:=.dat (G0 ⟨"work"++⟨.mk [z]⟩,r,a,a+f,q⟩)) ?_ rfl I rfl)))⟩;delta n9 xK;rw[a0h ((B2 rfl ((B2 (x:=.dat (.str "ab")) (y:=.dat (.int t)) rfl rfl).trans s)).trans o) (wY rfl (aU rfl rfl) rfl D) (c:=.dat (.int a)) rfl (d:=.dat (.int (a+f))) rfl (wY rfl (aU rfl rfl) rfl B)];rfl
abbrev qS(ns:List Int)(k:Int)(l:List f7)(a c d e g h i j m n o:Option PV):Ds:=[sd (F9 ns),iD k,U (.own l),a,c,d,e,g,h,i,j,m,n,o]
theorem Rx(d:K.length<=63):∃h:o6,oF [F9 K]=sd (m7 h)/\HM h:=by
 obtain⟨l,en,n0',n1'⟩:=U2 (k:=10) (m:=8) d f5 f5 f5;obtain⟨n,hn,n0,n1⟩:∃b:Int,V4 [V0 1,.int 2,.int 2,.int 3,.int 3,.int 2,.int 3,.int 4] l=U (.int b)/\1<=b/\b<=4:=by
  have:l=0\/l=1\/l=2\/l=3\/l=4\/l=5\/l=6\/l=7:=by lia
  rcases this with rfl|rfl|rfl|rfl|rfl|rfl|rfl|rfl<;>exact⟨_,rfl,by decide,by decide⟩
 obtain⟨sz,es,bs⟩:=hJ (k:=20) (most:=12) d f5 f5 f5 f5;obtain⟨G,et,t0,t1⟩:=U2 (k:=21) (m:=sz+1) d f5 f5 j7;obtain⟨f,ef,Z⟩:=hJ (k:=22) (most:=8) d f5 f5 f5 f5;obtain⟨g,eg,bg⟩:=hJ (k:=23) (most:=8) d f5 f5 f5 f5;obtain⟨N,O,S,V⟩:=BM (k:=30) d f5 f5;obtain⟨lf,W,T,Q⟩:=BM (k:=40) d f5 f5;obtain⟨r,er,X,r1⟩:=U2 (k:=24) (m:=13) d f5 f5 f5;obtain⟨s,ew,w0',w1'⟩:=U2 (k:=11) (m:=6) d f5 f5 f5;obtain⟨w,R,w0,w1⟩:∃b:Int,V4 [V0 0,.int 0,.int 1,.int 1,.int 2,.int 2] s=U (.int b)/\0<=b/\b<=2:=by
  have:s=0\/s=1\/s=2\/s=3\/s=4\/s=5:=by lia
  rcases this with rfl|rfl|rfl|rfl|rfl|rfl<;>exact⟨_,rfl,by decide,by decide⟩
 have g1:∀m:Nat,m<=1000->C9 [.int m]=U (Q1 0 m):=λm a=>by rw[O7 (by lia),ck]
 obtain⟨k,rfl⟩:∃k:Nat,n=k:=⟨n.toNat,by lia⟩;obtain⟨v,rfl⟩:∃v:Nat,w=v:=⟨w.toNat,by lia⟩
 obtain⟨P,h1,⟨c,p,q,F,j,u,A,y,rfl⟩⟩:=dh (gt:=C1 3) (G:=gE) (lo:=0) (n:=k) (ds:=qS K k [] J J J J J J J J J J J)
  (λi B=>∃E:List Hr,E.length=i/\(∀x∈E,Fy x)/\∃F j u A y,B=qS K k (E.map x6) F j u A y J J J J J J)
  ⟨[],rfl,by simp,J,J,J,J,J,rfl⟩ (by
   rintro i B hi ⟨E,p,q,F,j,u,A,y,rfl⟩;obtain⟨h,hh,M,z5,z6,Y,e⟩:=Jn (t:=0+i) d (by simp) j7 (iD k) (E.map x6) (by simp;lia) j u A y [J,J,J,J,J,J];refine⟨_,_,rfl,.inl e,E++[h],by simp[p],?_,iD (0+i),M,z5,z6,Y,by rw[aj];rfl⟩
   intro x a;rcases List.mem_append.mp a with a|a
   exact q x a
   . simp at a;subst a;exact hh)
 generalize ez:nj [.int sz,.int G,.int f,.int g,fr N,fr lf,.int r]=st;obtain⟨P,h2,⟨H,o,C,M,z11,I,ns,rfl⟩⟩:=dh (gt:=C1 11) (G:=ki) (lo:=0) (n:=v) (ds:=qS K k (c.map x6) F j u A y (iD sz) (sd st) (U (.own [])) J J J)
  (λi B=>∃D:List Wk,D.length=i/\(∀x∈D,JH k x)/\∃j L z v,B=qS K k (c.map x6) F j u A y (iD sz) (sd st) (U (.own (D.map G0))) L z v)
  ⟨[],rfl,by simp,j,J,J,J,rfl⟩ (by
   rintro i B hi ⟨D,o,C,j,L,z,v,rfl⟩;obtain⟨w,R,M,I,ns,e⟩:=Jm (n:=k) (t:=0+i) d (by simp_all) j7 (by simp) j7 (U (.own (c.map x6))) F j u A y (iD sz) (sd st) z v (D.map G0) (by simp;lia);refine⟨_,_,rfl,.inl e,D++[w],by simp[o],?_,M,iD (0+i),I,ns,by rw[aj];rfl⟩
   intro x a;rcases List.mem_append.mp a with a|a
   exact C x a
   . simp at a;subst a;exact R)
 refine⟨⟨c,sz,G,f,g,N,lf,r,H⟩,R7 rfl ?_,⟨q,by show 1<=c.length;lia,by show c.length<=4;lia,bs,⟨t0,by show G<=1000000;lia⟩,by show G<=sz;lia,Z,bg,S,T,V,Q,⟨X,by show r<=1000;lia⟩,λx a=>by rw[p];exact C x a,by show H.length<=2;lia⟩⟩;refine k7 (m2 (pv:=.dat (.int k)) ((B2 (x:=.own [.int 1,.int 2,.int 2,.int 3,.int 3,.int 2,.int 3,.int 4]) (y:=.dat (.int l)) rfl (mO rfl rfl rfl en)).trans (Zx (x:=.dat (.int k)) hn)) rfl) ?_;refine k7 (ds1:=qS K k [] J J J J J J J J J J J) rfl ?_;refine k7 (ds1:=qS K k (c.map x6) F j u A y J J J J J J) (by delta D4;rw[show x9 C9 (f6 (j4 1) l7) (qS K k [] J J J J J J J J J J J)=U (Q1 0 k)from g1 k (by lia)];exact h1) ?_;refine k7 (m2 (pv:=.dat (.int sz)) (wY rfl rfl rfl es) rfl) ?_;refine k7 (m2 (pv:=.dat (.tuple [.int sz,.int G,.int f,.int g])) (by delta n9 mS;rw[MT (x:=.dat (.int sz)) rfl (mO rfl rfl (aU rfl rfl) et) (wY rfl rfl rfl ef) (wY rfl rfl rfl eg)];rfl) rfl) ?_;refine k7 (ds1:=qS K k (c.map x6) F j u A y (iD sz) (sd st) J J J J) (m2 (pv:=.dat st) ((B2 (x:=.dat (.tuple [.int sz,.int G,.int f,.int g])) rfl (Xl (x:=.dat (fr N)) (y:=.dat (fr lf)) (v7 rfl rfl O) (v7 rfl rfl W) (mO rfl rfl rfl er))).trans ((Su t7).trans (by rw[<-ez];rfl))) rfl) ?_
 refine k7 (ds1:=qS K k (c.map x6) F j u A y (iD sz) (sd st) (U (.own [])) J J J) rfl ?_;refine k7 (ds1:=qS K k (c.map x6) F M u A y (iD sz) (sd st) (U (.own (H.map G0))) z11 I ns) (by
  delta D4;rw[show x9 C9 (f6 (j8 u9 (E2 (f6 (fC (.int 0)) (f6 (fC (.int 0)) (f6 (fC (.int 1)) (f6 (fC (.int 1)) (f6 (fC (.int 2)) (f6 (fC (.int 2)) l7))))))) (f9 D2 (f6 (j4 0) (f6 (fC (.int 11)) (f6 (fC (.int 6)) l7))))) l7) (qS K k (c.map x6) F j u A y (iD sz) (sd st) (U (.own [])) J J J)=U (Q1 0 v)from by have e:=(B2 (f:=u9) (Fa:=E2 (f6 (fC (.int 0)) (f6 (fC (.int 0)) (f6 (fC (.int 1)) (f6 (fC (.int 1)) (f6 (fC (.int 2)) (f6 (fC (.int 2)) l7))))))) (ds:=qS K k (c.map x6) F j u A y (iD sz) (sd st) (U (.own [])) J J J) (x:=.own [.int 0,.int 0,.int 1,.int 1,.int 2,.int 2]) (y:=.dat (.int s)) rfl (mO (Fk:=fC (.int 11)) (Fm:=fC (.int 6)) rfl rfl rfl ew)).trans (Zx (x:=.dat (.int v)) R);exact(r9 (λz:Option PV=>(z.bind λx:PV=>U [x.d]).bind C9) e).trans (g1 v (by lia))]
  exact h2) ?_
 rw[<-ez];rfl
def fh(h:o6):Int:=30*(h.kept.1*(h.kept.2*h.left.2))
abbrev Zz(h:o6)(n e:Nat)(x:Rat):Prop:=Sz (fh h ^ n) (2 ^ e) x
theorem kE{p:Prop}(h:p:=by first|assumption|exact X1 _|exact jV _ _|exact Nat.add_le_add_left (by decide) _|exact Oe (by decide)|exact Nat.add_lt_add_left (by decide) _|decide|exact p5 (by assumption) (jV _ _)|exact kS (by assumption) (Oe (by decide))|exact p5 (by decide) (Nat.le_add_left _ _)|exact p5 (by assumption) (by decide)|exact p5 (EU (by assumption) _) (by decide)|omega):p:=h
theorem a2v(O:HM d):C5 d:=by
 have hr:∀t,t<d.n->Fy (d.hr t):=λt a=>O.hs _ (by show d.hs.getD t G9∈_;rw[oA,F2 a];exact tF a);have wk:∀t,t<d.w->JH d.n (d.wk t):=λt a=>O.ws _ (by show d.ws.getD t V2∈_;rw[oA,F2 a];exact tF a);exact⟨O.h1,O.hl,O.wl,O.kept,O.kp,O.left,O.lf,⟨O.start.1,O.full,O.size.2⟩,O.fill,O.take,O.rest,λt a=>⟨(hr t a).Y1.1,(hr t a).Y1.2,(hr t a).need⟩,λt a b c h e f=>(hr t e).line a b c h f,λj a=>⟨(wk j a).K5.1,(wk j a).K5.2,(wk j a).most⟩,λj a=>⟨(wk j a).first,(wk j a).fl,(wk j a).last⟩⟩
theorem a2x(H:C5 d):0<fh d/\fh d<2 ^ 20:=by
 have:=H.k.bb.lt;have:=H.l.bb.lt;have:=H.k0;have:=H.l0;have a:d.kept.2<=15:=by omega
 have b:d.left.2<=15:=by omega
 have f:d.kept.2*d.left.2<=15*15:=tw a b (by omega) f5;have g:0<d.kept.2*d.left.2:=F0 (by omega) (by omega);have i:d.kept.1*(d.kept.2*d.left.2)<=15*(15*15):=tw (by omega) f (by exact O3 k8) f5;have j:0<d.kept.1*(d.kept.2*d.left.2):=F0 (by simp[*]) g;delta fh;omega
theorem BF(a:e<=m):(2:Int) ^ e<=2 ^ m:=by
 have:=yx (show 0<2 by decide) a
 exact_mod_cast this
theorem pw_dvd(f:Int)(a:e<=m):f ^ e∣f ^ m:=⟨f ^ (m-e),by rw[<-DN];congr 1;simp[*]⟩
theorem zm{n c:Nat}(a:Zz d n e z)(p:autoParam (n<=m) kE._auto_1)(r:autoParam (e<=c) kE._auto_1):Zz d m c z:=Sz.mono a (pw_dvd _ p) (BF r)
theorem zA{h k c:Nat}(a:Zz d N e z)(b:Zz d m h v)(p:autoParam (N<=k) kE._auto_1)(q:autoParam (m<=k) kE._auto_1)(r:autoParam (e<c) kE._auto_1)(s:autoParam (h<c) kE._auto_1):Zz d k c (z+v):=by
 have:=Sz.add (zm a p (c:=c-1) (by omega)) (zm b q (c:=c-1) (by omega))
 rwa [show(2:Int) ^ (c-1)+2 ^ (c-1)=2 ^ c by obtain⟨c,rfl⟩:∃h,c=h+1:=⟨c-1,by omega⟩;rw[Int.pow_succ,Nat.add_sub_cancel];omega]at this
theorem zS{h k c:Nat}(a:Zz d N e z)(b:Zz d m h v)(p:autoParam (N<=k) kE._auto_1)(q:autoParam (m<=k) kE._auto_1)(r:autoParam (e<c) kE._auto_1)(s:autoParam (h<c) kE._auto_1):Zz d k c (z-v):=by rw[yp];exact zA a (Sz.neg b) p q r s
theorem zM{h k c:Nat}(a:Zz d N e z)(b:Zz d m h v)(p:autoParam (N+m<=k) kE._auto_1)(r:autoParam (e+h<=c) kE._auto_1):Zz d k c (z*v):=by have:=Sz.mul a b;rw[<-DN,<-DN]at this;exact zm this
theorem zi{n:Nat}{i:Int}(a : -1000000<=i/\i<=1000000)(r:autoParam (20<=e) kE._auto_1):Zz d n e i:=zm (n:=n) (Sz.int (show(i.natAbs:Int)<=2 ^ 20 by have:(2:Int) ^ 20=1048576:=f5;omega))
theorem z0:Zz d m e 0:=Sz.zero (by have:=BF (gs e);have:(2:Int) ^ 0=1:=rfl;exact O3 k8)
theorem fD{n:Nat}(H:C5 d)(a:n<=50):AS (fh d ^ n):=by
 obtain⟨b,c⟩:=a2x H;refine⟨Int.pow_pos b,⟨?_⟩⟩;rw[Int.natAbs_pow];have f:(fh d).natAbs ^ n<=(2 ^ 20-1) ^ n:=Nat.pow_le_pow_left (by omega) n;have g:(2 ^ 20-1) ^ n<=(2 ^ 20-1) ^ 50:=yx f5 a;have:(2 ^ 20-1) ^ 50<2 ^ 1000:=t4;omega
theorem zo(H:C5 d)(a:Zz d m e z)(p:autoParam (m<=50) kE._auto_1)(r:autoParam (e<=200) kE._auto_1):RO z:=Sz.ok a (fD H p) (BF r)
theorem Sz.le(a:Sz D M z):z<=M:=by
 have b:=rJ (p:=(M,1)) (q:=q2 z) t7 (X6 z);rw[bU,V3]at b;have:=a.f.se;refine Rat.not_lt.1 λx=>?_;rw[du x]at b;have:=nA b;simp only at this;omega
theorem z_q{h:o6}(a:t2 4 u)(b:0<u.2->u.2∣fh h)(q:0<=u.1/\u.1<=u.2):fr u=qd (val u)/\0<=val u/\val u<=1/\Zz h 1 0 (val u):=by
 have v:Zz h 1 0 (val u):=⟨by rw[<-eF a.pos a.low,Int.pow_one];exact⟨a.pos,a.low,b a.pos,by rw[Int.pow_zero];omega⟩⟩;exact⟨uE a,(rY a.pos).mp q.1,v.le,v⟩
theorem lV{h:o6}{k:Int}(l:K.length<=63)(a:0<=k)(b:k<=1000000):∃p:Rat,W5 [F9 K,.int k]=sd (qd p)/\0<=p/\p<=1/\Zz h 1 0 p:=by
 obtain⟨r,e,u,v⟩:=U2 (k:=k) (m:=6) l a b f5;obtain⟨q,f,g,i,j⟩:∃q:Q2,V4 [fr (0,1),fr (1,1),fr (1,2),fr (1,3),fr (2,5),fr (1,1)] r=U (fr q)/\t2 4 q/\q.2∣30/\0<=q.1/\q.1<=q.2:=by rcases(by omega:r=0\/r=1\/r=2\/r=3\/r=4\/r=5)with rfl|rfl|rfl|rfl|rfl|rfl<;>exact⟨_,rfl,⟨by decide,by decide,⟨by decide⟩,⟨by decide⟩⟩,by decide,by decide⟩
 replace f:W5 [F9 K,.int k]=sd (fr q):=R7 rfl (fY ((B2 (x:=.own [fr (0,1),fr (1,1),fr (1,2),fr (1,3),fr (2,5),fr (1,1)]) (y:=.dat (.int r)) rfl (jL (x:=.dat (F9 K)) (y:=.dat (.int k)) (z:=.dat (.int 6)) rfl rfl rfl e)).trans (by
  show u9 (.list [fr (0,1),fr (1,1),fr (1,2),fr (1,3),fr (2,5),fr (1,1)]) (.int r)=_
  rw[qH,f];rfl)))
 obtain⟨s,t⟩:=z_q (h:=h) g (λ_=>iZ i ⟨_,rfl⟩) j;exact⟨val q,by rw[f,s],t⟩
theorem lU(a:0<=z)(b:0<=v)(c:v<=1):0<=z*v/\z*v<=z:=by
 refine⟨gy a b,?_⟩;have:=gy a (show 0<=1-v by grind);grind
theorem qo(a:RO z)(b:RO v)(u:Option PV):kh [u,sd (qd z),sd (qd v)]=U (.next [u,sd (qd (mn v z)),sd (qd v)]):=by delta kh mn;have:ip [qd v,qd z]=_:=yV b a;walk_at "r";rw[this];walk_at "r";split<;>rfl
theorem xa(x y:Rat):mn x y<=x/\mn x y<=y:=by delta mn;split<;>grind
theorem uj(x y:Rat):mn x y=x\/mn x y=y:=by delta mn;split<;>simp
theorem Bn(a:RO z)(b:RO v):RO (mn z v):=by rcases uj z v with e|e<;>rw[e]<;>assumption
theorem Mb(a:RO z)(b:RO v):∃m,R9 [.list [qd z,qd v]]=sd (qd m)/\m<=z/\m<=v/\(m=z\/m=v):=by
 have u:=xa v (mn z z);have x:=xa z z;refine⟨mn v (mn z z),?_,by grind,u.1,?_⟩;delta R9;walk_at "r";rw[C8 rfl (qo a a _),C8 rfl (qo (Bn a a) b _),CW];rfl
 . rcases uj v (mn z z)with e|e
   exact .inr e
   . rw[e];rcases uj z z with e|e<;>exact .inl e
theorem Ma{y:Rat}(a:RO v)(b:RO y)(f:RO z):∃m,R9 [.list [qd v,qd y,qd z]]=sd (qd m)/\m<=v/\m<=y/\m<=z/\(m=v\/m=y\/m=z):=by
 have u:=xa y (mn v v);have x:=xa v v;have w:=xa z (mn y (mn v v));refine⟨mn z (mn y (mn v v)),?_,by grind,by grind,w.1,?_⟩;delta R9;walk_at "r";rw[C8 rfl (qo a a _),C8 rfl (qo (Bn a a) b _),C8 rfl (qo (Bn b (Bn a a)) f _),CW];rfl
 . rcases uj z (mn y (mn v v))with e|e
   exact .inr (.inr e)
   . rw[e];rcases uj y (mn v v)with e|e
     exact .inr (.inl e)
     . rw[e];rcases uj v v with e|e<;>exact .inl e
theorem gR{g:FV}(a:G r=U l)(e:g [l.d]=b4):f9 g (f6 G l7) r=b4:=by delta f9 f6;rw[a,n8];exact e
theorem LQ(h:r[m]? = U (U (eM H A))):qE m r=U (H,A):=by
 delta qE;rw[h];show(uJ _).bind _=_;rw[MF];rfl
theorem LV{i:Nat}{w:Option Addr}{f:Nat->f7}{Fk:DV}(h:r[i]? = U (U (eM w (rl m f))))(b:Fk r=sd (.int (e:Int)))(c:e<m):sy i Fk r=sd (f e):=by
 delta sy;rw[LQ h,n8,b,n8];show u9 (.list (rl m f)) (.int (e:Int))=_;rw[qH,G7 f c];rfl
theorem ZF(c:e<m):eQ m (e:Int)=U e:=by delta eQ;rw[j2 (by simp[*]),j2 (by simp[*]),ck]
theorem Wj{f:Nat->f7}(h:r[m]? = U (U (eM H (rl e f))))(b:G r=sd (.int (N:Int)))(c:N<e)(i:o r=U l):uB m G o r=U (.next (r.set m (U (eM H (rl e λk=>if k=N then l.d else f k))))):=by
 delta uB;rw[i,n8,b,n8];show((qE m r).bind _)=_;rw[LQ h,n8];show((eQ (rl e f).length (N:Int)).bind _)=_;rw[A7,ZF c,<-fW];rfl
theorem Zj{Fc:DV}{z:PV}(a:G r=U l)(b:o r=U P)(c:Fc r=U z):E2 (f6 G (f6 o (f6 Fc l7))) r=U (.own [l.d,P.d,z.d]):=by delta E2;rw[xN a b c];rfl
theorem lY(h:G r=sd (qd z))(k:o r=sd (qd v))(u:RO z)(a:RO v):f9 D6 (f6 G (f6 (f9 F6 (f6 o l7)) l7)) r=sd (qd (z-v)):=by rw[yp];exact v7 h (gR k (Br v)) (jT u a.neg)
abbrev wS(ns:List Int)(h:o6)(w:Option Addr)(L:Nat->Rat)(r:Rat)(t k:Int)(l:List f7)(a b c:Option PV):Ds:=[sd (F9 ns),sd (m7 h),U (eM w (rl h.ws.length λi=>qd (L i))),sd (qd r),iD t,iD k,U (.own l),a,b,c]
structure Ue(h:o6)(t n e:Nat)(j:Nat)(l x:Rat):Prop where
 nn:0<=x
 le:x<=l
 most:x<=((h.ws.getD j V2).most:Rat)
 out:¬((h.ws.getD j V2).first<=(t:Int)/\(t:Int)<=(h.ws.getD j V2).last)->x=0
 z:Zz h n e x
theorem Ur{h:o6}{n:Nat}{k:Int}{x:Rat}(l:K.length<=63)(H:C5 h)(g:N<h.w)(k0:0<=k)(k1:k<=100000)(e1:20<=e)(e2:e<=150)(n1:n<=40)(hx:0<=x)(zx:Zz h n e x)(hr:0<=v)(zr:Zz h n e v):
  ∃o:Rat,Ue h m (n+1) e N x o/\o<=v/\∀(w:Option Addr) (L:Nat->Rat) (q:List f7) (u j:Option PV),L N=x->q.length<1000 ->
   ∃u' v',cL (wS K h w L v m k q (iD N) u j)=U (.next (wS K h w (λi=>if i=N then x-o else L i) (v-o) m k (q++[qd o]) (iD N) u' v')):=by
 have W2:h.w<=2:=H.w2;obtain⟨_,_,w0,w1⟩:0<=(h.wk N).K5/\(h.wk N).K5<=1000000/\0<=(h.wk N).most/\(h.wk N).most<=1000000:=H.wk N g;obtain⟨p,ep,p0,p1,zp⟩:=lV (h:=h) (k:=k+N) l (by omega) (by omega);have z1:Zz h n 20 ((h.wk N).most:Rat):=zi (by omega)
 have m0:(0:Rat)<=((h.wk N).most:Rat):=by exact_mod_cast w0
 obtain⟨t,em,a1,a2,a3,mo⟩:=Ma (zo H z1) (zo H zx) (zo H zr);obtain⟨zm',b0⟩:Zz h n e t/\0<=t:=by
  rcases mo with z|z|z<;>rw[z]
  exact⟨zm z1,m0⟩;exact⟨zx,hx⟩;exact⟨zr,hr⟩
 obtain⟨c0,c1⟩:=lU b0 p0 p1;have zz:Zz h (n+1) e (t*p):=zM zm' zp;have fin:∀(w:Option Addr) (L:Nat->Rat) (q:List f7) (o:Rat),L N=x->q.length<1000->RO o->j9 (uB 2 (j4 7) (f9 D6 (f6 (sy 2 (j4 7)) (f6 (f9 F6 (f6 (j4 9) l7)) l7)))) (j9 (k9 3 (f9 D6 (f6 (j4 3) (f6 (f9 F6 (f6 (j4 9) l7)) l7)))) (cy 6 (j4 9)))
   (wS K h w L v m k q (iD N) (sd (G0 (h.wk N))) (sd (qd o)))=U (.next (wS K h w (λi=>if i=N then x-o else L i) (v-o) m k (q++[qd o]) (iD N) (sd (G0 (h.wk N))) (sd (qd o)))):=λw L q o f lq ok=>by
  subst f;refine k7 (Wj (f:=λi=>qd (L i)) rfl rfl g (lY (LV (f:=λi=>qd (L i)) rfl rfl g) rfl (zo H zx) ok)) ?_;refine k7 (m2 (lY rfl rfl (zo H zr) ok) rfl) ?_;show _=U (Out.next [sd (F9 K),sd (m7 h),U (eM w (rl h.ws.length λi=>qd (if i=N then L N-o else L i))),sd (qd (v-o)),iD m,iD k,U (.own (q++[qd o])),iD N,sd (G0 (h.wk N)),sd (qd o)]);rw[show(λi=>qd (if i=N then L N-o else L i))=λi=>if i=N then qd (L N-o)else qd (L i)from funext λi=>by split<;>rfl,jF];refine cQ (l:=q) (.dat (qd o)) ?_ ju;rfl
 have tst:∀(w:Option Addr) (L:Nat->Rat) (q:List f7),mQ (o8 (j8 AE (j8 u9 (j4 8) (fC (.int 2))) (j4 4))) (o8 (j8 AE (j4 4) (j8 u9 (j4 8) (fC (.int 3))))) (wS K h w L v m k q (iD N) (sd (G0 (h.wk N))) (sd (qd 0)))=U (decide ((h.wk N).first<=(m:Int)/\(m:Int)<=(h.wk N).last)):=λw L q=>by
  show(if decide ((h.wk N).first<=(m:Int))=Uf then U (decide ((m:Int)<=(h.wk N).last))else U U')=_
  generalize (h.wk N).first=a,(h.wk N).last=b;by_cases c:a<=(m:Int)<;>simp[c]
 have go:∀(o:Rat),RO o->(∀(w:Option Addr) (L:Nat->Rat) (q:List f7),L N=x->M0 (mQ (o8 (j8 AE (j8 u9 (j4 8) (fC (.int 2))) (j4 4))) (o8 (j8 AE (j4 4) (j8 u9 (j4 8) (fC (.int 3)))))) (k9 9 (f9 D9 (f6 (f9 R9 (f6 (E2 (f6 (n9 (f6 (j8 u9 (j4 8) (fC (.int 4))) (f6 (fC (.int 1)) l7))) (f6 (sy 2 (j4 7)) (f6 (j4 3) l7)))) l7)) (f6 (f9 W5 (f6 (j4 0) (f6 (j8 p8 (j4 5) (j4 7)) l7))) l7)))) E4 (wS K h w L v m k q (iD N) (sd (G0 (h.wk N))) (sd (qd 0)))=U (.next (wS K h w L v m k q (iD N) (sd (G0 (h.wk N))) (sd (qd o))))) ->
   ∀(w:Option Addr) (L:Nat->Rat) (q:List f7) (u j:Option PV),L N=x->q.length<1000->∃u' v',cL (wS K h w L v m k q (iD N) u j)=U (.next (wS K h w (λi=>if i=N then x-o else L i) (v-o) m k (q++[qd o]) (iD N) u' v')):=λo ok f w L q u j a b=>by refine⟨_,_,k7 (m2 (pv:=.dat (G0 (h.wk N))) (Gi h g) rfl) (k7 (m2 (pv:=.dat (qd 0)) rfl rfl) (k7 (f w L q a) (fin w L q o a b ok)))⟩
 by_cases c:(h.wk N).first<=(m:Int)/\(m:Int)<=(h.wk N).last;refine⟨t*p,⟨c0,by grind,by grind,λz=>absurd c z,zz⟩,by grind,go _ (zo H zz) λw L q f=>iI (tst w L q) ((j2 (du c)).trans (m2 (pv:=.dat (qd (t*p))) ?_ rfl))⟩;subst f;have q1:n9 (f6 (j8 u9 (j4 8) (fC (.int 4))) (f6 (fC (.int 1)) l7)) (wS K h w L v m k q (iD N) (sd (G0 (h.wk N))) (sd (qd 0)))=sd (qd ((h.wk N).most:Rat)):=hW (x:=.dat (.int (h.wk N).most)) (y:=.dat (.int 1)) rfl rfl;have q2:=Zj q1 (LV (i:=2) (Fk:=j4 7) (w:=w) (f:=λi=>qd (L i)) rfl rfl g) (Fc:=j4 3) (z:=.dat (qd v)) rfl;refine v7 (x:=.dat (qd t)) (y:=.dat (qd p)) (gR q2 em) ?_ (jE (zo H zm') (zo H zp));exact v7 (y:=.dat (.int (k+N))) rfl rfl ep;exact⟨0,⟨xT,hx,m0,λ_=>rfl,z0⟩,hr,go _ lX λw L q _=>iI (tst w L q) ((j1 (by rw[S6 c];decide)).trans rfl)⟩
theorem JO{w:Option Addr}{t n:Nat}{k:Int}{L:Nat->Rat}(l:K.length<=63)(H:C5 d)(k0:0<=k)(k1:k<=100000)(e1:20<=e)(e2:e<=140)(n1:n<=36)(hL:∀i,i<d.w->0<=L i/\Zz d n e (L i))(hr:0<=z)(zr:Zz d n e z):
  ∃W:Nat->Rat,jk [.dat (F9 K),.dat (m7 d),eM w (rl d.ws.length λi=>qd (L i)),.dat (qd z),.dat (.int (t:Int)),.dat (.int k)]=U (.dat (.tuple [.tuple (rl d.ws.length λi=>qd (W i)),qd (z-l9 W d.ws.length)]),[J,J,U (eM J (rl d.ws.length λi=>qd (L i-W i))),J,J,J]) /\
   0<=z-l9 W d.ws.length/\Zz d (n+2) (e+2) (z-l9 W d.ws.length)/\∀j,j<d.w->Ue d t (n+3) (e+2) j (L j) (W j):=by
 have W2:d.w<=2:=H.w2
 let Q:Nat->Rat->Rat->Prop:=λj z o=>Ue d t (n+j+1) (e+j) j (L j) o/\o<=z/\∀(w:Option Addr) (M:Nat->Rat) (q:List f7) (u v:Option PV),M j=L j->q.length<1000 ->
   ∃u' v',cL (wS K d w M z t k q (iD j) u v)=U (.next (wS K d w (λi=>if i=j then L j-o else M i) (z-o) t k (q++[qd o]) (iD j) u' v'))
 let O:Nat->Rat->Rat:=λj z=>Nt (Q j z)
 let R:Nat->Rat:=λj=>Nat.rec z (λj a=>a-O j a) j
 let W:Nat->Rat:=λj=>O j (R j)
 have sQ:∀j,j<d.w->0<=R j->Zz d (n+j) (e+j) (R j)->Q j (R j) (W j):=λj g a b=>NX (Ur l H g k0 k1 (by exact Ex _ k8) (by omega) (by omega) (hL j g).1 (zm (hL j g).2) a b)
 have sR:∀j,j<=d.w->0<=R j/\Zz d (n+j) (e+j) (R j)/\R j=z-l9 W j:=λj=>by
  induction j with
  |zero=>exact λ_=>⟨hr,zr,by show z=z-0;grind⟩
  |succ j ih =>
   intro g;obtain⟨a,b,c⟩:=ih (by exact bF k8);obtain⟨h,f,_⟩:=sQ j g a b;refine⟨?_,?_,?_⟩;show 0<=R j-W j;grind;exact zS b h.z;show R j-W j=z-(l9 W j+W j);grind
 have ww:d.ws.length=d.w:=rfl;obtain⟨b0,b1,b2⟩:=sR d.w (X1 _);refine⟨W,?_⟩;rw[ww,<-b2];refine⟨iK rfl λa=>?_,b0,zm b1,λj g=>?_⟩
 . obtain⟨ds',E,x,y,r,rfl⟩:=dh (gt:=C1 7) (G:=cL) (lo:=0) (n:=d.w) (ds:=wS K d (U (a 2)) L z t k [] J J J)
     (λj ds=>∃x y r,ds=wS K d (U (a 2)) (λi=>if i<j then L i-W i else L i) (R j) t k (rl j λi=>qd (W i)) x y r)
     ⟨J,J,J,rfl⟩ (by
     rintro j ds g ⟨x,y,r,rfl⟩;obtain⟨c,h,_⟩:=sR j (by exact bF k8);obtain⟨_,_,f⟩:=sQ j g c h;obtain⟨u,v,B⟩:=f (U (a 2)) (λi=>if i<j then L i-W i else L i) (rl j λi=>qd (W i)) y r (j1 (by exact Z3 _)) (by rw[A7];omega);refine⟨_,_,rfl,.inl (by rw[O1];exact B),iD j,u,v,?_⟩
     have e3:(rl (j+1) λi=>qd (W i))=rl j (λi=>qd (W i))++[qd (W j)]:=by delta rl;rw[fA,aj];rfl
     have e4:(λi=>if i<j+1 then L i-W i else L i)=λi=>if i=j then L j-W j else if i<j then L i-W i else L i:=funext λi=>by
      by_cases c:i=j;subst c;simp;by_cases h:i<j;rw[j2 (by exact nC k8),j1 c,j2 h];rw[j1 (by omega),j1 c,j1 h]
     rw[e3,e4])
   have el:(rl d.w λi=>qd (if i<d.w then L i-W i else L i))=rl d.w λi=>qd (L i-W i):=tP λi a=>by rw[j2 (mem_range.1 a)]
   refine(r9 (λr=>sU r _) (k7 (ds1:=wS K d (U (a 2)) L z t k [] J J J) rfl (k7 (ds1:=wS K d (U (a 2)) (λi=>if i<d.w then L i-W i else L i) (R d.w) t k (rl d.w λi=>qd (W i)) x y r) ?_ rfl))).trans ?_
   . delta D4;rw[show x9 C9 (f6 (f9 A9 (f6 (j8 u9 (j4 1) (fC (.int 2))) l7)) l7) (wS K d (U (a 2)) L z t k [] J J J)=U (Q1 0 d.w)from by
      show(((A9 [.tuple (d.ws.map G0)]).bind λx=>U [x.d]).bind C9)=_;rw[qG,A6];show C9 [.int d.w]=_
      rw[O7 (by omega),ck],n8]
     exact E
   show U (PV.dat (.tuple [.tuple (rl d.w λi=>qd (W i)),qd (R d.w)]),[J,J,(if U (a 2)=U (a 2)then U (eM J (rl d.w λi=>qd (if i<d.w then L i-W i else L i)))else J),J,J,J])=_;rw[j2 rfl,el]
 obtain⟨c,h,_⟩:=sR j (by exact bF k8);have:=(sQ j g c h).1;exact⟨this.nn,this.le,this.most,this.out,zm this.z⟩
def rk(x:Hr):Int:=match x.line with
 |none=>0
 |some l=>l.2.1
def uW(x:Hr):Int:=match x.line with
 |none=>0
 |some l=>l.2.2.2
structure HN(h:o6)(t n e:Nat)(l:Rat)(L:Nat->Rat)(x:Dy)(v:Rat):Prop where
 hb:0<=x.b/\x.b<=(rk (h.hs.getD t G9):Rat)
 hg:0<=x.g/\x.g<=(uW (h.hs.getD t G9):Rat)
 hf:0<=x.fi/\x.fi<=(h.fill:Rat)
 ht:0<=x.ta/\x.ta<=(h.take:Rat)
 hl:0<=x.la/\x.la<=((h.hs.getD t G9).need:Rat)
 hw:∀j,j<h.ws.length->Ue h t n e j (L j) (x.wk j)
 lv:v=l-x.ta+val h.kept*x.fi
 hv:0<=v/\v<=(h.size:Rat)
 sp:0<=((h.hs.getD t G9).Y1:Rat)-((h.hs.getD t G9).need:Rat)+x.b+val h.left*x.ta+x.la-l9 x.wk h.ws.length-x.fi-x.g
 zb:Zz h n e x.b
 zg:Zz h n e x.g
 zf:Zz h n e x.fi
 zt:Zz h n e x.ta
 zl:Zz h n e x.la
 zv:Zz h n e v
theorem Jj{h:o6}(H:C5 h):(0<val h.kept/\Zz h 1 0 (val h.kept)/\nj [.int h.kept.2,.int h.kept.1]=qd (val h.kept)⁻¹/\Zz h 1 4 (val h.kept)⁻¹)/\0<val h.left/\Zz h 1 0 (val h.left):=by
 obtain⟨a,b,c⟩:=kv H;have k0:=H.k0;have l0:=H.l0;have e:∀u v w:Int,30*(u*(v*w))=u*(30*(v*w)):=λu v w=>by grind
 have e':∀u v w:Int,30*(u*(v*w))=v*(30*(u*w)):=λu v w=>by grind
 have e'':∀u v w:Int,30*(u*(v*w))=w*(30*(u*v)):=λu v w=>by grind
 have o:∀q:Int,q∣fh h->q∣fh h ^ 1:=λq z=>by rwa [Int.pow_one]
 obtain⟨_,l1,l2,l3⟩:=z_q (h:=h) H.l (λ_=>⟨_,e'' _ _ _⟩) ⟨O3 l0.1,l0.2⟩;refine⟨⟨a,b.mono (o _ ⟨_,e' _ _ _⟩) f5,?_,c.mono (o _ ⟨_,e _ _ _⟩) f5⟩,?_,l3⟩;show _=fr (q2 (val h.kept)⁻¹);rw[xi a,<-eF H.k.pos H.k.low];refine Rat.lt_of_le_of_ne l1 λz=>?_;have:=eF H.l.pos H.l.low;rw[<-z]at this;have:=r9 (·.1) this;have:h.left.1=0:=this;omega
theorem VX:z.num<0↔z<0:=by have:=rY (X6 z);rw[V3]at this;rw[<-Rat.not_le,<-this];exact(Int.not_le).symm
theorem Zk(a:G r=U l)(b:o r=U P):E2 (f6 G (f6 o l7)) r=U (.own [l.d,P.d]):=by delta E2;rw[sG a b];rfl
theorem Je{x y:Rat}(a:G r=U (.own A))(b:R9 [.list A]=sd (qd x))(c:o r=sd (qd y))(u:RO x)(v:RO y):f9 D9 (f6 (f9 R9 (f6 G l7)) (f6 o l7)) r=sd (qd (x*y)) :=
 v7 (x:=.dat (qd x)) (y:=.dat (qd y)) (gR a b) c (jE u v)
theorem oV(a:G r=sd (qd z))(b:o r=sd (qd v))(u:RO z)(x:RO v):f9 D6 (f6 G (f6 o l7)) r=sd (qd (z+v)):=v7 a b (jT u x)
theorem mq{x y:Rat}(a:G r=sd (qd x))(b:o r=sd (qd y))(u:RO x)(v:RO y):f9 D9 (f6 G (f6 o l7)) r=sd (qd (x*y)):=v7 a b (jE u v)
theorem xB{x y:Rat}(a:G r=sd (qd x))(e:x=y):G r=sd (qd y):=e▸a
theorem mJ{n:Int}(a:G r=sd (.int n)):n9 (f6 G (f6 (fC (.int 1)) l7)) r=sd (qd (n:Rat)):=hW (y:=.dat (.int 1)) a rfl
theorem part_of{x:Rat}(b:r[0]? = U (sd (F9 K)))(a:G r=sd (.int D))(c:W5 [F9 K,.int D]=sd (qd x)):f9 W5 (f6 (j4 0) (f6 G l7)) r=sd (qd x):=v7 (x:=.dat (F9 K)) (by delta j4;rw[b]) a c
theorem DA{o ds1:Ds}{l:List AV}{as:List PV}(a:b3 r=U l)(b:(M4 l).Nodup)(c:oO r l=U as)(d:b6 as=U (P,o))(u:(eG l o r).set m (U (.dat P.d))=ds1):pH m (bz b6 b3) r=U (.next ds1):=by delta pH bz;rw[a,n8,j2 b,c,n8,d,<-u];rfl
theorem Zn(x:Hr):gY [x6 x]=sd (rj x)/\u9 (rj x) (.int 1)=sd (.int (rk x))/\u9 (rj x) (.int 3)=sd (.int (uW x)):=by
 obtain⟨s,n,l⟩:=x;cases l with
 |none=>exact⟨rfl,rfl,rfl⟩
 |some l=>exact⟨rfl,rfl,rfl⟩
theorem Tz(H:C5 d)(g:m<d.n):(0<=rk (d.hr m)/\rk (d.hr m)<=1000000)/\0<=uW (d.hr m)/\uW (d.hr m)<=1000000:=by
 delta rk uW;cases e:(d.hr m).line with
 |none=>decide
 |some l =>
  obtain⟨a,b,c,h⟩:=l;have:=H.ln m a b c h g e;exact⟨this.2.1,this.2.2.2⟩
abbrev hT(ns:List Int)(h:o6)(t:Nat)(k:Int)(v:Rat)(o:PV)(p q r s u w x y z:Option PV):Ds:=[sd (F9 ns),sd (m7 h),iD t,sd (qd v),U o,iD k,sd (x6 (h.hs.getD t G9)),sd (T4 h),sd (rj (h.hs.getD t G9)),p,q,r,s,u,w,x,y,z]
theorem cI{i:Int}(a:0<=i):(0:Rat)<=(i:Rat):=by exact_mod_cast a
theorem ZJ{h:o6}{t n:Nat}{k:Int}{L:Nat->Rat}(l:K.length<=63)(H:C5 h)(g:t<h.n)(k0:0<=k)(k1:k<=90000)(e1:20<=e)(e2:e<=100)(n1:n<=28)(hv:0<=v/\v<=(h.size:Rat))(zv:Zz h n e v)(hL:∀i,i<h.w->0<=L i/\Zz h n e (L i)):
  ∃(x:Dy) (v':Rat),bp [.dat (F9 K),.dat (m7 h),.dat (.int (t:Int)),.dat (qd v),eM J (rl h.ws.length λi=>qd (L i)),.dat (.int k)]=U (.dat (.tuple [P0 h.w x,qd v']),[J,J,J,J,U (eM J (rl h.ws.length λi=>qd (L i-x.wk i))),J])/\HN h t (n+7) (e+8) v L x v':=by
 obtain⟨⟨kp,zk,ek,zki⟩,lp,zle⟩:=Jj H;obtain⟨⟨B0,B1⟩,D0,D1⟩:=Tz H g;obtain⟨s0,s1,n0,n2⟩:0<=(h.hr t).Y1/\(h.hr t).Y1<=1000000/\0<=(h.hr t).need/\(h.hr t).need<=1000000:=H.hr t g;have st:=H.st;have fl:=H.fl;have tk:=H.tk;obtain⟨eL,eB,eD⟩:=Zn (h.hr t);obtain⟨pb,epb,s9,pb1,zpb⟩:=lV (h:=h) (k:=k) l k0 (by exact Q8 k8 f5);obtain⟨pt,ept,pt0,pt1,zpt⟩:=lV (h:=h) (k:=k+1) l (by omega) (by exact yq k8 f5);obtain⟨dr,edr,_,_⟩:=U2 (k:=k+2) (m:=4) l (by omega) (by omega) f5;obtain⟨pl,epl,pl0,Tu,zpl⟩:=lV (h:=h) (k:=k+3) l (by omega) (by omega);obtain⟨pf,epf,pf0,pf1,zpf⟩:=lV (h:=h) (k:=k+4) l (by omega) (by omega);obtain⟨pg,epg,pg0,pg1,zpg⟩:=lV (h:=h) (k:=k+5) l (by omega) (by omega);have zB:Zz h 0 20 (rk (h.hr t):Rat):=zi (by omega);obtain⟨b0,b1⟩:=lU (cI B0) s9 pb1;have zb:Zz h 1 20 ((rk (h.hr t):Rat)*pb):=zM zB zpb;have zT:Zz h n 20 (h.take:Rat):=zi (by omega)
 obtain⟨mt,emt,mt1,mt2,mto⟩:=Mb (zo H zT) (zo H zv);obtain⟨zmt,mt0⟩:Zz h n e mt/\0<=mt:=by
  rcases mto with z|z<;>rw[z]
  exact⟨zm zT,cI tk.1⟩;exact⟨zv,hv.1⟩
 obtain⟨ta0,ta1⟩:=lU mt0 pt0 pt1;have zta:Zz h (n+1) e (mt*pt):=zM zmt zpt;generalize eta:mt*pt=ta at *;generalize ebo:(rk (h.hr t):Rat)*pb=bo at *;have zlt:Zz h (n+2) e (val h.left*ta):=zM zle zta;have lt0:0<=val h.left*ta:=gy (kM lp) ta0;have zs1:Zz h (n+2) (e+1) (bo+val h.left*ta):=zA zb zlt;have zsn:Zz h (n+2) 20 (((h.hr t).Y1-(h.hr t).need:Int):Rat):=zi (by omega);have zr1:Zz h (n+2) (e+2) ((((h.hr t).Y1-(h.hr t).need:Int):Rat)+(bo+val h.left*ta)):=zA zsn zs1;have nd0:=cI n0;have sn0:=cI s0;have esn:(((h.hr t).Y1-(h.hr t).need:Int):Rat)=((h.hr t).Y1:Rat)-((h.hr t).need:Rat):=tE _ _;generalize er1:(((h.hr t).Y1-(h.hr t).need:Int):Rat)+(bo+val h.left*ta)=r1 at *;obtain⟨c0,hc0⟩:∃c0:Rat,c0=if r1<0 then -r1 else 0:=⟨_,rfl⟩
 obtain⟨c01,c02,c03,zc0⟩:0<=c0/\0<=r1+c0/\c0<=((h.hr t).need:Rat)/\Zz h (n+2) (e+2) c0:=by
  by_cases c:r1<0;rw[j2 c]at hc0;subst hc0;exact⟨by grind,by grind,by grind,Sz.neg zr1⟩;rw[j1 c]at hc0;subst hc0;exact⟨xT,by grind,nd0,z0⟩
 have znd:Zz h (n+2) 20 ((h.hr t).need:Rat):=zi (by omega);have zmo:Zz h (n+2) (e+3) (((h.hr t).need:Rat)-c0):=zS znd zc0;have zmp:Zz h (n+3) (e+3) ((((h.hr t).need:Rat)-c0)*pl):=zM zmo zpl;obtain⟨mp0,mp1⟩:=lU (show 0<=((h.hr t).need:Rat)-c0 by grind) pl0 Tu;obtain⟨c,hc⟩:∃c:Rat,c=if dr=0 then c0+(((h.hr t).need:Rat)-c0)*pl else c0:=⟨_,rfl⟩
 obtain⟨cc0,cc1,cc2,zc⟩:0<=c/\0<=r1+c/\c<=((h.hr t).need:Rat)/\Zz h (n+3) (e+4) c:=by
  by_cases d:dr=0;rw[j2 d]at hc;subst hc;exact⟨by grind,by grind,by grind,zA zc0 zmp⟩;rw[j1 d]at hc;subst hc;exact⟨c01,c02,c03,zm zc0⟩
 have zr2:Zz h (n+3) (e+5) (r1+c):=zA zr1 zc;obtain⟨W,eW,r30,zr3,WO⟩:=JO (w:=J) (t:=t) (k:=k+10) (L:=L) l H (by omega) (by omega) (by omega) (by omega) (by omega) (λi a=>⟨(hL i a).1,zm (hL i a).2⟩) cc1 zr2;generalize er3:r1+c-l9 W h.ws.length=r3 at *;have zsz:Zz h n 20 (h.size:Rat):=zi (by omega)
 have zkl:Zz h (n+1) (e+1) (ta-v):=zS zta zv;have zro:Zz h (n+1) (e+2) ((h.size:Rat)+(ta-v)):=zA zsz zkl;have ro0:0<=(h.size:Rat)+(ta-v):=by grind
 have zrm:Zz h (n+2) (e+6) (((h.size:Rat)+(ta-v))*(val h.kept)⁻¹):=zM zro zki;have rm0:0<=((h.size:Rat)+(ta-v))*(val h.kept)⁻¹:=gy ro0 (kM (Rat.inv_pos.mpr kp));have rmk:val h.kept*(((h.size:Rat)+(ta-v))*(val h.kept)⁻¹)=(h.size:Rat)+(ta-v):=by
  have:=Rat.mul_inv_cancel (val h.kept) (by grind);grind
 generalize erm:((h.size:Rat)+(ta-v))*(val h.kept)⁻¹=rm at *;have zfl:Zz h n 20 (h.fill:Rat):=zi (by omega)
 obtain⟨mf,emf,mf1,mf2,mf3,mfo⟩:=Ma (zo H zfl) (zo H zrm) (zo H zr3);obtain⟨zmf,mf0⟩:Zz h (n+5) (e+7) mf/\0<=mf:=by
  rcases mfo with z|z|z<;>rw[z]
  exact⟨zm zfl,cI fl.1⟩;exact⟨zm zrm,rm0⟩;exact⟨zm zr3,r30⟩
 obtain⟨fi0,fi1⟩:=lU mf0 pf0 pf1;have zfi:Zz h (n+6) (e+7) (mf*pf):=zM zmf zpf;generalize efi:mf*pf=fi at *;have zr4:Zz h (n+6) (e+8) (r3-fi):=zS zr3 zfi;have r40:0<=r3-fi:=by grind
 have zD:Zz h n 20 (uW (h.hr t):Rat):=zi (by omega)
 obtain⟨mg,emg,mg1,mg2,mgo⟩:=Mb (zo H zD) (zo H zr4);obtain⟨zmg,mg0⟩:Zz h (n+6) (e+8) mg/\0<=mg:=by
  rcases mgo with z|z<;>rw[z]
  exact⟨zm zD,cI D0⟩;exact⟨zr4,r40⟩
 obtain⟨gg0,gg1⟩:=lU mg0 pg0 pg1;have zg:Zz h (n+7) (e+8) (mg*pg):=zM zmg zpg;have zlk:Zz h (n+1) (e+1) (v-ta):=zS zv zta;have zkf:Zz h (n+7) (e+7) (val h.kept*fi):=zM zk zfi;have zlv:Zz h (n+7) (e+8) (v-ta+val h.kept*fi):=zA zlk zkf;have kf0:0<=val h.kept*fi:=gy (kM kp) fi0;have kf1:val h.kept*fi<=val h.kept*rm:=by
  have:=gy (kM kp) (show 0<=rm-fi by grind);grind
 refine⟨⟨bo,mg*pg,fi,ta,c,W⟩,v-ta+val h.kept*fi,?_,⟨⟨b0,b1⟩,⟨gg0,by grind⟩,⟨fi0,by grind⟩,⟨ta0,by grind⟩,⟨cc0,cc2⟩,λj a=>?_,rfl,⟨by grind,by grind⟩,?_,zm zb,zg,zm zfi,zm zta,zm zc,zlv⟩⟩
 . refine iK rfl λa=>?_;have ix:∀{F:DV} {ds:Ds} {d:f7} {i:Int} {r:Option PV},F ds=sd d->u9 d (.int i)=r->j8 u9 F (fC (.int i)) ds=r:=λa b=>(B2 (y:=.dat (.int _)) a rfl).trans b
   have eS:u9 (T4 h) (.int 5)=sd (qd (val h.left)):=by show sd (fr h.left)=_;rw[uE H.l]
   have eK:u9 (T4 h) (.int 4)=sd (qd (val h.kept)):=by show sd (fr h.kept)=_;rw[uE H.k]
   generalize eo:eM (U (a 4)) (rl h.ws.length λi=>qd (L i))=o;refine(r9 (λz=>sU z _) (k7 (r:=U (.retO (.dat (.tuple [P0 h.w ⟨bo,mg*pg,fi,ta,c,W⟩,qd (v-ta+val h.kept*fi)])) (hT K h t k (v-ta+val h.kept*fi) (eM (U (a 4)) (rl h.ws.length λi=>qd (L i-W i))) (sd (qd bo)) (sd (qd ta)) (sd (qd (r3-fi))) (sd (qd c)) (sd (qd (((h.hr t).need:Rat)-c0))) (sd (.tuple [.tuple (rl h.ws.length λi=>qd (W i)),qd r3])) (sd (qd rm)) (sd (qd fi)) (sd (qd (mg*pg)))))) (m2 (pv:=.dat (x6 (h.hr t))) (zK h g) rfl) (k7 (m2 (pv:=.dat (T4 h)) rfl rfl) (k7 (ds1:=hT K h t k v o J J J J J J J J J) (m2 (gR rfl eL) (by rw[<-eo];rfl)) ?_)))).trans ?_;refine k7 (ds1:=hT K h t k v o (sd (qd bo)) J J J J J J J J) (m2 (xB (mq (mJ (ix rfl eB)) (part_of rfl rfl epb) (zo H zB) (zo H zpb)) ebo) rfl) ?_;refine k7 (ds1:=hT K h t k v o (sd (qd bo)) (sd (qd ta)) J J J J J J J) (m2 (xB (Je (Zk (mJ rfl) rfl) emt (part_of rfl rfl ept) (zo H zmt) (zo H zpt)) eta) rfl) ?_;refine k7 (ds1:=hT K h t k v o (sd (qd bo)) (sd (qd ta)) (sd (qd r1)) J J J J J J) (m2 (xB (oV (mJ (n:=(h.hr t).Y1-(h.hr t).need) rfl) (oV rfl (mq (ix rfl eS) rfl (zo H zle) (zo H zta)) (zo H zb) (zo H zlt)) (zo H zsn) (zo H zs1)) er1) rfl) ?_;refine k7 (ds1:=hT K h t k v o (sd (qd bo)) (sd (qd ta)) (sd (qd r1)) (sd (qd 0)) J J J J J) (m2 (pv:=.dat (qd 0)) rfl rfl) ?_;refine k7 (ds1:=hT K h t k v o (sd (qd bo)) (sd (qd ta)) (sd (qd r1)) (sd (qd c0)) J J J J J) (iI (b:=decide (r1<0)) (by rw[<-show decide (r1.num<0)=decide (r1<0)from by simp only[VX]];rfl) ?_) ?_;by_cases c:r1<0;rw[j2 (du c),hc0,j2 c];exact m2 (gR rfl (Br r1)) rfl;rw[j1 (by rw[S6 c];decide),hc0,j1 c];rfl;refine k7 (ds1:=hT K h t k v o (sd (qd bo)) (sd (qd ta)) (sd (qd r1)) (sd (qd c0)) (sd (qd (((h.hr t).need:Rat)-c0))) J J J J) (m2 (lY (mJ rfl) rfl (zo H znd) (zo H zc0)) rfl) ?_;refine k7 (ds1:=hT K h t k v o (sd (qd bo)) (sd (qd ta)) (sd (qd r1)) (sd (qd c)) (sd (qd (((h.hr t).need:Rat)-c0))) J J J J) (iI (b:=decide (dr=0)) ?_ ?_) ?_;have:f9 D2 (f6 (j4 0) (f6 (j8 p8 (j4 5) (fC (.int 2))) (f6 (fC (.int 4)) l7))) (hT K h t k v o (sd (qd bo)) (sd (qd ta)) (sd (qd r1)) (sd (qd c0)) (sd (qd (((h.hr t).need:Rat)-c0))) J J J J)=sd (.int dr):=jL (y:=.dat (.int (k+2))) (z:=.dat (.int 4)) rfl rfl rfl edr;delta o8;rw[B2 (y:=.dat (.int 0)) this rfl];rfl;by_cases d:dr=0;rw[j2 (du d),hc,j2 d];exact m2 (oV rfl (mq rfl (part_of rfl rfl epl) (zo H zmo) (zo H zpl)) (zo H zc0) (zo H zmp)) rfl;rw[j1 (by rw[S6 d];decide),hc,j1 d];rfl;refine k7 (ds1:=hT K h t k v o (sd (qd bo)) (sd (qd ta)) (sd (qd (r1+c))) (sd (qd c)) (sd (qd (((h.hr t).need:Rat)-c0))) J J J J) (m2 (oV rfl rfl (zo H zr1) (zo H zc)) rfl) ?_;subst eo;refine k7 (ds1:=hT K h t k v (eM (U (a 4)) (rl h.ws.length λi=>qd (L i-W i))) (sd (qd bo)) (sd (qd ta)) (sd (qd (r1+c))) (sd (qd c)) (sd (qd (((h.hr t).need:Rat)-c0))) (sd (.tuple [.tuple (rl h.ws.length λi=>qd (W i)),qd r3])) J J J) (DA (l:=[.d (F9 K),.d (m7 h),.s 4,.d (qd (r1+c)),.d (.int t),.d (.int (k+10))]) rfl (by simp[M4]) rfl eW rfl) ?_;generalize eM (U (a 4)) (rl h.ws.length λi=>qd (L i-W i))=o;refine k7 (ds1:=hT K h t k v o (sd (qd bo)) (sd (qd ta)) (sd (qd r3)) (sd (qd c)) (sd (qd (((h.hr t).need:Rat)-c0))) (sd (.tuple [.tuple (rl h.ws.length λi=>qd (W i)),qd r3])) J J J) (m2 (pv:=.dat (qd r3)) rfl rfl) ?_;refine k7 (ds1:=hT K h t k v o (sd (qd bo)) (sd (qd ta)) (sd (qd r3)) (sd (qd c)) (sd (qd (((h.hr t).need:Rat)-c0))) (sd (.tuple [.tuple (rl h.ws.length λi=>qd (W i)),qd r3])) (sd (qd ((h.size:Rat)+(ta-v)))) J J) (m2 (oV (mJ rfl) (lY rfl rfl (zo H zta) (zo H zv)) (zo H zsz) (zo H zkl)) rfl) ?_;refine k7 (ds1:=hT K h t k v o (sd (qd bo)) (sd (qd ta)) (sd (qd r3)) (sd (qd c)) (sd (qd (((h.hr t).need:Rat)-c0))) (sd (.tuple [.tuple (rl h.ws.length λi=>qd (W i)),qd r3])) (sd (qd rm)) J J) (m2 (xB (mq rfl ((hW (x:=.dat (.int h.kept.2)) (y:=.dat (.int h.kept.1)) rfl rfl).trans (r9 sd ek)) (zo H zro) (zo H zki)) erm) rfl) ?_;refine k7 (ds1:=hT K h t k v o (sd (qd bo)) (sd (qd ta)) (sd (qd r3)) (sd (qd c)) (sd (qd (((h.hr t).need:Rat)-c0))) (sd (.tuple [.tuple (rl h.ws.length λi=>qd (W i)),qd r3])) (sd (qd rm)) (sd (qd fi)) J) (m2 (xB (Je (Zj (mJ rfl) rfl rfl) emf (part_of rfl rfl epf) (zo H zmf) (zo H zpf)) efi) rfl) ?_;refine k7 (ds1:=hT K h t k v o (sd (qd bo)) (sd (qd ta)) (sd (qd (r3-fi))) (sd (qd c)) (sd (qd (((h.hr t).need:Rat)-c0))) (sd (.tuple [.tuple (rl h.ws.length λi=>qd (W i)),qd r3])) (sd (qd rm)) (sd (qd fi)) J) (m2 (lY rfl rfl (zo H zr3) (zo H zfi)) rfl) ?_;refine k7 (ds1:=hT K h t k v o (sd (qd bo)) (sd (qd ta)) (sd (qd (r3-fi))) (sd (qd c)) (sd (qd (((h.hr t).need:Rat)-c0))) (sd (.tuple [.tuple (rl h.ws.length λi=>qd (W i)),qd r3])) (sd (qd rm)) (sd (qd fi)) (sd (qd (mg*pg)))) (m2 (Je (Zk (mJ (ix rfl eD)) rfl) emg (part_of rfl rfl epg) (zo H zmg) (zo H zpg)) rfl) ?_;exact k7 (m2 (oV (lY rfl rfl (zo H zv) (zo H zta)) (mq (ix rfl eK) rfl (zo H zk) (zo H zfi)) (zo H zlk) (zo H zkf)) rfl) rfl;show U (_,[J,J,J,J,(if U (a 4)=U (a 4)then U (eM J (rl h.ws.length λi=>qd (L i-W i)))else J),J])=_;rw[j2 rfl]
 have:=WO j a;exact⟨this.nn,this.le,this.most,this.out,zm this.z⟩;show 0<=((h.hr t).Y1:Rat)-((h.hr t).need:Rat)+bo+val h.left*ta+c-l9 W h.ws.length-fi-mg*pg;grind
abbrev pS(ns:List Int)(h:o6)(k:Int)(v:Rat)(L:Nat->Rat)(d:List f7)(x y:Option PV):Ds:=[sd (F9 ns),sd (m7 h),iD k,sd (qd v),U (eM J (rl h.ws.length λi=>qd (L i))),U (.own d),x,y]
theorem wV{G:Ds->Option (List AV)}{x:PV}{l:List AV}(a:o r=U x)(b:G r=U l):B8 o G r=U (.d x.d::l):=by delta B8;rw[a,n8,b];rfl
theorem a0S{G:Ds->Option (List AV)}{c:OD}{l:List AV}(a:r[m]? = U (U (.ob H c)))(b:G r=U l):bW m G r=U (.s m::l):=by
 delta bW;rw[a];show(G r).bind _=_;rw[b];rfl
theorem Hg(ds:Ds):∀ws:List Wk,ot p6 fH ds (ws.map G0)=U (ws.map λw=>PF.dat (qd (w.K5:Rat)))
 | []=>rfl
 |w::ws=>by
  show((ot p6 fH ds (ws.map G0)).bind λl=>U (PF.dat (qd (w.K5:Rat))::l))=_;rw[Hg ds ws];rfl
theorem RR{k:Int}(l:K.length<=63)(H:C5 d)(k0:0<=k)(k1:k<=80000):∃(X:Nat->Dy) (V:Nat->Rat),gW [F9 K,m7 d,.int k]=sd (.tuple (rl d.n λt=>P0 d.w (X t)))/\V 0=(d.start:Rat) /\
  ∀t,t<d.n->HN d t 35 60 (V t) (λj=>P2 d j-l9 (λi=>(X i).wk j) t) (X t) (V (t+1)):=by
 have N4:d.n<=4:=H.n4;have W2:d.w<=2:=H.w2;have st:=H.st
 let Q:Nat->Rat->(Nat->Rat)->Dy×Rat->Prop:=λt v L p=>bp [.dat (F9 K),.dat (m7 d),.dat (.int (t:Int)),.dat (qd v),eM J (rl d.ws.length λi=>qd (L i)),.dat (.int (k+30*t))]=U (.dat (.tuple [P0 d.w p.1,qd p.2]),[J,J,J,J,U (eM J (rl d.ws.length λi=>qd (L i-p.1.wk i))),J])/\HN d t (7*t+7) (20+9*t+8) v L p.1 p.2
 haveI:Nonempty (Dy×Rat):=⟨⟨0,0,0,0,0,λ_=>0⟩,0⟩
 let D:Nat->Rat×(Nat->Rat)->Dy×Rat:=λt s=>Nt (Q t s.1 s.2)
 let S:Nat->Rat×(Nat->Rat):=λt=>Nat.rec ((d.start:Rat),P2 d) (λt s=>((D t s).2,λi=>s.2 i-(D t s).1.wk i)) t
 let X:Nat->Dy:=λt=>(D t (S t)).1
 let V:Nat->Rat:=λt=>(S t).1
 have Lt:∀t,(S t).2=λj=>P2 d j-l9 (λi=>(X i).wk j) t:=λt=>by
  induction t with
  |zero=>funext j;show P2 d j=P2 d j-0;grind
  |succ t ih =>
   funext j
   show(S t).2 j-(X t).wk j=P2 d j-(l9 (λi=>(X i).wk j) t+(X t).wk j);rw[ih];grind
 have sQ:∀t,t<d.n->(0<=V t/\V t<=(d.size:Rat))->Zz d (7*t) (20+9*t) (V t)->(∀j,j<d.w->0<=(S t).2 j/\Zz d (7*t) (20+9*t) ((S t).2 j))->Q t (V t) (S t).2 (D t (S t)):=λt g a b c=>by
  obtain⟨x,v,e,o⟩:=ZJ (k:=k+30*t) l H g (by omega) (by omega) (by simp[*]) (by omega) (by omega) a b c;exact NX (p:=Q t (S t).1 (S t).2) ⟨(x,v),e,o⟩
 have sI:∀t,t<=d.n->(0<=V t/\V t<=(d.size:Rat))/\Zz d (7*t) (20+9*t) (V t)/\∀j,j<d.w->0<=(S t).2 j/\Zz d (7*t) (20+9*t) ((S t).2 j):=λt=>by
  induction t with
  |zero=>exact λ_=>⟨⟨cI st.1,by show(d.start:Rat)<=(d.size:Rat);exact_mod_cast st.2.1⟩,zi (by omega),λj a=>by obtain⟨u,w,_⟩:0<=(d.wk j).K5/\(d.wk j).K5<=1000000/\_:=H.wk j a;exact⟨cI u,zi (i:=(d.wk j).K5) (by omega)⟩⟩
  |succ t ih =>
   intro g;obtain⟨a,b,c⟩:=ih (by exact bF k8);obtain⟨_,o⟩:=sQ t g a b c;refine⟨o.hv,zm o.zv,λj h=>?_⟩;have w:=o.hw j h;refine⟨?_,?_⟩;show 0<=(S t).2 j-(X t).wk j;have:=w.le;grind;exact zS (c j h).2 w.z
 refine⟨X,V,?_,rfl,λt g=>?_⟩
 . obtain⟨ds',E,x,y,rfl⟩:=dh (gt:=C1 6) (G:=rd) (lo:=0) (n:=d.n) (ds:=pS K d k (d.start:Rat) (P2 d) [] J J)
     (λt ds=>∃x y,ds=pS K d k (V t) (S t).2 (rl t λi=>P0 d.w (X i)) x y) ⟨J,J,rfl⟩ (by
     rintro t ds g ⟨x,y,rfl⟩;obtain⟨a,b,c⟩:=sI t (by exact bF k8);obtain⟨e,_⟩:=sQ t g a b c;refine⟨_,pS K d k (V (t+1)) (S (t+1)).2 (rl (t+1) λi=>P0 d.w (X i)) (iD t) (sd (.tuple [P0 d.w (X t),qd (V (t+1))])),rfl,.inl ?_,_,_,rfl⟩
     rw[O1];have e3:(rl (t+1) λi=>P0 d.w (X i))=rl t (λi=>P0 d.w (X i))++[P0 d.w (X t)]:=by delta rl;rw[fA,aj];rfl
     have mu:F7 (.int 30) (.int (t:Int))=sd (.int (30*t)):=t6 Bt.lit (Bt.nX (by exact qg _) (by omega))
     have ea:B8 (j4 0) (B8 (j4 1) (B8 (j4 6) (B8 (j4 3) (bW 4 (B8 (j8 p8 (j4 2) (j8 F7 (fC (.int 30)) (j4 6))) aL))))) (pS K d k (V t) (S t).2 (rl t λi=>P0 d.w (X i)) (iD t) y)=U [.d (F9 K),.d (m7 d),.d (.int t),.d (qd (V t)),.s 4,.d (.int (k+30*t))]:=by
      have:j8 p8 (j4 2) (j8 F7 (fC (.int 30)) (j4 6)) (pS K d k (V t) (S t).2 (rl t λi=>P0 d.w (X i)) (iD t) y)=sd (.int (k+30*t)):=(B2 (x:=.dat (.int k)) rfl ((B2 (x:=.dat (.int 30)) (y:=.dat (.int t)) rfl rfl).trans mu)).trans rfl;exact wV (x:=.dat (F9 K)) rfl (wV (x:=.dat (m7 d)) rfl (wV (x:=.dat (.int t)) rfl (wV (x:=.dat (qd (V t))) rfl (a0S (G:=B8 _ aL) rfl (wV (G:=aL) (l:=[]) this rfl)))))
     refine k7 (ds1:=pS K d k (V t) (S (t+1)).2 (rl t λi=>P0 d.w (X i)) (iD t) (sd (.tuple [P0 d.w (X t),qd (V (t+1))]))) (DA ea (by simp[M4]) rfl e rfl) ?_;refine k7 (ds1:=pS K d k (V t) (S (t+1)).2 (rl (t+1) λi=>P0 d.w (X i)) (iD t) (sd (.tuple [P0 d.w (X t),qd (V (t+1))]))) ?_ (m2 (pv:=.dat (qd (V (t+1)))) rfl rfl);rw[e3,jF];refine cQ (l:=rl t λi=>P0 d.w (X i)) (.dat (P0 d.w (X t))) ?_ (by rw[A7];omega)
     rfl)
   refine R7 rfl ?_;refine k7 (m2 (pv:=.dat (qd (d.start:Rat))) rfl rfl) ?_;refine k7 (ds1:=[sd (F9 K),sd (m7 d),iD k,sd (qd (d.start:Rat)),U (eM J (rl d.ws.length λi=>qd (P2 d i))),J,J,J]) ?_ ?_
   . have c:iM (M7 (j8 u9 (j4 1) (fC (.int 2)))) p6 fH [sd (F9 K),sd (m7 d),iD k,sd (qd (d.start:Rat)),J,J,J,J]=U (eM J (rl d.ws.length λi=>qd (P2 d i))):=by
       show(if (d.ws.map G0).length<=1000000 then(ot p6 fH _ (d.ws.map G0)).bind _ else J)=_;rw[j2 (by rw[A6];exact p5 H.w2 f5),Hg,show(λw:Wk=>PF.dat (qd (w.K5:Rat)))=PF.dat∘λw:Wk=>qd (w.K5:Rat)from rfl,<-ei,pj (λw:Wk=>qd (w.K5:Rat)) V2];rfl
     rw[uw];exact(r9 (λz=>CD z 4 [sd (F9 K),sd (m7 d),iD k,sd (qd (d.start:Rat)),J,J,J,J]) c).trans rfl
   refine k7 (ds1:=pS K d k (d.start:Rat) (P2 d) [] J J) rfl ?_;refine k7 (ds1:=pS K d k (V d.n) (S d.n).2 (rl d.n λi=>P0 d.w (X i)) x y) ?_ rfl
   delta D4;rw[show x9 C9 (f6 (f9 A9 (f6 (j8 u9 (j4 1) (fC (.int 0))) l7)) l7) (pS K d k (d.start:Rat) (P2 d) [] J J)=U (Q1 0 d.n)from by
    show(((A9 [.tuple (d.hs.map x6)]).bind λx=>U [x.d]).bind C9)=_;rw[qG,A6];show C9 [.int d.n]=_
    rw[O7 (by omega),ck],n8]
   exact E
 obtain⟨a,b,c⟩:=sI t (by exact bF k8);obtain⟨_,o⟩:=sQ t g a b c;rw[Lt]at o;exact⟨o.hb,o.hg,o.hf,o.ht,o.hl,λj h=>⟨(o.hw j h).nn,(o.hw j h).le,(o.hw j h).most,(o.hw j h).out,zm (o.hw j h).z⟩,o.lv,o.hv,o.sp,zm o.zb,zm o.zg,zm o.zf,zm o.zt,zm o.zl,zm o.zv⟩
section
variable{T:Sx.Tb}
theorem JE(H:C5 d):∃(c:Nat->Rat) (p h:f7),(gD [m7 d]=sd (.tuple [p,h])/\bI [m7 d,p]=sd (.tuple [qd (c 0),qd (c 1),qd (c 2)]))/\IsB d c/\∀i,i<3->RO (c i):=by
 obtain⟨T,h,K,ne,e⟩:=WE H;obtain⟨l,p,_⟩:=kv H;have ok:RO (val d.kept):=by have:AS d.kept.2:=⟨H.k.pos,H.k.bb.mono f5⟩;exact p.ok this f5
 have F:=ZR H K;obtain⟨q,u,s,v⟩:=Dp (TU H K) H ok λt _=>(ME H K t).2
 have:=H.n1;have b:∀i,i<3->cV d (mD (yK d T)) i=(λi=>if i=0 then AB (Z8 d (yK d T)) d.n else if i=1 then fN d (Z8 d (yK d T)) d.n else js d (Z8 d (yK d T)) d.n+((0-d.rest:Int))*fZ d (Z8 d (yK d T)) d.n) i:=λi r=>by
  rcases(by lia:i=0\/i=1\/i=2)with rfl|rfl|rfl
  rfl
  . show l9 (mD (yK d T)).un d.w=fN d (Z8 d (yK d T)) d.n;delta fN;rw[rK (λi j=>(Z8 d (yK d T) i).wk j) d.n d.w |>.symm,<-jw];refine t5 _ λj m=>?_
    have:=F.r3 j m;have:=H.f j m;have:l9 (λt=>(Z8 d (yK d T) t).wk j) d.n=l9 (λi=>(mD (yK d T)).wk (N2 d j+i) j) (dD d j):=by
     have a:=BI (g:=λt=>yK d T (nR t j)) (n:=dD d j) (N:=d.n) (by
      show(d.wk j).first.toNat+((d.wk j).last+1-(d.wk j).first).toNat<=_
      lia)
     refine Eq.trans (t5 _ λt _=>?_) a;show yK d T (nR t j)=_;by_cases c:N2 d j<=t/\t<N2 d j+dD d j;rw[j2 c];rw[j1 c,we (Wa c)]
    delta P2;grind
  . show l9 (λt=>(eO (d.hr t))*yK d T (k2 "bought" t)-(dZ (d.hr t))*yK d T (k2 "given" t)) d.n-d.rest*(mD (yK d T)).lv (d.n-1)=js d (Z8 d (yK d T)) d.n+((0-d.rest:Int))*fZ d (Z8 d (yK d T)) d.n
    have:js d (Z8 d (yK d T)) d.n=l9 (λt=>(eO (d.hr t))*yK d T (k2 "bought" t)-(dZ (d.hr t))*yK d T (k2 "given" t)) d.n:=t5 _ λt _=>by
     show(eO (d.hr t))*yK d T (k2 "bought" t)+((0-dZ (d.hr t):Int))*yK d T (k2 "given" t)=_;grind
    have:fZ d (Z8 d (yK d T)) d.n=(mD (yK d T)).lv (d.n-1):=by
     rw[F.r2 (d.n-1) j7,show d.n-1+1=d.n by simp[*]];exact r9 (λz=>(d.start:Rat)+z) (t5 _ λt _=>GF (yK d T (k2 "filled" t)) (yK d T (k2 "taken" t)) l)
    grind
 refine⟨_,_,h,⟨e (λt _=>(ME H K t).1) ok l,q⟩,⟨⟨_,F,b⟩,λP o=>?_⟩,?_⟩;have:=least H K ne o;rw[b 0 f5,b 1 f5,b 2 f5]at this;exact this
 . intro i r;rcases(by lia:i=0\/i=1\/i=2)with rfl|rfl|rfl<;>assumption
end
def TV(h:o6)(X:Nat->Dy)(V:Nat->Rat):Pl:=⟨λt=>(X t).la,λt=>((h.hs.getD t G9).Y1:Rat)-((h.hs.getD t G9).need:Rat)+(X t).b+val h.left*(X t).ta+(X t).la-l9 (X t).wk h.ws.length-(X t).fi-(X t).g,λt=>if t<h.hs.length then(X t).b else 0,λt=>if t<h.hs.length then(X t).g else 0,λt=>(X t).fi,λt=>(X t).ta,λt=>V (t+1),λj=>P2 h j-l9 (λi=>(X i).wk j) h.hs.length,λt=>(X t).wk⟩
theorem UD(n:Nat)(a:∀i,i<n->0<=C i):0<=l9 C n:=by
 induction n with
 |zero=>exact xT
 |succ n ih =>
  have:=ih λi b=>a i (by exact nC k8);have:=a n (by simp[*]);show 0<=l9 C n+C n;grind
theorem TN(D:∀t,t<d.n->HN d t 35 60 (C t) (λj=>P2 d j-l9 (λi=>(b5 i).wk j) t) (b5 t) (C (t+1)))(v:C 0=(d.start:Rat)):∀t,t<=d.n->C t=(d.start:Rat)+l9 (λt=>val d.kept*(b5 t).fi-(b5 t).ta) t:=λt=>by
 induction t with
 |zero=>intro _;rw[v];show _=_+0;grind
 |succ t ih =>
  intro g;have a:=(D t g).lv;have b:=ih (by exact bF k8);show _=(d.start:Rat)+(l9 _ t+_);grind
theorem Jt(H:C5 d){t:Nat}(g:m<d.w):(N2 d m<=t/\t<N2 d m+dD d m)↔((d.wk m).first<=(t:Int)/\(t:Int)<=(d.wk m).last):=by
 obtain⟨a,b,c⟩:0<=(d.wk m).first/\(d.wk m).first<=(d.wk m).last/\(d.wk m).last<(d.n:Int):=H.f m g;show((d.wk m).first.toNat<=t/\t<(d.wk m).first.toNat+((d.wk m).last+1-(d.wk m).first).toNat)↔_;omega
theorem ZY(H:C5 d)(D:∀t,t<d.n->HN d t 35 60 (C t) (λj=>P2 d j-l9 (λi=>(b5 i).wk j) t) (b5 t) (C (t+1)))(v:C 0=(d.start:Rat)):vk d (TV d b5 C):=by
 have N1:1<=d.n:=H.n1;have win:∀j i,j<d.w->i<dD d j->N2 d j+i<d.n:=λj i g a=>by
  obtain⟨_,c⟩:=(Jt H (t:=N2 d j+i) g).1 ⟨by simp[*],by simp[*]⟩;obtain⟨_,_,h⟩:0<=(d.wk j).first/\(d.wk j).first<=(d.wk j).last/\(d.wk j).last<(d.n:Int):=H.f j g;omega
 have zz:∀{a:Rat} {b:Int},(0<=a/\a<=(b:Rat))->b=0->a=0:=λp q=>by rw[q]at p;exact Rat.le_antisymm p.2 p.1
 refine⟨λt g=>(D t g).hl,λt g=>(D t g).sp,λt a b c h g e=>?_,λt e=>?_,λt g=>(D t g).hf,λt g=>(D t g).ht,λt g=>(D t g).hv,λj g=>?_,λj i g a=>?_,λs g=>?_,λs g=>?_,λj g=>?_⟩;have p:=(D t g).hb;have q:=(D t g).hg;rw[show rk (d.hs.getD t G9)=b from by delta rk;rw[e]]at p;rw[show uW (d.hs.getD t G9)=h from by delta uW;rw[e]]at q;show(0<=(if t<d.n then(b5 t).b else 0)/\(if t<d.n then(b5 t).b else 0)<=(b:Rat))/\0<=(if t<d.n then(b5 t).g else 0)/\(if t<d.n then(b5 t).g else 0)<=(h:Rat);rw[j2 g,j2 g];exact⟨p,q⟩;show(if t<d.n then(b5 t).b else 0)=0/\(if t<d.n then(b5 t).g else 0)=0;by_cases g:t<d.n;rw[j2 g,j2 g];exact⟨zz (D t g).hb (by delta rk;rw[e]),zz (D t g).hg (by delta uW;rw[e])⟩;rw[j1 g,j1 g];exact⟨rfl,rfl⟩;obtain⟨m,e⟩:∃m,d.n=m+1:=⟨d.n-1,by simp[*]⟩;have a:=(D m (by simp[*])).hw j g;have b:0<=l9 (λi=>(b5 i).wk j) d.n:=UD _ λi c=>((D i c).hw j g).nn;show 0<=P2 d j-l9 (λi=>(b5 i).wk j) d.n/\P2 d j-l9 (λi=>(b5 i).wk j) d.n<=P2 d j;refine⟨?_,by grind⟩;have:=a.le;rw[e];show 0<=P2 d j-(l9 (λi=>(b5 i).wk j) m+(b5 m).wk j);grind;have:=(D _ (win j i g a)).hw j g;exact⟨this.nn,this.most⟩
 . have e:JR d (TV d b5 C) s=l9 (b5 s).wk d.w:=t5 _ λj a=>by
     show(if N2 d j<=s/\s<N2 d j+dD d j then(b5 s).wk j else 0)=_;by_cases c:N2 d j<=s/\s<N2 d j+dD d j;rw[j2 c];rw[j1 c,((D s g).hw j a).out λz=>c ((Jt H a).2 z)]
   rw[e];show(b5 s).la+(if s<d.n then(b5 s).b else 0)+val d.left*(b5 s).ta-(((d.hr s).Y1:Rat)-((d.hr s).need:Rat)+(b5 s).b+val d.left*(b5 s).ta+(b5 s).la-l9 (b5 s).wk d.w-(b5 s).fi-(b5 s).g)-(if s<d.n then(b5 s).g else 0)-(b5 s).fi-l9 (b5 s).wk d.w=_;rw[j2 g,j2 g];show _=((d.hr s).need:Rat)-((d.hr s).Y1:Rat);grind
 exact TN D v (s+1) g
 . obtain⟨a,b,c⟩:0<=(d.wk j).first/\(d.wk j).first<=(d.wk j).last/\(d.wk j).last<(d.n:Int):=H.f j g;have e:=BI (g:=λt=>(b5 t).wk j) (a:=N2 d j) (n:=dD d j) (N:=d.n) (by
    show(d.wk j).first.toNat+((d.wk j).last+1-(d.wk j).first).toNat<=_
    omega)
   have f:l9 (λt=>if N2 d j<=t/\t<N2 d j+dD d j then(b5 t).wk j else 0) d.n=l9 (λi=>(b5 i).wk j) d.n:=t5 _ λt h=>by
    by_cases c:N2 d j<=t/\t<N2 d j+dD d j;rw[j2 c];rw[j1 c,((D t h).hw j g).out λz=>c ((Jt H g).2 z)]
   show P2 d j-l9 (λi=>(b5 i).wk j) d.n+l9 (λi=>(b5 (N2 d j+i)).wk j) (dD d j)=P2 d j;grind
theorem zt(H:C5 d)(a:Zz d m e z)(b:0<=z)(c:z<=(D:Rat))(p:autoParam (m<=50) kE._auto_1)(r:autoParam (e<=200) kE._auto_1):Sz (fh d ^ m) D z:=by
 have:=Th (q:=q2 z) (zo H a p r).f a.f.dvd (by rw[V3];exact b) (by rw[V3];exact c)
 rwa [V3]at this
theorem a1i(H:C5 d)(g:m<d.n){x:Dy}(D:HN d m 35 60 z C x v):Fz d (fh d ^ 36) x:=by
 obtain⟨⟨B0,B1⟩,D0,D1⟩:=Tz H g;obtain⟨⟨kp,zk,_⟩,_⟩:=Jj H;have fl:=H.fl;have tk:=H.tk;have t:∀{y:Rat} {M N:Int},0<=y->y<=(M:Rat)->M<=N->Zz d 36 60 y->Sz (fh d ^ 36) N y:=λa b c h=>(zt H h a b).mono (gu _) c
 have k1:val d.kept<=1:=by have:=zk.le;simpa using this
 have kf:Zz d 36 60 (val d.kept*x.fi):=zM zk D.zf;have k2:val d.kept*x.fi<=x.fi:=by
  have:=gy D.hf.1 (show 0<=1-val d.kept by grind);grind
 have k3:=gy (kM kp) D.hf.1;have L:Sz (fh d ^ 36) 1000000 (val d.kept*x.fi):=t k3 (Rat.le_trans k2 D.hf.2) fl.2 kf;refine⟨t D.hb.1 D.hb.2 (by show rk (d.hr m)<=_;exact Q8 k8 f5) (zm D.zb),t D.hg.1 D.hg.2 (by show uW (d.hr m)<=_;exact Q8 k8 f5) (zm D.zg),zo H D.zf,zo H kf,zo H D.zt,?_,zm D.zl,λj a=>zm (D.hw j a).z⟩;exact(L.sub (t (N:=1000000) D.ht.1 D.ht.2 tk.2 (zm D.zt))).mono (gu _) f5
theorem RS(l:K.length<=63)(H:C5 d){k:Int}(k0:0<=k)(k1:k<=80000):∃(p:f7) (P:Pl),gW [F9 K,m7 d,.int k]=sd p/\vk d P/\bI [m7 d,p]=sd (.tuple [qd (cV d P 0),qd (cV d P 1),qd (cV d P 2)])/\∀i,i<3->RO (cV d P i):=by
 obtain⟨X,V,e,v,D⟩:=RR l H k0 k1;obtain⟨⟨kp,zk,_⟩,_⟩:=Jj H;obtain⟨q,u,s,w⟩:=Dp (fD H (n:=36) f5) H (zo H zk) λt g=>a1i H g (D t g)
 have N1:1<=d.n:=H.n1;have c1:fN d X d.n=cV d (TV d X V) 1:=by
  show _=l9 (λj=>P2 d j-l9 (λi=>(X i).wk j) d.n) d.w;delta fN;rw[jw,rK (λi j=>(X i).wk j) d.n d.w]
 have c2:js d X d.n+((0-d.rest:Int):Rat)*fZ d X d.n=cV d (TV d X V) 2:=by
  show _=l9 (λt=>(eO (d.hr t):Rat)*(if t<d.n then(X t).b else 0)-(dZ (d.hr t):Rat)*(if t<d.n then(X t).g else 0)) d.n-(d.rest:Rat)*V (d.n-1+1)
  have a:js d X d.n=l9 (λt=>(eO (d.hr t):Rat)*(if t<d.n then(X t).b else 0)-(dZ (d.hr t):Rat)*(if t<d.n then(X t).g else 0)) d.n:=t5 _ λt g=>by
   show(eO (d.hr t):Rat)*(X t).b+((0-dZ (d.hr t):Int):Rat)*(X t).g=(eO (d.hr t):Rat)*(if t<d.n then(X t).b else 0)-(dZ (d.hr t):Rat)*(if t<d.n then(X t).g else 0);rw[j2 g,j2 g,tE];grind
  have b:fZ d X d.n=V (d.n-1+1):=by rw[Nat.sub_add_cancel N1,TN D v d.n (X1 _)];rfl
  rw[a,b,tE];grind
 rw[c1,c2]at q;rw[c1]at s;rw[c2]at w;refine⟨_,_,e,ZY H D v,q,λi r=>?_⟩
 rcases(by omega:i=0\/i=1\/i=2)with rfl|rfl|rfl
 exact u;exact s;exact w
theorem Sj{d:Nat->Rat}(a:∀i,i<3->RO (C i))(b:∀i,i<3->RO (d i))(f:NN (C 0-d 0) (C 1-d 1) (C 2-d 2)):bR [.tuple [qd (C 0),qd (C 1),qd (C 2)],.tuple [qd (d 0),qd (d 1),qd (d 2)]]=sd (.bool U'):=by
 have st:∀(i:Nat) (u:Option PV),i<3->(C i=d i->bq [sd (.tuple [qd (C 0),qd (C 1),qd (C 2)]),sd (.tuple [qd (d 0),qd (d 1),qd (d 2)]),iD i]=U (.next [sd (.tuple [qd (C 0),qd (C 1),qd (C 2)]),sd (.tuple [qd (d 0),qd (d 1),qd (d 2)]),iD i]))/\(d i<C i->bq [sd (.tuple [qd (C 0),qd (C 1),qd (C 2)]),sd (.tuple [qd (d 0),qd (d 1),qd (d 2)]),iD i]=U (.ret (.dat (.bool U')))):=λi u g=>by
  have x1:u9 (.tuple [qd (C 0),qd (C 1),qd (C 2)]) (.int i)=sd (qd (C i)):=by rcases(by omega:i=0\/i=1\/i=2)with rfl|rfl|rfl<;>rfl
  have x2:u9 (.tuple [qd (d 0),qd (d 1),qd (d 2)]) (.int i)=sd (qd (d i)):=by rcases(by omega:i=0\/i=1\/i=2)with rfl|rfl|rfl<;>rfl
  have t:o8 (j8 lj (j8 u9 (j4 0) (j4 2)) (j8 u9 (j4 1) (j4 2))) [sd (.tuple [qd (C 0),qd (C 1),qd (C 2)]),sd (.tuple [qd (d 0),qd (d 1),qd (d 2)]),iD i]=U (decide (q2 (C i)≠q2 (d i))):=by
   delta o8;rw[B2 (x:=.dat (qd (C i))) (y:=.dat (qd (d i))) ((B2 rfl rfl).trans x1) ((B2 rfl rfl).trans x2)];show((lj (fr (q2 (C i))) (fr (q2 (d i)))).bind _)=_;rw[zd];rfl
  refine⟨λz=>iI t ?_,λz=>iI t ?_⟩;rw[j1 (by rw[z];simp)];rfl;rw[j2 (du (show q2 (C i)≠q2 (d i)from λy=>by have:=r9 val y;rw[V3,V3]at this;grind))];refine fY ((v7 (x:=.dat (qd (C i))) (y:=.dat (qd (d i))) ((B2 rfl rfl).trans x1) ((B2 rfl rfl).trans x2) (yV (a i g) (b i g):ip [qd (C i),qd (d i)]=_)).trans ?_);rw[S6 (by grind)]
 have go:∀r:Option Out,X7 (C1 2) bq (Q1 0 3) [sd (.tuple [qd (C 0),qd (C 1),qd (C 2)]),sd (.tuple [qd (d 0),qd (d 1),qd (d 2)]),J]=r->(r=U (.ret (.dat (.bool U')))\/∃ds,r=U (.next ds))->bR [.tuple [qd (C 0),qd (C 1),qd (C 2)],.tuple [qd (d 0),qd (d 1),qd (d 2)]]=sd (.bool U'):=λr e o=>by
  refine R7 rfl ?_;have:D4 (x9 C9 (f6 (fC (.int 3)) l7)) (C1 2) bq [sd (.tuple [qd (C 0),qd (C 1),qd (C 2)]),sd (.tuple [qd (d 0),qd (d 1),qd (d 2)]),J]=r:=by
   delta D4;rw[show x9 C9 (f6 (fC (.int 3)) l7) [sd (.tuple [qd (C 0),qd (C 1),qd (C 2)]),sd (.tuple [qd (d 0),qd (d 1),qd (d 2)]),J]=U (Q1 0 3)from by show C9 [.int 3]=_;rw[O7 f5];rfl,n8];exact e
  rcases o with o|⟨ds,o⟩<;>rw[o]at this
  rw[q9];exact(r9 (λz=>aZ z _) this).trans rfl;exact k7 this rfl
 have n:=λi u g=>(st i u g).1;have y:=λi u g=>(st i u g).2;by_cases a0:C 0=d 0;by_cases a1:C 1=d 1;by_cases a2:C 2=d 2;exact go _ ((C8 rfl (n 0 J f5 a0)).trans ((C8 rfl (n 1 J f5 a1)).trans (C8 rfl (n 2 J f5 a2)))) (.inr ⟨_,rfl⟩);exact go _ ((C8 rfl (n 0 J f5 a0)).trans ((C8 rfl (n 1 J f5 a1)).trans (gQ rfl (y 2 J f5 (by delta NN at f;grind))))) (.inl rfl);exact go _ ((C8 rfl (n 0 J f5 a0)).trans (gQ rfl (y 1 J f5 (by delta NN at f;grind)))) (.inl rfl);exact go _ (gQ rfl (y 0 J f5 (by delta NN at f;grind))) (.inl rfl)
theorem Rt(ns:List Int)(q:ns.length<=63):qX [F9 ns]=sd (.bool Uf):=by
 obtain⟨h,T,O⟩:=Rx q;have H:=a2v O;obtain⟨c,p,d,⟨e1,e2⟩,B,ok⟩:=JE H;obtain⟨ds',E,x,rfl⟩:=dh (gt:=C1 3) (G:=Ad) (lo:=0) (n:=4) (ds:=[sd (F9 ns),sd (m7 h),sd (.tuple [qd (c 0),qd (c 1),qd (c 2)]),J])
  (λ_ ds=>∃x,ds=[sd (F9 ns),sd (m7 h),sd (.tuple [qd (c 0),qd (c 1),qd (c 2)]),x]) ⟨J,rfl⟩ (by
  rintro i ds g ⟨x,rfl⟩;obtain⟨r,P,a1,a2,a3,a4⟩:=RS (k:=1000+150*i) q H (by exact qg _) (by omega);have mu:F7 (.int 150) (.int (i:Int))=sd (.int (150*i)):=t6 Bt.lit (Bt.nX (by exact qg _) (by omega))
  refine⟨_,_,rfl,.inl ?_,iD i,rfl⟩;rw[O1];refine iI (b:=U') ?_ rfl;have k:j8 p8 (fC (.int 1000)) (j8 F7 (fC (.int 150)) (j4 3)) [sd (F9 ns),sd (m7 h),sd (.tuple [qd (c 0),qd (c 1),qd (c 2)]),iD i]=sd (.int (1000+150*i)):=(B2 (x:=.dat (.int 1000)) rfl ((B2 (x:=.dat (.int 150)) (y:=.dat (.int i)) rfl rfl).trans mu)).trans rfl;have w:f9 bR (f6 (f9 bI (f6 (j4 1) (f6 (f9 gW (f6 (j4 0) (f6 (j4 1) (f6 (j8 p8 (fC (.int 1000)) (j8 F7 (fC (.int 150)) (j4 3))) l7)))) l7))) (f6 (j4 2) l7)) [sd (F9 ns),sd (m7 h),sd (.tuple [qd (c 0),qd (c 1),qd (c 2)]),iD i]=sd (.bool U'):=v7 (x:=.dat (.tuple [qd (cV h P 0),qd (cV h P 1),qd (cV h P 2)])) (y:=.dat (.tuple [qd (c 0),qd (c 1),qd (c 2)])) (v7 (x:=.dat (m7 h)) (y:=.dat r) rfl (jL (x:=.dat (F9 ns)) (y:=.dat (m7 h)) rfl rfl k a1) a3) rfl (Sj a4 ok (B.le P a2));have w2:o8 (f9 bR (f6 (f9 bI (f6 (j4 1) (f6 (f9 gW (f6 (j4 0) (f6 (j4 1) (f6 (j8 p8 (fC (.int 1000)) (j8 F7 (fC (.int 150)) (j4 3))) l7)))) l7))) (f6 (j4 2) l7))) [sd (F9 ns),sd (m7 h),sd (.tuple [qd (c 0),qd (c 1),qd (c 2)]),iD i]=U U':=by delta o8;rw[w];rfl
  exact w2)
 refine R7 rfl ?_;refine k7 (m2 (gR rfl T) rfl) ?_;refine k7 (ds1:=[sd (F9 ns),sd (m7 h),sd (.tuple [qd (c 0),qd (c 1),qd (c 2)]),J]) (m2 (v7 (x:=.dat (m7 h)) (y:=.dat p) rfl ((B2 (x:=.dat (.tuple [p,d])) (y:=.dat (.int 0)) (gR rfl e1) rfl).trans rfl) e2) rfl) ?_;refine k7 (ds1:=[sd (F9 ns),sd (m7 h),sd (.tuple [qd (c 0),qd (c 1),qd (c 2)]),x]) ?_ rfl;delta D4;rw[show x9 C9 (f6 (fC (.int 4)) l7) [sd (F9 ns),sd (m7 h),sd (.tuple [qd (c 0),qd (c 1),qd (c 2)]),J]=U (Q1 0 4)from by show C9 [.int 4]=_;rw[O7 f5];rfl,n8];exact E
end Law
local macro_rules | `(tactic| walk_at "c") => `(tactic| exact⟨rfl, rfl, rfl, by decide +kernel, rfl, by decide +kernel, by decide +kernel⟩)
namespace Law
open PySem L2
variable{P:H9}{w:x5}{base:Heap}{X:Cx}{e Q H:Expr}{Z:DL}{p L:Pos}{Y I:List Str}{S:bG}{x:Str}{R:Nat}{O:TI}{g:TG}{M:List Expr}{G:TE}{E:f7->Option (List f7)}{D:DV}{C:DO}{B:TT}{A:DB}{z:n6}{y:Stmt}{v:Addr}{u:P8}{r:List j5->Prop}
def top(i:Nat):Stmt:=PySem.Challenge.pw_sunstore_k52_whole_no_plan_costs_less.main.body.getD i (.Pass ⟨0,0,0,0⟩)
inductive Rw(K:n6)(m n:Str)(s:Stmt)(f:Addr):P8->Prop
 |mk {oc kV dc pm cd ct:j5} {od an:Option Addr} {sl:Array (Option j5)} (l:K.lookup f=U ⟨oc,od,.func (gw m n (ia s) (bj s) (J2 s) .none kV dc pm an cd ct),sl⟩) (c:ye K cd n=Uf) (k:gA K (.ref f)=Uf):Rw K m n s f (gw m n (ia s) (bj s) (J2 s) .none kV dc pm an cd ct)
theorem Tj{n:Str}(r:Rw z x n y v u):tU z x n y v u:=by obtain⟨l,c,k⟩:=r;exact ZO l c k
theorem b00(h:r []):∀us,us.length=0->r us:=λus e=>by
 cases us with
 |nil=>exact h
 |cons _ _=>cases e
theorem b01(h:∀x,∀us,us.length=R->r (x::us)):∀us,us.length=R+1->r us:=λus e=>by
 cases us with
 |nil=>cases e
 |cons x t=>exact h x t (xX e)
local macro_rules | `(tactic| walk_at "b") => `(tactic| (intro _ _ _ _ _ _; repeat first|exact b00 rfl|refine b01 λ_ => ?_))
structure Dd(K:n6)(Jff:Prop)(n q:Str)(s:Stmt)(N:List Str)(k:Nat)(f:Addr)(fd:P8):Prop where
 F:tU K n q s f fd
 m:Jff
inductive De where
 |f (n:Str) (i:Nat) (N:List Str) (k:Nat)
 |m (n q:Str) (i j:Nat) (N:List Str) (k:Nat)
 |i (q:Str) (i j:Nat) (N:List Str) (k:Nat)
inductive Nd(K:n6)(C:Addr):De->Addr->P8->Prop
 |f {n:Str} {i k:Nat} {N:List Str} {f:Addr} {d:P8} (a:eY K X2 n=U (U (.ref f))) (r:Rw K n n (top i) f d):Nd K C (.f n i N k) f d
 |m {n q:Str} {i j k:Nat} {N:List Str} {f:Addr} {d:P8} (a:ai K (.ref C) n=U (U (.ref f))) (b:sZ K (.ref f)=Uf) (r:Rw K n q (inClass (top i) j) f d):Nd K C (.m n q i j N k) f d
 |i {q:Str} {i j k:Nat} {N:List Str} {f:Addr} {d:P8} (a:ai K (.ref C) "__init__" = U (U (.ref f))) (b:sZ K (.ref f)=Uf) (r:Rw K "__init__" q (inClass (top i) j) f d):Nd K C (.i q i j N k) f d
inductive Ns(K:n6)(C:Addr):List De->List Addr->List P8->Prop
 |n:Ns K C [] [] []
 |c {e:De} {l:List De} {f:Addr} {fs:List Addr} {d:P8} {ds:List P8}:Nd K C e f d->Ns K C l fs ds->Ns K C (e::l) (f::fs) (d::ds)
theorem Ns.at{K:n6}{C:Addr}{d0:P8}{e:De}:∀{l:List De} {fs:List Addr} {ds:List P8} {i:Nat},Ns K C l fs ds->l[i]? = U e->Nd K C e (fs.getD i 0) (ds.getD i d0)
 |_,_,_,0,.c h _,m=>by cases m;exact h
 |_,_,_,_+1,.c _ t,m=>t.at m
abbrev bdT(n q:Str)(s:Stmt)(N:List Str)(k:Nat):Prop:=∀(kV doc pm:j5) (an:Option Addr) (cdv ct:j5) (us:List j5),us.length=k->bindArgs (gw n q (ia s) (bj s) (J2 s) .none kV doc pm an cdv ct) ⟨us,[]⟩=pure ((N.take k).zip us)
theorem Nd.to{K:n6}{C:Addr}{n:Str}{i k:Nat}{N:List Str}{f:Addr}{d:P8}(h:Nd K C (.f n i N k) f d)(b:bdT n n (top i) N k)(s:l5)(us:List j5)(l:us.length=k):kH s d ⟨us,[]⟩ ((N.take k).zip us):=by
 cases h with
 |f a r =>
  cases r with
  |mk _ _ _=>exact .of_eq (b _ _ _ _ _ _ us l)
section
variable{K:n6}{mg:Str->Option j5}{n q:Str}{s:Stmt}{N:List Str}{k l:Nat}{f:Addr}{fd:P8}{h:Heap}{Jff:Prop}{P:H9}{w:x5}{base:Heap}
structure Ok(P:H9)(w:x5)(mg:Str->Option j5)(base:Heap)(D:Dd K Jff n q s N k f fd)(l:Nat)(sp:Sp):Prop where
 h:ar P w K mg base rE l f fd (N.take k) sp
 b:Binds K fd (N.take k) []
abbrev okT(P:H9)(w:x5)(K:n6)(mg:Str->Option j5)(base:Heap)(N:List Str)(q:Str)(s:Stmt)(f:Addr)(l:Nat)(G:DO):Prop:=∀(cdv:j5) (A:X9) (outer:List Env) (s':l5) (H:Hp) (E:XK),N.Nodup->K7 l (A.deeper (PyProof.Rows.envOfC q (J2 s) s'.heap.objs.size f cdv))->∃t,iP (oM rE P w K mg base N q (J2 s) f cdv A outer s' H E).Au (bj s) t G
theorem okA(D:Dd K Jff n q s N k f fd)(b:okT P w K mg base N q s f l C)(e:autoParam ((N.take k).length<=N.length) E5)(z:bdT n q s N k:=by walk_at "b")(S:jQ N (N.take k) (J2 s):=by walk_at "c")(r:autoParam ((N.take k).length=k) k6):Ok P w mg base D (l+1) (B5 K (E1 (N.take k).length N.length C)):=⟨D.F.okF S e λ_ _ _ _ _ _ hr=>b _ _ _ _ _ _ S.nd hr,D.F.binds λ_ _ _ _ _ _ us hl=>z _ _ _ _ _ _ us (hl.trans r)⟩
theorem okB(D:Dd K Jff n q s N k f fd)(b:okT P w K mg base N q s f l C)(e:autoParam ((N.take k).length<=N.length) E5)(z:bdT n q s N k:=by walk_at "b")(S:jQ N (N.take k) (J2 s):=by walk_at "c")(r:autoParam ((N.take k).length=k) k6):Ok P w mg base D (l+1) (iw K (mM (N.take k).length N.length C)):=⟨D.F.okO S e λ_ _ _ _ _ _ hr=>b _ _ _ _ _ _ S.nd hr,D.F.binds λ_ _ _ _ _ _ us hl=>z _ _ _ _ _ _ us (hl.trans r)⟩
end
inductive Al(p:Str->Prop):List Str->Prop
 |n:Al p []
 |c {s:Str} {r:List Str}:p s->Al p r->Al p (s::r)
theorem Al.at{p:Str->Prop}{s:Str}:∀{l:List Str},Al p l->s∈l->p s
 |_::_,.c h t,m=>by
  cases m with
  |head=>exact h
  |tail _ m=>exact t.at m
theorem pcD{mg':Str->Option j5}{fr:Bool}{t:TA}{k':Nat}{k0:Nat}{q:Str}{f':FV}{D:Dd z (mg' x=U (.ref v)) x q y Y k0 v u}(G:Ok X.prog X.w mg' X.base D R (B5 z f'))(hr:K7 k' X.A)(ha:cT X fr (e::M) t Z)(eK:autoParam (X.K=z) k6)(em:autoParam (X.mg=mg') k6)(hk:R<=k':=by omega)(hg:Gl X x:=by exact rfl)(hdb:autoParam ((x==("__debug__" : Str))=U') E5)(he:autoParam (m8 (e::M) X.env=(U',eval e X.env)::m8 M X.env) k6)(hpl:autoParam ((C6 L (m8 M X.env)).any (·.1)=U') k6):PX X fr (.Call (.Name x p) (e::M) [] L) (qv (B5 z f') [] E0 t) (f9 f' Z):=PU eK (em▸G.h) (hr.mono hk) hg (em▸D.m) D.F.kp G.b da ha hdb he hpl
noncomputable def SW:Expr->List Str
 | .Name x _=>[x]
 | .Tuple es _ _=>es.filterMap fun | .Name x _=>U x|_=>J
 |_=>[]
theorem bkN(h:gh X.N X.N X.env.scope S=Uf):gh X.N X.N X.env.scope S=Uf:=h
theorem bkL(nb:List Str)(h:gh X.N nb X.env.scope S=Uf):gh X.N nb X.env.scope S=Uf:=h
theorem PR(hc:X.calm=Uf)(hk:gh X.N I X.env.scope S=Uf)(hb:SW Q=Y)(hgt:sH X.K Y.length g E)(hi:eU X Uf Q H O Z)(go:jg Y.length g)(hg:∀cl C fp s a pins,PG (S7 X Y I S cl C fp s a pins) Q g)(ht:∀cl C fp s a pins,lJ (S7 X Y I S cl C fp s a pins) M B A)(he:∀cl C fp s a pins,PX (S7 X Y I S cl C fp s a pins) Uf e G D)(hs:autoParam (∀x,dw H X.env x=pure x) Q4):PX X Uf (.ListComp e [⟨Q,H,M,0⟩] S p) (gF Y O g B G) (p9 Z E A D):=yR hc (xG hk) hi go hg hgt ht he hs
theorem Im{pos':Pos}(hN:X.N.Nodup)(hi':X.N[R]? = U x)(hx:Loc X.env.scope x)(hc:X.calm=Uf)(hk:gh X.N I X.env.scope S=Uf)(hb:SW Q=Y)(hgt:sH X.K Y.length g E)(hi:eU X Uf Q H O Z)(go:jg Y.length g)(hg:∀cl C fp s i pins,PG (S7 X Y I S cl C fp s i pins) Q g)(he:∀cl C fp s i pins,PX (S7 X Y I S cl C fp s i pins) Uf e G D)(hsw:autoParam (ag (.ListComp e [⟨Q,H,[],0⟩] S L) (U (.Name x pos')) p.line X.env=pure Uf) k6)(hf:autoParam (X.fn x=Uf\/X.env.scope.names.lookup x=U .local) bC)(hs:autoParam (∀x,dw H X.env x=pure x) Q4):H0 X (.Assign [.Name x pos'] (.ListComp e [⟨Q,H,[],0⟩] S L) p) (fO (gF Y O g wz G) (Y9 R)) (O8 R (iM Z E D)):=KQ hN hi' hx hc (xG hk) hi go hg hgt he hsw hf hs
theorem Ip{pos':Pos}(hN:X.N.Nodup)(hi':X.N[R]? = U x)(hx:Loc X.env.scope x)(hc:X.calm=Uf)(hk:gh X.N I X.env.scope S=Uf)(hb:SW Q=Y)(hgt:sH X.K Y.length g E)(hi:eU X Uf Q H O Z)(go:jg Y.length g)(hg:∀cl C fp s i pins,PG (S7 X Y I S cl C fp s i pins) Q g)(ht:∀cl C fp s i pins,lJ (S7 X Y I S cl C fp s i pins) M B A)(he:∀cl C fp s i pins,PX (S7 X Y I S cl C fp s i pins) Uf e G D)(hsw:autoParam (ag (.ListComp e [⟨Q,H,M,0⟩] S L) (U (.Name x pos')) p.line X.env=pure Uf) k6)(hf:autoParam (X.fn x=Uf\/X.env.scope.names.lookup x=U .local) bC)(hs:autoParam (∀x,dw H X.env x=pure x) Q4):H0 X (.Assign [.Name x pos'] (.ListComp e [⟨Q,H,M,0⟩] S L) p) (fO (gF Y O g B G) (Y9 R)) (k9 R (p9 Z E A D)):=KS hN hi' hx hc (xG hk) hi go hg hgt ht he hsw hf hs
theorem Io{pos':Pos}(hN:X.N.Nodup)(hi':X.N[R]? = U x)(hx:Loc X.env.scope x)(hc:X.calm=Uf)(hk:gh X.N I X.env.scope S=Uf)(hb:SW Q=Y)(hgt:sH X.K Y.length g E)(hi:eU X Uf Q H O Z)(go:jg Y.length g)(hg:∀cl C fp s i pins,PG (S7 X Y I S cl C fp s i pins) Q g)(ht:∀cl C fp s i pins,lJ (S7 X Y I S cl C fp s i pins) M B A)(he:∀cl C fp s i pins,PX (S7 X Y I S cl C fp s i pins) Uf e G D)(hsw:autoParam (ag (.ListComp e [⟨Q,H,M,0⟩] S L) (U (.Name x pos')) p.line X.env=pure Uf) k6)(hf:autoParam (X.fn x=Uf\/X.env.scope.names.lookup x=U .local) bC)(hs:autoParam (∀x,dw H X.env x=pure x) Q4):H0 X (.Assign [.Name x pos'] (.ListComp e [⟨Q,H,M,0⟩] S L) p) (fO (gF Y O g B G) (Y9 R)) (O8 R (p9 Z E A D)):=KR hN hi' hx hc (xG hk) hi go hg hgt ht he hsw hf hs
theorem Qk{body:List Stmt}{tb:TS}{gt:f7->DD}(hp:sP (model X.prog X.w) X.A X.env X.xe)(hc:X.calm=Uf)(hgt:Ui X.K g gt)(hi:eU X Uf e Q O Z)(hg:PG X e g)(hb:iP X body tb C)(hs:autoParam (∀x,dw Q X.env x=pure x) Q4):H0 X (.For e Q body [] p) (Pc O g tb) (D4 Z gt C):=Vr hp hc hi hg hgt hb hs
mutual
inductive Cs(K:n6):j5->V->f7->Prop
 |i {n:Int} {t:Tok}:Cs K (.int n t) (.int n) (.int n)
 |t {a:Addr} {d:Option Addr} {n:Nat} {s:Array (Option j5)} {us:List j5} {vs:List V} {ds:List f7} (l:K.lookup a=U ⟨.type "tuple",d,.seq us.toArray n,s⟩) (z:us.toArray.size<=1000) (h:Cl K us vs ds):Cs K (.ref a) (.ref a) (.tuple ds)
inductive Cl(K:n6):List j5->List V->List f7->Prop
 |n:Cl K [] [] []
 |c {u:j5} {us:List j5} {v:V} {vs:List V} {d:f7} {ds:List f7} (a:Cs K u v d) (b:Cl K us vs ds):Cl K (u::us) (v::vs) (d::ds)
end
mutual
theorem Cs.to{K:n6}{u:j5}{v:V}{d:f7}(h:Cs K u v d):RelV v u/\∀H,Dt K H v d:=by
 cases h with
 |i=>exact⟨⟨_,rfl⟩,λ_=>.int _⟩
 |t l z h=>exact⟨rfl,Sd l z h.to.1 h.to.2⟩
theorem Cl.to{K:n6}{us:List j5}{vs:List V}{ds:List f7}(h:Cl K us vs ds):Vals vs us/\∀H,u5 K H vs ds:=by
 cases h with
 |n=>exact⟨.nil,λ_=>.nil⟩
 |c a b=>exact⟨.cons a.to.1 b.to.1,λH=>.cons (a.to.2 H) (b.to.2 H)⟩
end
inductive Ck(K:n6):List (Str×f7)->List Addr->Prop
 |n:Ck K [] []
 |c {s:Str} {d:f7} {l:List (Str×f7)} {a:Addr} {as:List Addr} (e:eY K X2 s=U (U (.ref a))) (h:Cs K (.ref a) (.ref a) d) (r:Ck K l as):Ck K ((s,d)::l) (a::as)
theorem Ck.at{K:n6}{s:Str}{d:f7}{l:List (Str×f7)}{as:List Addr}{i:Nat}(h:Ck K l as)(m:l[i]? = U (s,d)):eY K X2 s=U (U (.ref (as.getD i 0)))/\Cs K (.ref (as.getD i 0)) (.ref (as.getD i 0)) d:=by
 induction h generalizing i with
 |n=>exact nE m
 |c a b _ j=>cases i with
  |zero=>cases m;exact⟨a,b⟩
  |succ i=>exact(j (i:=i) m :)
def cts:List (Str×f7):=[("FREE",mP),("LACKED",DC),("NOUGHT_best",D5),("NOUGHT_solving",J3),("PARTS",fw),("UNDONE",vZ)]
structure Ads where
 f:Nat->Addr
 d:Nat->P8
 u:Nat->Addr
 C:Addr
noncomputable def TR:List De:=[.f "common_divisor" 4 ["one","other","rest"] 2,
 .f "fraction" 5 ["top","bottom","divisor"] 2,
 .f "plus" 6 ["one","other","shared","top","divisor"] 2,
 .f "minus" 7 ["one","other"] 2,
 .f "times" 8 ["one","other","divisor","other_divisor","top"] 2,
 .f "over" 9 ["one","other"] 2,
 .f "under" 10 ["one","other"] 2,
 .f "common_multiple" 14 ["numbers","told","number"] 1,
 .f "whole" 15 ["one","by"] 2,
 .f "scale_of" 16 ["rows","choice"] 2,
 .f "column_of" 17 ["rows","choice","scale"] 3,
 .f "unit_row" 18 ["count","place","row"] 2,
 .f "product" 19 ["row","other"] 2,
 .f "column_product" 20 ["row","column"] 2,
 .f "turned" 21 ["row","pivot_row","factor","pivot","size"] 5,
 .i "Table.__init__" 22 0 ["self","costs","rows","rights","tops","first"] 6,
 .m "set_weights" "Table.set_weights" 22 1 ["self","costs","part","weights","multiple"] 2,
 .m "set_limits" "Table.set_limits" 22 2 ["self","rights","tops","heights","bottoms"] 3,
 .m "first_prices" "Table.first_prices" 22 3 ["self","part"] 2,
 .m "rest" "Table.rest" 22 4 ["self","part","choice"] 3,
 .m "amounts" "Table.amounts" 22 5 ["self"] 1,
 .m "paces" "Table.paces" 22 6 ["self","choice"] 2,
 .m "flip" "Table.flip" 22 7 ["self","choice","by","place","number"] 2,
 .m "turn" "Table.turn" 22 8 ["self","choice","place","paces","sign","pivot","pivot_row","part","factor","inverse"] 4,
 .f "gain_of" 23 ["table","choice","sign","part","rest"] 2,
 .f "moving" 24 ["table","careful","told","best","choice","gain"] 2,
 .f "stops" 25 ["table","choice","paces","found","sign","place","amount","number","limit","pace"] 3,
 .f "sooner" 26 ["one","other","length","other_length"] 2,
 .f "first_stop" 27 ["found","told","stop"] 1,
 .f "move" 28 ["table","choice","paces","stop"] 4,
 .f "mix_of" 29 ["table","tops","mix","choice","amount"] 2,
 .f "price_of" 30 ["table","place","parts"] 2,
 .f "way_of" 31 ["table","choice","paces","way","number","pace"] 3,
 .f "solved" 32 ["costs","rows","rights","tops","first","table","choice","paces","stop"] 5,
 .f "added" 34 ["one","other"] 2,
 .f "multiplied" 35 ["one","by"] 2,
 .f "coins" 41 ["price"] 1,
 .f "into" 42 ["hour"] 1,
 .f "out_of" 43 ["hour"] 1,
 .f "hour_choices" 44 ["number","hour","choices","line"] 2,
 .f "store_choices" 45 ["house","number","count","hour","store","filled","taken","end"] 2,
 .f "work_choices" 46 ["house","number","work","row","choices","hour","numbers"] 2,
 .f "choices_of" 47 ["house","found","number","hour"] 1,
 .f "rows_of" 48 ["choices","count","rows","place","choice","row","one"] 2,
 .f "rights_of" 49 ["house","needs","starts"] 1,
 .f "first_names" 50 ["house","needs","levels"] 1,
 .f "parted" 51 ["store","filled","taken","more"] 3,
 .f "plan_of" 52 ["house","amounts","plan","hour","traded","stored","worked"] 2,
 .f "prices_of" 53 ["house","told","count","here","stored","behind","price"] 2,
 .f "best_plan" 54 ["house","choices","names","costs","tops","rights","first","answer"] 1,
 .f "_law_draw" 56 ["_law_script","_law_k","_law_many","_law_cell","_law_mixed"] 3,
 .f "_law_norm" 57 ["_law_top","_law_bottom","_law_one","_law_other","_law_rest"] 2,
 .f "_law_sum" 58 ["_law_one","_law_other"] 2,
 .f "_law_times" 59 ["_law_one","_law_other"] 2,
 .f "_law_below" 60 ["_law_one","_law_other"] 2,
 .f "_law_cheaper" 61 ["_law_one","_law_other","_law_k"] 2,
 .f "_law_negative" 62 ["_law_one"] 1,
 .f "_law_number" 63 ["_law_script","_law_k","_law_most","_law_far"] 3,
 .f "_law_share" 64 ["_law_script","_law_k","_law_some","_law_bottom"] 2,
 .f "_law_house" 65 ["_law_script","_law_many","_law_hours","_law_t","_law_k","_law_line_here","_law_buy","_law_give","_law_size","_law_store","_law_works","_law_j","_law_first","_law_last"] 1,
 .f "_law_line" 66 ["_law_hour"] 1,
 .f "_law_part" 67 ["_law_script","_law_k"] 2,
 .f "_law_least" 68 ["_law_some","_law_found","_law_one"] 1,
 .f "_law_worked" 69 ["_law_script","_law_house_here","_law_left","_law_rest","_law_t","_law_k","_law_worked_here","_law_j","_law_work","_law_one"] 6,
 .f "_law_hour_done" 70 ["_law_script","_law_house_here","_law_t","_law_level","_law_left","_law_k","_law_hour","_law_store","_law_line_here","_law_bought","_law_taken","_law_rest","_law_lacked","_law_more","_law_told","_law_room","_law_filled","_law_given_out"] 6,
 .f "_law_plan" 71 ["_law_script","_law_house_here","_law_k","_law_level","_law_left","_law_plan_here","_law_t","_law_told"] 3,
 .f "_law_costs" 72 ["_law_house_here","_law_plan_here","_law_lacked","_law_undone","_law_paid","_law_level","_law_work","_law_t","_law_done","_law_line_here","_law_one"] 2,
 .f "law" 73 ["_law_script","_law_house_here","_law_least_here","_law_k"] 1]
structure Txt(K:n6)(mg:Str->Option j5)(a:Ads):Prop where
 f:∀(i:Nat) {n:Str} {t k:Nat} {N:List Str},TR[i]? = U (.f n t N k)->Dd K (mg n=U (.ref (a.f i))) n n (top t) N k (a.f i) (a.d i)
 m:∀(i:Nat) {n q:Str} {t j k:Nat} {N:List Str},TR[i]? = U (.m n q t j N k)->Dd K (Meth K a.C n (a.f i)) n q (inClass (top t) j) N k (a.f i) (a.d i)
 i:∀(i:Nat) {q:Str} {t j k:Nat} {N:List Str},TR[i]? = U (.i q t j N k)->Dd K (Mk K a.C (a.f i)) "__init__" q (inClass (top t) j) N k (a.f i) (a.d i)
 cn:cK K "Table" a.C
 mc:mg "Table" = U (.ref a.C)
 na:∀s∈(["scales","columns","multiples","weights","unit","rights","limits","chosen","full","size","inverse","prices"]:List Str),X8 K a.C s
 n:∀s∈(["abs","dict","enumerate","len","list","range","reversed","sum","tuple","zip"]:List Str),mg s=J
 v:∀(i:Nat) {s:Str} {d:f7},cts[i]? = U (s,d)->mg s=U (.ref (a.u i))/\RelV (.ref (a.u i)) (.ref (a.u i))/\∀H,Dt K H (.ref (a.u i)) d
set_option hygiene false
local macro_rules | `(tactic| walk_at "n") => `(tactic| first|exact nd|(dsimp only[S7, Cx.Au, oM]; decide +kernel))
local macro_rules | `(tactic| walk_at "v") => `(tactic| first|exact Or.inl rfl|exact Or.inr rfl)
local macro_rules | `(tactic| walk_at "o") => `(tactic| first|exact uM T|exact FU T|exact VT T|exact QT T|exact QR T|exact VU T|exact QQ T|exact rX T|exact QP T|exact FQ T|exact Cm T|exact FP T|exact IE T|exact uN T|exact Lp T|exact IM T|exact Lv T|exact QS T|exact Lq T|exact Ba T|exact Lw T|exact FR T|exact Lo T|exact Lr T|exact QW T|exact AY T|exact QV T|exact VV T|exact Lu T|exact wU T|exact vH T|exact wR T|exact Bb T|exact ID T|exact Cg T|exact yY T|exact Ls T|exact IF T|exact Ci T|exact Cn T|exact LC T|exact LA T|exact QU T|exact IG T|exact IL T|exact Cj T|exact AZ T|exact FT T|exact IH T|exact IJ T|exact LB T|exact Lz T|exact II T|exact Ly T|exact IK T|exact Lx T)
local macro_rules | `(tactic| walk_at "t") => `(tactic| first|exact OY|exact OX|exact OV|exact UC (by repeat first|exact OW|apply Kg))
local macro_rules | `(tactic| walk_at "w") => `(tactic| first|exact Ms f5|exact Rz (xm (xm Mr f5) f5))
local macro_rules | `(tactic| walk_at "m") => `(tactic| first|exact(rfl : _ = (["_law_work"] : List Str))|exact(rfl : _ = (["choice", "scale"] : List Str))|exact(rfl : _ = (["choice"] : List Str))|exact(rfl : _ = (["hour", "price"] : List Str))|exact(rfl : _ = (["hour"] : List Str))|exact(rfl : _ = (["name"] : List Str))|exact(rfl : _ = (["number", "hour"] : List Str))|exact(rfl : _ = (["number", "other"] : List Str))|exact(rfl : _ = (["number", "other_number"] : List Str))|exact(rfl : _ = (["number"] : List Str))|exact(rfl : _ = (["one"] : List Str))|exact(rfl : _ = (["part"] : List Str))|exact(rfl : _ = (["place", "number"] : List Str))|exact(rfl : _ = (["place", "row"] : List Str))|exact(rfl : _ = (["place"] : List Str))|exact(rfl : _ = (["row", "pace"] : List Str))|exact(rfl : _ = (["row"] : List Str))|exact(rfl : _ = (["top", "full"] : List Str))|exact(rfl : _ = (["top", "scale"] : List Str))|exact(rfl : _ = (["triple", "scale"] : List Str))|exact(rfl : _ = (["work"] : List Str)))
local macro_rules | `(tactic| walk_at "u") => `(tactic| first|exact bkN rfl|exact bkL ["choices", "count", "rows", "place", "choice", "row'", "one"] rfl|exact bkL ["house", "told", "count", "here", "stored", "behind", "price'"] rfl)
local macro_rules | `(tactic| walk_at "l") => `(tactic| first|exact PR rfl (by walk_at "u") (by walk_at "m") (by walk_at "t") (by walk_at "q") (by walk_at "w") (λ_ _ _ _ _ _ => (by walk_at "q")) (λ_ _ _ _ _ _ => (by walk_at "q")) (λ_ _ _ _ _ _ => (by walk_at "q")))
local macro_rules | `(tactic| walk_at "x") => `(tactic| first|((with_reducible show PX _ _ (.BoolOp _ [_] _) _ _); exact Yc (by walk_at "q"))|((with_reducible show PX _ _ _ _ (j4 _)); exact XZ _ (pv _))|((with_reducible show PX _ _ _ _ (fC _)); first|exact Yj|exact a0L|exact Yb|exact Yf|exact jA rfl (T.v 0 rfl)|exact jA rfl (T.v 1 rfl)|exact jA rfl (T.v 2 rfl)|exact jA rfl (T.v 3 rfl)|exact jA rfl (T.v 4 rfl)|exact jA rfl (T.v 5 rfl))|((with_reducible show PX _ _ _ _ (j8 u9 _ _)); exact a0J (r := wJ K) sr WZ (by walk_at "q") (by walk_at "q") (λ_ _ => rfl))|((with_reducible show PX _ _ _ _ (j8 F7 _ _)); exact nY VN a0w (by walk_at "q") (by walk_at "q"))|((with_reducible show PX _ _ _ _ (j8 p8 _ _)); exact nY (r := Ik K) VS a0A (by walk_at "q") (by walk_at "q"))|((with_reducible show PX _ _ _ _ (j8 T7 _ _)); exact nY QO Xa (by walk_at "q") (by walk_at "q"))|((with_reducible show PX _ _ _ _ (j8 df _ _)); exact nY VO a0x (by walk_at "q") (by walk_at "q"))|((with_reducible show PX _ _ _ _ (j8 dR _ _)); exact nY YK a0s (by walk_at "q") (by walk_at "q"))|((with_reducible show PX _ _ _ _ (j8 dX _ _)); exact nY (r := Ii K) VM WW (by walk_at "q") (by walk_at "q"))|((with_reducible show PX _ _ _ _ (j8 qA _ _)); exact nY YM a0u (by walk_at "q") (by walk_at "q"))|((with_reducible show PX _ _ _ _ (j8 Ib _ _)); exact nY YL a0t (by walk_at "q") (by walk_at "q"))|((with_reducible show PX _ _ _ _ (j8 Z7 _ _)); exact KI (r := Ij K) (Lm hr.units) Xb (eI _) (by walk_at "q") (by walk_at "q"))|((with_reducible show PX _ _ _ _ (j8 ri _ _)); exact KI IA WX (eI _) (by walk_at "q") (by walk_at "q"))|((with_reducible show PX _ _ _ _ (gg bP _)); exact a0H Xi a0v (by walk_at "q"))|((with_reducible show PX _ _ _ _ (S5 _)); exact Va (by walk_at "q"))|((with_reducible show PX _ _ _ _ (kB _ _)); exact PM hr.u1 (by walk_at "q") (by walk_at "q"))|((with_reducible show PX _ _ _ _ (jI _ _ _)); exact KH hr.u1 (by walk_at "q") (by walk_at "q") (by walk_at "q"))|((with_reducible show PX _ _ _ _ (Dh _)); exact PL (K' := K) rfl hr.u2 hr.hd rfl (T.n _ f5) t4 rfl (T.n _ f5) t4 (by walk_at "q"))|((with_reducible show PX _ _ _ _ (uF ma _ _)); exact KG (K' := K) hr.units rfl (by walk_at "q") (by walk_at "q"))|((with_reducible show PX _ _ _ _ (n9 _)); exact Ya (by walk_at "q"))|((with_reducible show PX _ _ _ _ (E2 _)); exact Yg (by walk_at "q"))|((with_reducible show PX _ _ _ _ (hZ _ _ _)); exact a0K (by walk_at "q") (by walk_at "q") (by walk_at "q"))|((with_reducible show PX _ _ _ _ (Js _ _)); exact Ym (by walk_at "q") (by walk_at "q"))|((with_reducible show PX _ _ _ _ (TL _ _)); exact a0I (by walk_at "q") (by walk_at "q"))|((with_reducible show PX _ _ _ _ (Dg _)); exact Ye (by walk_at "q"))|((with_reducible show PX _ _ _ _ (W4 _)); exact Yk (by walk_at "q"))|((with_reducible show PX _ _ _ _ (oK _)); exact Yl (by walk_at "q"))|((with_reducible show PX _ _ _ _ (P6 _)); exact UZ _ (pv _))|((with_reducible show PX _ _ _ _ (zR _ _)); exact Vf (K' := K) rfl _ (pv _) (by walk_at "q"))|((with_reducible show PX _ _ _ _ (sy _ _)); exact Yh (K' := K) rfl _ (pv _) (by walk_at "q"))|((with_reducible show PX _ _ _ _ (f9 _ _)); first|((with_reducible show PX _ _ _ _ (f9 A9 _)); exact vC (r := Pz K) MO a0z rfl (T.n _ f5) t4 (by walk_at "q"))|((with_reducible show PX _ _ _ _ (f9 oP _)); exact vC Sn a0B rfl (T.n _ f5) t4 (by walk_at "q"))|((with_reducible show PX _ _ _ _ (f9 BJ _)); exact vC (r := Ih K) (MN hr.hd) WV rfl (T.n _ f5) t4 (by walk_at "q"))|((with_reducible show PX _ _ _ _ (f9 cW _)); exact Ap (r := a0F K) Bg Ul rfl (T.n _ f5) t4 (by walk_at "q"))|((with_reducible show PX _ _ _ _ (f9 xh _)); exact Ap (r := XS K) Dw WY rfl (T.n _ f5) t4 (by walk_at "q"))|exact pcD (by walk_at "o") hr (by walk_at "q"))|((with_reducible show PX _ _ _ _ (p9 _ _ _ _)); walk_at "l")|((with_reducible show PX _ _ _ _ (mN _ _ _ _)); exact PD (r := XQ K) XB a2g (by walk_at "q") (by walk_at "q") (by walk_at "q"))|((with_reducible show PX _ _ _ _ (uF CN _ _)); exact PK (by walk_at "q") (by walk_at "q"))|((with_reducible show PX _ _ _ _ (B9 _ _ _)); exact PN rfl T.cn (T.na _ f5) (by walk_at "q"))|((with_reducible show PX _ _ _ _ (K8 _ _ _)); exact PH rfl T.cn (T.na _ f5) (pv _))|((with_reducible show PX _ _ _ _ (iL _ _ _ _)); exact Vb rfl T.cn (T.na _ f5) (pv _) (by walk_at "q"))|((with_reducible show PX _ _ _ _ (O6 _ _ Q0 _ l7)); exact KD rfl T.cn (by walk_at "q") (T.m 20 rfl).m (mE T).h (hr.mono (by omega)) (mE (P := P) (w := w) (base := base) T).b da (pl := _))|((with_reducible show PX _ _ _ _ (O6 _ _ J1 _ _)); exact vB rfl T.cn (by walk_at "q") (T.m 18 rfl).m (Y4 T).h (hr.mono (by omega)) (Y4 (P := P) (w := w) (base := base) T).b da (by walk_at "q") (pl := _))|((with_reducible show PX _ _ _ _ (O6 _ _ Q7 _ _)); exact vB rfl T.cn (by walk_at "q") (T.m 19 rfl).m (gI T).h (hr.mono (by omega)) (gI (P := P) (w := w) (base := base) T).b da (by walk_at "q") (pl := _))|((with_reducible show PX _ _ _ _ (O6 _ _ U7 _ _)); exact vB rfl T.cn (by walk_at "q") (T.m 21 rfl).m (pa T).h (hr.mono (by omega)) (pa (P := P) (w := w) (base := base) T).b da (by walk_at "q") (pl := _))|((with_reducible show PX _ _ _ _ (uG _ _ _)); exact Ve T.cn (T.i 15 rfl).m (oa T).h (hr.mono (by omega)) rfl T.mc (oa (P := P) (w := w) (base := base) T).b da (by walk_at "q")))
local macro_rules | `(tactic| walk_at "y") => `(tactic| first|((with_reducible show H0 _ _ _ (O8 _ (iM _ _ _))); exact Im (by walk_at "n") rfl (by walk_at "v") rfl (by walk_at "u") (by walk_at "m") (by walk_at "t") (by walk_at "q") (by walk_at "w") (λ_ _ _ _ _ _ => (by walk_at "q")) (λ_ _ _ _ _ _ => (by walk_at "q")))|((with_reducible show H0 _ _ _ (k9 _ (p9 _ _ _ _))); exact Ip (by walk_at "n") rfl (by walk_at "v") rfl (by walk_at "u") (by walk_at "m") (by walk_at "t") (by walk_at "q") (by walk_at "w") (λ_ _ _ _ _ _ => (by walk_at "q")) (λ_ _ _ _ _ _ => (by walk_at "q")) (λ_ _ _ _ _ _ => (by walk_at "q")))|((with_reducible show H0 _ _ _ (O8 _ (p9 _ _ _ _))); exact Io (by walk_at "n") rfl (by walk_at "v") rfl (by walk_at "u") (by walk_at "m") (by walk_at "t") (by walk_at "q") (by walk_at "w") (λ_ _ _ _ _ _ => (by walk_at "q")) (λ_ _ _ _ _ _ => (by walk_at "q")) (λ_ _ _ _ _ _ => (by walk_at "q")))|((with_reducible show H0 _ _ _ (xp _ _ _ _)); exact Qc (pv _) (by walk_at "q") (by walk_at "q") (by walk_at "q"))|((with_reducible show H0 _ _ _ (uA _ _)); exact Vq _ (pv _))|((with_reducible show H0 _ _ _ (k9 _ _)); exact Qb (by walk_at "n") rfl (by walk_at "v") (by walk_at "q"))|((with_reducible show H0 _ _ _ (A1 (oK _))); exact GG (fr := false) (by walk_at "q"))|((with_reducible show H0 _ _ _ (A1 _)); exact GG (fr := true) (by walk_at "q"))|((with_reducible show H0 _ _ _ (Y8 _)); exact Qd _ (pv _))|((with_reducible show H0 _ _ _ (M0 _ _ _)); exact Yq (by walk_at "q") (by walk_at "q") (by walk_at "q"))|((with_reducible show H0 _ _ _ (D4 _ _ _)); exact Qk MY rfl (by walk_at "t") (by walk_at "q") (by walk_at "q") (by walk_at "q"))|((with_reducible show H0 _ _ _ (O8 _ _)); exact Vp (by walk_at "n") rfl (by walk_at "v") (by walk_at "q"))|((with_reducible show H0 _ _ _ (xq)); exact KW)|((with_reducible show H0 _ _ _ (uC _ _)); exact Qj _ (by walk_at "q"))|((with_reducible show H0 _ _ _ (cy _ _)); exact Vt _ (pv _) (by walk_at "q"))|((with_reducible show H0 _ _ _ (vN _ _)); exact Vs _ (pv _) (by walk_at "q"))|((with_reducible show H0 _ _ _ (uB _ _ _)); exact Qi _ (pv _) (by walk_at "q") (by walk_at "q"))|((with_reducible show H0 _ _ _ (bX _ _ _)); exact Qa _ (pv _) (by walk_at "q") (by walk_at "q"))|((with_reducible show H0 _ _ _ (kA _ _ _)); exact KO _ MY (by walk_at "q") (by walk_at "q"))|((with_reducible show H0 _ _ _ (M8 _)); exact KY (by walk_at "q"))|((with_reducible show H0 _ _ _ (Bv _)); exact Qe (by walk_at "q"))|((with_reducible show H0 _ _ _ (pH _ _)); exact KP (by walk_at "n") rfl (by walk_at "v") (by walk_at "q"))|((with_reducible show H0 _ _ _ (mK)); exact KU)|((with_reducible show H0 _ _ _ (U9 _ _ _ _ _)); exact Qg T.cn (T.na _ f5) (pv _) (by first|exact λ_ _ h => .inr h|exact λ_ _ h => .inl h) (by walk_at "q"))|((with_reducible show H0 _ _ _ (bY _ _ _ _ _)); exact Qf T.cn (T.na _ f5) (pv _) (by walk_at "q") (by walk_at "q"))|((with_reducible show H0 _ _ _ (oi _ _ _ _)); exact Qh T.cn (T.na _ f5) (pv _) (by walk_at "q")))
local macro_rules | `(tactic| walk_at "z") => `(tactic| first|((with_reducible show cR _ _ _ (mQ _ _)); exact ow.pt (by walk_at "q"))|((with_reducible show cR _ _ _ (AQ _ _)); exact ow.pt (by walk_at "q"))|((with_reducible show cR _ _ _ (Sr _)); exact Vl (by walk_at "q"))|((with_reducible show cR _ _ _ (o8 (j8 Z7 _ _))); exact fg (fr := true) (r := Ij K) (Lm hr.units) Xb (eI _) (by walk_at "q") (by walk_at "q"))|((with_reducible show cR _ _ _ (o8 (j8 lj _ _))); exact fg (fr := true) (r := Px K) (YN hr.units) a2h (eI _) (by walk_at "q") (by walk_at "q"))|((with_reducible show cR _ _ _ (o8 (j8 uY _ _))); exact fg (fr := true) a0V a2k (eI _) (by walk_at "q") (by walk_at "q"))|((with_reducible show cR _ _ _ (o8 (j8 ri _ _))); exact fg (fr := true) IA WX (eI _) (by walk_at "q") (by walk_at "q"))|((with_reducible show cR _ _ _ (o8 (j8 TH _ _))); exact fg (fr := true) a0W a2l (eI _) (by walk_at "q") (by walk_at "q"))|((with_reducible show cR _ _ _ (o8 (j8 AE _ _))); exact fg (fr := true) a0U a2i (eI _) (by walk_at "q") (by walk_at "q"))|((with_reducible show cR _ _ _ (o8 (j8 mI _ _))); exact fg (fr := true) YS a2j (eI _) (by walk_at "q") (by walk_at "q"))|((with_reducible show cR _ _ _ (o8 (j8 gb _ _))); exact fg (fr := true) VL Um (eI _) (by walk_at "q") (by walk_at "q"))|((with_reducible show cR _ _ _ (o8 (j8 zu _ _))); exact fg (fr := true) (r := Py K) (YQ hr.units) a0y (eI _) (by walk_at "q") (by walk_at "q"))|exact Vk (fr := true) (by walk_at "q"))
local macro_rules | `(tactic| walk_at "q") => `(tactic| first|(show PX _ _ _ _ _; walk_at "x")|((with_reducible show cT _ _ _ _ (f6 _ _)); exact QH (by walk_at "q") (by walk_at "q"))|exact GL|(show H0 _ _ _ _; walk_at "y")|(show iP _ [_] _ _; exact Ql (by walk_at "q"))|((with_reducible show iP _ _ _ (j9 _ _)); exact KZ (by walk_at "q") (by walk_at "q"))|exact Qm|(show cR _ _ _ _; walk_at "z")|(show ow _ (.BoolOp .And [_] _) _ _; exact PY (by walk_at "q"))|(show ow _ (.BoolOp .Or [_] _) _ _; exact Vi (by walk_at "q"))|((with_reducible show ow _ _ _ (mQ _ _)); exact Vj (by walk_at "q") (by walk_at "q"))|((with_reducible show ow _ _ _ (AQ _ _)); exact Yn (by walk_at "q") (by walk_at "q"))|((with_reducible show eU _ _ _ _ _ (x9 C9 _)); exact Iw rfl (T.n _ f5) (by walk_at "q"))|((with_reducible show eU _ _ _ _ _ (x9 jx _)); exact Iv rfl (T.n _ f5) (by walk_at "q"))|((with_reducible show eU _ _ _ _ _ (x9 cq _)); exact VA rfl (T.n _ f5) (by walk_at "q"))|((with_reducible show eU _ _ _ _ _ (x9 vy _)); exact VC (K' := K) rfl rfl (T.n _ f5) (by walk_at "q"))|((with_reducible show eU _ _ _ _ _ (x9 bZ _)); exact Qw rfl (T.n _ f5) (by walk_at "q"))|((with_reducible show eU _ _ _ _ _ (M7 _)); exact VB (by walk_at "q"))|((with_reducible show PG _ _ (Y9 _)); exact GH (by walk_at "n") rfl (by walk_at "v"))|((with_reducible show PG _ _ (CQ _ _ _)); exact Yx rfl (by walk_at "q"))|((with_reducible show MX _ _ (uD _ _)); exact QA (by walk_at "q") (by walk_at "q"))|exact VE|exact Le|(show lJ _ _ _ _; exact Ld (by walk_at "q"))|exact Qt|(show MW _ _ _ _; exact Qs (fr := true) (by walk_at "q"))|((with_reducible show sL _ _ _ (bW _ _)); exact QI _ (pv _) (by walk_at "q"))|((with_reducible show sL _ _ _ (B8 _ _)); exact QJ (by walk_at "q") (by walk_at "q"))|exact VJ|((with_reducible show pL _ _ _ (L6 _ _ _ V7 _)); exact jz T.cn (pv _) (T.m 16 rfl).m (iC T).h (hr.mono (by omega)) (iC (P := P) (w := w) (base := base) T).b da (by walk_at "q") (pl := _))|((with_reducible show pL _ _ _ (L6 _ _ _ Y0 _)); exact jz T.cn (pv _) (T.m 17 rfl).m (jt T).h (hr.mono (by omega)) (jt (P := P) (w := w) (base := base) T).b da (by walk_at "q") (pl := _))|((with_reducible show pL _ _ _ (L6 _ _ _ J1 _)); exact jz T.cn (pv _) (T.m 18 rfl).m (Y4 T).h (hr.mono (by omega)) (Y4 (P := P) (w := w) (base := base) T).b da (by walk_at "q") (pl := _))|((with_reducible show pL _ _ _ (L6 _ _ _ Q7 _)); exact jz T.cn (pv _) (T.m 19 rfl).m (gI T).h (hr.mono (by omega)) (gI (P := P) (w := w) (base := base) T).b da (by walk_at "q") (pl := _))|((with_reducible show pL _ _ _ (L6 _ _ _ L7 _)); exact jz T.cn (pv _) (T.m 22 rfl).m (rh T).h (hr.mono (by omega)) (rh (P := P) (w := w) (base := base) T).b da (by walk_at "q") (pl := _))|((with_reducible show pL _ _ _ (L6 _ _ _ cF _)); exact jz T.cn (pv _) (T.m 23 rfl).m (rf T).h (hr.mono (by omega)) (rf (P := P) (w := w) (base := base) T).b da (by walk_at "q") (pl := _))|((with_reducible show pL _ _ _ (bz kX _)); exact vA (GP T).h (hr.mono (by omega)) rfl (T.f 29 rfl).m (T.f 29 rfl).F.kp (GP (P := P) (w := w) (base := base) T).b da (by walk_at "q"))|((with_reducible show pL _ _ _ (bz jk _)); exact vA (uS T).h (hr.mono (by omega)) rfl (T.f 63 rfl).m (T.f 63 rfl).F.kp (uS (P := P) (w := w) (base := base) T).b da (by walk_at "q"))|((with_reducible show pL _ _ _ (bz bp _)); exact vA (oZ T).h (hr.mono (by omega)) rfl (T.f 64 rfl).m (T.f 64 rfl).F.kp (oZ (P := P) (w := w) (base := base) T).b da (by walk_at "q")))
local macro_rules | `(tactic| walk_at "j") => `(tactic| exact okA _ λ_ _ _ _ _ _ nd hr => ⟨_, by walk_at "q"⟩)
local macro_rules | `(tactic| walk_at "i") => `(tactic| exact okB _ λ_ _ _ _ _ _ nd hr => ⟨_, by walk_at "q"⟩)
section
variable{K:n6}{mg:Str->Option j5}{ad:Ads}(T:Txt K mg ad)
theorem uM:Ok P w mg base (T.f 0 rfl) 1 (B5 K L3):=by delta L3 bK bL;walk_at "j"
theorem FU:Ok P w mg base (T.f 1 rfl) 2 (B5 K R4):=by delta R4;walk_at "j"
theorem VT:Ok P w mg base (T.f 2 rfl) 2 (B5 K kW):=by delta kW;walk_at "j"
theorem QT:Ok P w mg base (T.f 3 rfl) 3 (B5 K aE):=by delta aE;walk_at "j"
theorem QR:Ok P w mg base (T.f 4 rfl) 2 (B5 K U3):=by delta U3;walk_at "j"
theorem VU:Ok P w mg base (T.f 5 rfl) 3 (B5 K tV):=by delta tV;walk_at "j"
theorem QQ:Ok P w mg base (T.f 6 rfl) 1 (B5 K ig):=by delta ig;walk_at "j"
theorem rX:Ok P w mg base (T.f 7 rfl) 3 (B5 K J6):=by delta J6 V8;walk_at "j"
theorem QP:Ok P w mg base (T.f 8 rfl) 1 (B5 K ie):=by delta ie;walk_at "j"
theorem FQ:Ok P w mg base (T.f 9 rfl) 4 (B5 K ji):=by delta ji nP;walk_at "j"
theorem Cm:Ok P w mg base (T.f 10 rfl) 2 (B5 K gC):=by delta gC U6 U8;walk_at "j"
theorem FP:Ok P w mg base (T.f 11 rfl) 1 (B5 K jh):=by delta jh;walk_at "j"
theorem IE:Ok P w mg base (T.f 12 rfl) 1 (B5 K kU):=by delta kU oQ;walk_at "j"
theorem uN:Ok P w mg base (T.f 13 rfl) 1 (B5 K W6):=by delta W6 S0;walk_at "j"
theorem Lp:Ok P w mg base (T.f 14 rfl) 1 (B5 K gT):=by delta gT qY;walk_at "j"
theorem Y4:Ok P w mg base (T.m 18 rfl) 1 (B5 K J1):=by delta J1 bT;walk_at "j"
theorem jt:Ok P w mg base (T.m 17 rfl) 4 (iw K Y0):=by delta Y0 ax aw O0 O4 av au;walk_at "i"
theorem iC:Ok P w mg base (T.m 16 rfl) 4 (iw K V7):=by delta V7 Z5 S3 cJ cH;walk_at "i"
theorem oa:Ok P w mg base (T.i 15 rfl) 5 (iw K aF):=by delta aF hE hC hB gZ;walk_at "i"
theorem gI:Ok P w mg base (T.m 19 rfl) 2 (B5 K Q7):=by delta Q7;walk_at "j"
theorem mE:Ok P w mg base (T.m 20 rfl) 2 (B5 K Q0):=by delta Q0 fV;walk_at "j"
theorem pa:Ok P w mg base (T.m 21 rfl) 2 (B5 K U7):=by delta U7 jo;walk_at "j"
theorem rh:Ok P w mg base (T.m 22 rfl) 1 (iw K L7):=by delta L7 cN;walk_at "i"
theorem rf:Ok P w mg base (T.m 23 rfl) 3 (iw K cF):=by delta cF cM fI cG;walk_at "i"
theorem IM:Ok P w mg base (T.f 24 rfl) 3 (B5 K kY):=by delta kY kl;walk_at "j"
theorem Lv:Ok P w mg base (T.f 25 rfl) 4 (B5 K gU):=by delta gU az;walk_at "j"
theorem QS:Ok P w mg base (T.f 26 rfl) 3 (B5 K ij):=by delta ij kZ;walk_at "j"
theorem Lq:Ok P w mg base (T.f 27 rfl) 1 (B5 K nM):=by delta nM;walk_at "j"
theorem Ba:Ok P w mg base (T.f 28 rfl) 2 (B5 K aS):=by delta aS aG;walk_at "j"
theorem GP:Ok P w mg base (T.f 29 rfl) 4 (iw K kX):=by delta kX;walk_at "i"
theorem Lw:Ok P w mg base (T.f 30 rfl) 3 (B5 K bQ):=by delta bQ ra lQ;walk_at "j"
theorem FR:Ok P w mg base (T.f 31 rfl) 3 (B5 K jj):=by delta jj fe;walk_at "j"
theorem Lo:Ok P w mg base (T.f 32 rfl) 3 (B5 K jR):=by delta jR lO;walk_at "j"
theorem Lr:Ok P w mg base (T.f 33 rfl) 7 (B5 K nN):=by delta nN bJ ay qZ;walk_at "j"
theorem QW:Ok P w mg base (T.f 34 rfl) 3 (B5 K ql):=by delta ql;walk_at "j"
theorem AY:Ok P w mg base (T.f 35 rfl) 3 (B5 K cD):=by delta cD;walk_at "j"
theorem QV:Ok P w mg base (T.f 36 rfl) 1 (B5 K me):=by delta me;walk_at "j"
theorem VV:Ok P w mg base (T.f 37 rfl) 1 (B5 K dN):=by delta dN;walk_at "j"
theorem Lu:Ok P w mg base (T.f 38 rfl) 4 (B5 K dA):=by delta dA;walk_at "j"
theorem wU:Ok P w mg base (T.f 39 rfl) 5 (B5 K cE):=by delta cE;walk_at "j"
theorem vH:Ok P w mg base (T.f 40 rfl) 5 (B5 K ej):=by delta ej lC lB;walk_at "j"
theorem wR:Ok P w mg base (T.f 41 rfl) 5 (B5 K fG):=by delta fG dC;walk_at "j"
theorem Bb:Ok P w mg base (T.f 42 rfl) 6 (B5 K jl):=by delta jl fK fJ;walk_at "j"
theorem ID:Ok P w mg base (T.f 43 rfl) 1 (B5 K oD):=by delta oD bS jZ kb;walk_at "j"
theorem Cg:Ok P w mg base (T.f 44 rfl) 1 (B5 K jX):=by delta jX rz ly;walk_at "j"
theorem yY:Ok P w mg base (T.f 45 rfl) 2 (B5 K dO):=by delta dO jn oG jm;walk_at "j"
theorem Ls:Ok P w mg base (T.f 46 rfl) 4 (B5 K qW):=by delta qW;walk_at "j"
theorem IF:Ok P w mg base (T.f 47 rfl) 5 (B5 K oE):=by delta oE ke vm;walk_at "j"
theorem Ci:Ok P w mg base (T.f 48 rfl) 4 (B5 K jY):=by delta jY gN dP;walk_at "j"
theorem Cn:Ok P w mg base (T.f 49 rfl) 8 (B5 K gD):=by delta gD rD rC rB rA;walk_at "j"
theorem LC:Ok P w mg base (T.f 50 rfl) 1 (B5 K D2):=by delta D2;walk_at "j"
theorem LA:Ok P w mg base (T.f 51 rfl) 1 (B5 K gX):=by delta gX lN lR;walk_at "j"
theorem QU:Ok P w mg base (T.f 52 rfl) 2 (B5 K D6):=by delta D6;walk_at "j"
theorem IG:Ok P w mg base (T.f 53 rfl) 2 (B5 K D9):=by delta D9;walk_at "j"
theorem IL:Ok P w mg base (T.f 54 rfl) 1 (B5 K ip):=by delta ip;walk_at "j"
theorem Cj:Ok P w mg base (T.f 55 rfl) 2 (B5 K bR):=by delta bR bq;walk_at "j"
theorem AZ:Ok P w mg base (T.f 56 rfl) 1 (B5 K F6):=by delta F6;walk_at "j"
theorem FT:Ok P w mg base (T.f 57 rfl) 2 (B5 K I0):=by delta I0;walk_at "j"
theorem IH:Ok P w mg base (T.f 58 rfl) 2 (B5 K ik):=by delta ik;walk_at "j"
theorem IJ:Ok P w mg base (T.f 59 rfl) 3 (B5 K oF):=by delta oF gE ki;walk_at "j"
theorem LB:Ok P w mg base (T.f 60 rfl) 1 (B5 K gY):=by delta gY;walk_at "j"
theorem Lz:Ok P w mg base (T.f 61 rfl) 2 (B5 K W5):=by delta W5;walk_at "j"
theorem II:Ok P w mg base (T.f 62 rfl) 2 (B5 K R9):=by delta R9 kh;walk_at "j"
theorem uS:Ok P w mg base (T.f 63 rfl) 3 (iw K jk):=by delta jk cL;walk_at "i"
theorem oZ:Ok P w mg base (T.f 64 rfl) 4 (iw K bp):=by delta bp;walk_at "i"
theorem Ly:Ok P w mg base (T.f 65 rfl) 5 (B5 K gW):=by delta gW fH rd;walk_at "j"
theorem IK:Ok P w mg base (T.f 66 rfl) 3 (B5 K bI):=by delta bI oS oR kj;walk_at "j"
theorem Lx:Ok P w mg base (T.f 67 rfl) 9 (B5 K qX):=by delta qX Ad;walk_at "j"
end
theorem all_mk{l:Er}{w:x5}{K:n6}{h:Heap}{mg:Str->Option j5}{fa:Addr}(X:K.In h)(G:h.Ns X2 mg)(hfa:mg "law" = U (.ref fa)){C:Addr}{fs cs:List Addr}{ds:List P8}(aC:eY K X2 "Table" = U (U (.ref C)))(A:Ns K C TR fs ds)(hc:(tJ K C kK=Uf/\tM K C=Uf)/\EI K C=Uf/\ai K (.ref C) "__setattr__" = U (U (.builtin "object.__setattr__")))(mc:Et K C=Uf)(kc:gA K (.ref C)=Uf)(na:Al (X8 K C) ["scales","columns","multiples","weights","unit","rights","limits","chosen","full","size","inverse","prices"])(z:Al (λs=>eY K X2 s=U J) ["abs","dict","enumerate","len","list","range","reversed","sum","tuple","zip"])(cc:Ck K cts cs):
  ∃fd:P8,(∀(s:l5) (v:j5),kH s fd ⟨[v],[]⟩ [("_law_script",v)])/\∀base:Heap,K.In base->base.Ns X2 mg->ar l.prog w K mg base rE 9 fa fd ["_law_script"] (B5 K qX):=by
 let ad:Ads:=⟨λi=>fs.getD i 0,λi=>ds.getD i (gw kK kK (ia (top 0)) (bj (top 0)) (J2 (top 0)) .none .none .none .none J .none .none),λi=>cs.getD i 0,C⟩
 have T:Txt K mg ad:=⟨λi _ _ _ _ m=>by
  cases A.at m with
  |f a r=>exact⟨Tj r,Ed X G a⟩,λi _ _ _ _ _ _ m=>by
  cases A.at m with
  |m a b r=>exact⟨Tj r,a,b,(Tj r).kp⟩,λi _ _ _ _ _ m=>by
  cases A.at m with
  |i a b r=>exact⟨Tj r,mc,a,b,kc⟩,⟨aC,⟨hc.1.1,hc.1.2,hc.2.1,hc.2.2⟩⟩,Ed X G aC,λ_ m=>na.at m,λ_ m=>PySem.W.mg_none_of X G (z.at m),λi _ _ m=>⟨Ed X G (cc.at m).1,(cc.at m).2.to⟩⟩
 have e:fa=ad.f 67:=Value.ref.inj (R1 (hfa.symm.trans (T.f 67 rfl).m));exact⟨ad.d 67,λs v=>(A.at (i:=67) rfl).to (by walk_at "b") s [v] rfl,λbase _ _=>e▸(Lx T).h⟩
theorem walk {l:Er} {XP:(Str->Option j5)->Heap->Prop} {YP:x5->Heap->Prop} {d:DefRec} {K:Params->n6} (hL:∀ns:List Int,ns.length<=63->qX [.list (ns.map .int)]=U (.dat (.bool Uf))) (hn:l.most=U 63) (hdf:d.params.defaults=[]) (hY:∀(w:x5) (h:Heap),YP w h->(K w.params).In h) (F:∀(w:x5) (mg:Str->Option j5) (fa:Addr) (h:Heap),(K w.params).In h->h.Ns X2 mg->mg d.name=U (.ref fa) ->
   ∃fd:P8,(∀(s:l5) (u:j5),kH s fd ⟨[u],[]⟩ [("_law_script",u)])/\∀base:Heap,(K w.params).In base->base.Ns X2 mg->ar l.prog w (K w.params) mg base rE 9 fa fd ["_law_script"] (B5 (K w.params) qX)) :
  PySem.W.WalkO P Y XP YP l.row.toRowW d [] (λf vs=>DJ f vs) :=
 L2.Ux (n:=63) (k:=9) (x:="_law_script") (CX:=λ_=>rE) (sp:=λw=>B5 (K w.params) qX) hn f5 hdf ⟨rfl,by decide,by decide⟩ hY F (λ_ _ a ns hl _ hS=>⟨[],[.list (ns.map .int)],_,λa h=>absurd h t7,.cons (.lst (UK hS) (RQ ns)) .nil,hL ns hl,λv H' _ r=>Wz r⟩) λ_ _ _ _ _ z=>z
end Law
local macro_rules | `(tactic| walk_at "k") => `(tactic| (refine' Law.Rw.mk ?l ?c ?k; (case l => k_is); (case c => k_is); (case k => k_is)))
local macro_rules | `(tactic| walk_at "p") => `(tactic| first|exact .n|exact .c (.f (by k_is) (by walk_at "k")) (by walk_at "p")|exact .c (.m (by k_is) (by k_is) (by walk_at "k")) (by walk_at "p")|exact .c (.i (by k_is) (by k_is) (by walk_at "k")) (by walk_at "p"))
local macro_rules | `(tactic| walk_at "e") => `(tactic| first|exact .n|exact .i|exact .c (by k_is) (by walk_at "e") (by walk_at "e")|exact .c (by walk_at "e") (by walk_at "e")|exact .t (by k_is) t7 (by walk_at "e"))
local macro_rules | `(tactic| walk_at "a") => `(tactic| repeat first|exact .n|refine .c (by show _ = _; k_is) ?_)
structure PySem.W.Fast:Prop where
 (tw10001056609657053220 tw10164796686764376940 tw10393128199062120505 tw10429004988360146467 tw10433970487757653204 tw10452975533631774906 tw1047051939397007499 tw10498991850432105525 tw10686986075121139697 tw10693969490336787817 tw10776443653037854348 tw11027094661287388512 tw11140695796839825943 tw11160059894233726271 tw11277955588354341146 tw1128530694881241602 tw11300337118775127338 tw11326336631766195238 tw11327127627189281608 tw11343173052402107530 tw11483306686088749098 tw11637711927541263151 tw11642152170611317047 tw11675940101196340515 tw11698339362830412841 tw11738261751617754837 tw11771177012203591511 tw11942417621441756259 tw12027181845532644257 tw12067573428660606345 tw1207193589907777780 tw12223108912530059949 tw12278427351050711354 tw12419231931327480271 tw12437713053386988472 tw12449581142046182412 tw12484258279719204786 tw12586769031325428800 tw12834053943020727512 tw12968734939086854530 tw13039898654970070011 tw13083146897096690407 tw13131017884432792068 tw13187257187367828884 tw13242524539032818823 tw13375749177240338440 tw13563559475910136222 tw13603422552260750626 tw13722917918970829888 tw13910230444081282220 tw13998858439899926834 tw14036969476083602011 tw14065091297194577119 tw14143757634813144803 tw14147237235866340026 tw142733147004802173 tw14371913600018922119 tw14376699183017513378 tw14538356033620494326 tw14619655257107809899 tw14654127288518283504 tw14670540748234211730 tw14751594681875066648 tw14827415431524013825 tw14880039900260068616 tw15005135666289759917 tw1528135824339833541 tw1529345479888806782 tw15413280344139123047 tw15487414745161427655 tw15715069966466799097 tw15736430733037556821 tw16138329962561390443 tw16251433409598443253 tw1644360344000148551 tw16582427182061189410 tw16668219870726484331 tw16678849891871974707 tw16832387835711282896 tw16883334128333544637 tw16947771993381330372 tw16985130625877835302 tw17075046475985493620 tw17131664576253838875 tw17162364607196953319 tw17190669213888067205 tw17257124343132145077 tw17285138383327842342 tw17376094885690389484 tw17393209657723511649 tw17442655097600716349 tw17498235274575187785 tw17586996312043540314 tw17608745948134475004 tw17722233005501567748 tw17750803741191686527 tw17950353220580312524 tw17964288335065688828 tw18024610201587234140 tw18029766849587528491 tw18180862667080589396 tw181879813695810230 tw18306520676227356823 tw1834011282252952192 tw18344115941232253800 tw1904147081199043218 tw1995742496815673289 tw2090846495940367844 tw2141185183974582593 tw2248969785435593425 tw2578947607168368929 tw2753931215118988597 tw2978547896531122156 tw3337278413736945799 tw3543825111519477541 tw3637587473865701685 tw3790234860440719084 tw3824199110134161205 tw3826678086098727360 tw382913458997711786 tw3952406143791006925 tw4095915355577834027 tw4165867284542952910 tw4168474762788645287 tw4208717467678934059 tw4282846962798764250 tw4311453353207752477 tw4350832916417307130 tw4509046878897100148 tw4575999697458873353 tw4668566988258973960 tw4677411439076819607 tw4697028463824844954 tw4815461047079866429 tw4852794839078794898 tw5121799046688124310 tw5141754792367981674 tw5192081304977280567 tw5249106463435467361 tw5260211098646705141 tw55610438392064183 tw5642529566966556939 tw5673029728409999702 tw5675638209017544668 tw5697954256298151583 tw6049191066940610 tw6052053112242661811 tw6121046397004004412 tw6415645718980373310 tw6707697304898966442 tw6993338483362815807 tw709211394101467085 tw7344405498475684118 tw7427930664074387583 tw742914643068321633 tw7443107234355276823 tw7459274497777043639 tw7479008945280840901 tw7565371517719046191 tw7730531619952933836 tw7753814791362511683 tw7841214806701518784 tw7896473730642563387 tw8029994822059300286 tw8161604994379022172 tw8359007610885637370 tw8676677269510574904 tw8704389373158975831 tw873171732353508930 tw9169842083569723472 tw9226173919990064572 tw9257493682154140506 tw9300284019464531446 tw9372777686940192392 tw9395806902484217725 tw9591908683850469234 tw9738488842570675266 tw9746885987078094765 tw4266377483167264423 tw5449343117755929775 tw1234714757537761538 tw8237848564038221699 tw12283482615888587624 tw4902441646749313197 tw5235301722786846107 tw4108149976677338172 tw12254926957245232594 tw5618155820870980159 tw11218773433255797620 tw5362172573483453950 tw6872145647975652431 tw17675397053046552494 tw11013358335597666071 tw5063699562981023779 tw12700190710100169067 tw7529740302758904457 tw13449317177066452207 tw10310716092566642892 tw9835040341676895370 tw16687013307519721818 tw5381930950828143536 tw10200160356960099909 tw12537188843938846622 tw4041988373538043068 tw210820407188343265 tw5481445947800200858 tw2490095490813578037 tw16848828723080743612 tw4072128991495005908 tw14558515133469652841 tw675313645519864778 tw13246415429857999064 tw1249644367271647623 tw11469157441459651013 tw9499919953796120630 tw17827391766004034415 tw17397142075907445392 tw5775652334293282667 tw8940248575379050673 tw2681311529479318337 tw2598781199266043670 tw10824545142058338080 tw7403781163245424067 tw6075201051786068479 tw3733361175177526899 tw13737740913005036413 tw8188594681829498850 tw797685512352084539 tw16573096439073820161 tw346888589013213315 tw2610300065682010196 tw2042262792470864018 tw18196143010118245834 tw17034445293193934556 tw12252924163605652029 tw17287263123320184371 tw5754989043644636128 tw14955394065894675095:True)
open PySem PySem.W PyProof.Rows
set_option maxRecDepth 100000 in
set_option maxHeartbeats 0 in
theorem PySem.Challenge.cw_sunstore_k52_whole_no_plan_costs_less_holds : PySem.Challenge.rw_sunstore_k52_whole_no_plan_costs_less.Holds := by
 w_on;o_law;k_head;(case hw=>w_witness2)
 k_fill
 refine Law.walk (l:=PySem.Challenge.rw_sunstore_k52_whole_no_plan_costs_less) Law.Rt rfl rfl (λw h Y=>PySem.W.kIn_of Y) ?F
 case F =>
  intro w mg fa h KX G hmg;exact Law.all_mk KX G hmg (by k_is) (by walk_at "p") ⟨⟨by k_is,by k_is⟩,by k_is,by k_is⟩ (by k_is) (by k_is) (by walk_at "a") (by walk_at "a") (by walk_at "e")
